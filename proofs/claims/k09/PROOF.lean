import PyProof.Rows.All
import Wide.All
import OpenK.AllK
import Wide.FinOn
import Lean
import PyProof.EqAt
import PyProof.EqKinds
import PyProof.TupleCall
import PyProof.TupleKey
import PyProof.Rows.Catch
import KE.KRevSl
import PyProof.P3Eq
import KE.LcSums
import PyProof.EnumMake
import PyProof.StrWalks
import PyProof.Conv_int_bool
import KE.KIntText
import PyProof.Rows.StrNews2
import PyProof.StrBlock2
import PyProof.Rows.StrNews
import PyProof.StrLawsRepr
import PyProof.ReprStr
import PyProof.ReprRoads
import PyProof.DictIter
import PyProof.Rows.SetFrom
import KE.KDictList
import KE.KDictOf
import PyProof.AttrMissHeap
import KE.KEqDict
import PyProof.DictItems
import KE.KPairComp
import PyProof.Rows.Range3
import KE.IntTextText
import PyProof.StrLawsFirst
import PyProof.ReprBulk
import PyProof.ZipIter
import PyProof.Rows.ZipGen
import PyProof.TupleIter
import PyProof.ListRange
import PyProof.NeKinds
import PyProof.StrLawsTight
import PyProof.StrLawsChain
import PyProof.Draws
import PyProof.Rows.MatchSeqLen
import PyProof.SumAnyB
import PyProof.ExcInit
import PyProof.InstStoreFacts
import PyProof.DictUpdate
import PySem.Challenge.RW_hushduel_k09_games_shown
set_option compiler.extract_closed false
set_option genSizeOf false
noncomputable section
open PySem.Str renaming ofString->ae,ofString_eq_toList->kx,empty->kG
open PySem renaming wpAny_bind->af,starEach->ax,Value->ay,Shared->aS,sizeLine->aT,Program->bb,wpAny_pure->bg,mainGlobals->br,bootBuiltins->b9,wpAny->cb,World->cp,model->cw,compareOp->cy,FuncData->de,Around->dy,foldedSetIterable->eT,binaryOp->fm,wpAny_truthy_bool->fv,behindInMarks->f6,wpAny_Call_Name_kw->f7,wpAny_passesOwn->gN,backTo->gX,attributeBase->hG,mem_of_lookup->hJ,Paired->h8,wpAny_mono->iF,wpAny_newObj_type->iL,swapsWith->iS,assignEach->js,wpAny_specialOf->ka,scanBound->kl,sliceBounds->ky,GenState->kB,codeAny_mono->kH,wpAny_holding->la,wpAny_execs_nil->l6,wpAny_field->l8,keywordEach->l9,strKind->me,Scope->mo,wpAny_pyIter_list->mS,typeIs_str->mT,wpAny_comprehension_free->nh,codeAny->nN,NameKind->nS,wpAny_call_entry->oe,noFill_tuple_add->oj,PyData->om,letOwnedTupleGo->oP,concat_meets->o3,wpAny_typeOf->pb,codeAny_builtin->pz,sysModules->qh,IsPart->qE,wpAny_setField->qS,getItem->qV,Keyword->rj,strIterType->rl,PassesOwn->si,seq_tuple_add->sx,backToKw->sC,call_meets->sT,callerA->td,strKind_is->tf,Within->tj,bindArgs->ua,evalEach->ui,cLine->uj,BindsTo->uS,JoinOk->u3,assign->u7,call->va
open PySem.Heap renaming get?_push_of_some->ag,lt_size->a7,get?_push_size->bq,get?_update_other->dP,size_push->kD,get?_update_self->kK,SameBut->mB
open List renaming mem_cons_of_mem->ah,mem_cons_self->aE,size_toArray->a8,length_append->be,mem_cons->bo,getElem?_append_right->bp,getElem?_append_left->bE,append_assoc->bP,length_cons->bS,getElem?_map->bX,lookup_cons->cc,getElem?_eq_getElem->cf,mem_singleton->ck,cons_append->cm,map_cons->cE,mem_append_right->cK,getElem?_replicate->c8,nil_append->dk,append_nil->dA,getElem?_set_self->dE,length_map->dQ,getElem?_set_ne->ef,mem_append->eB,getElem?_eq_some_iff->eC,replicate->eD,range->eJ,Nodup->eR,length_replicate->ff,lookup->fA,length_singleton->gc,getElem?_drop->gu,mem_of_getElem?->gL,getElem?_cons_succ->hV,nodup_cons->ij,mem_map->iv,drop_eq_getElem_cons->i0,length_drop->i7,all_eq_true->i9,filterMap_cons->ja,mem_filterMap->kg,foldl_cons->ko,reverse_cons->kA,getD->kL,length_take->kU,not_mem_nil->kX,sum_cons->lj,zip_cons_cons->mM,drop_left->mP,all_cons->nE,drop_length->oq,take_of_length_le->oI,of_mem_zip->oQ,map_nil->pe,getElem?_eq_none->pj,dropLast_eq_take->pk,map_map->p9,mem_append_left->qo,dropLast_concat->qr,mem_range->qA,length->rh,mem_map_of_mem->rq,any_cons->sA
open Or renaming inl->ar,inr->ip
open Bool renaming false_ne_true->av,and_eq_true->i8,and_eq_true_iff->k8,eq_iff_iff->l7,false_eq_true->mE,not_true->r6
open PySem.W renaming Frag->aw,mg_none_of->eS,nsIn->fg,findIn->fR,kia_one->hW,emptyDict->ia,keepIn->kC,instObj->lI,mg_of->mh,plainGet->nc,hasDictIn->nL,fnOf->oT,plainOver->rf,plainGet_of->sj,makesIn->sk,callWith_K->tz,kitOne->t9,codeIn->ub
open Nat renaming le_refl->aI,lt_of_lt_of_le->a9,ne_of_lt->b0,le_trans->cn,lt_irrefl->eL,zero_le->eW,lt_succ_self->i6,ne_of_gt->kF,pow_le_pow_right->k9,add_assoc->nB,add_sub_cancel_left->nX,toDigits->pT,strongRecOn->pV,le_succ->rg,le_of_lt->tm,gcd_comm->tF,add_mul->u4
open Option.some renaming inj->cx
open PySem.Builtin.Str renaming occurrences->cS,strSub->mN,tooLong->rp
open PySem.Value renaming ref->c9,none->fT,str->ly,bool->qf,int->rL,type->sQ,float->uu
open PyProof.Rows renaming slot_tuple_getitem->dc,callWith_type1->fw,kindOf->ng,AllBare->nK,envOfC->qB
open PySem.NameKind renaming free->dS,cell->hU
open PySem.Txt renaming partition->d4,startswith->hZ,startswith3->iE,slice->kM,join->qk
open PySem.F renaming plainAttrs_str->eu,plainAttrs_list->eM,called_set->eP,slot_tuple_hash->g0,slot_str_join->ix,type_str_join->iA,args_tuple_add_2->jv,slot_list_append->jS,type_list_append->j3,entry_tuple_add->ki,slot_tuple_add->kv,slot_str_startswith->ml,type_str_startswith->mn,slot_str_partition->mx,slot_str_getitem->nk,slot_list_pop->pw,type_list_pop->px
open PySem.Builtin.Tuple renaming tupleHashOf->eA,tupleExact->gT,tupleItemsOf->iO
open List.cons renaming injEq->eI
open PySem.PassesOwn renaming leaving->eK
open PyProof.Rows.F renaming plain_set_update_loop->fq,entry_set_update_loop->i4
open PySem.Builtin.Int renaming intBits->fF,intTooBig->pf
open Option renaming map_some->fN
open Array renaming getElem?_eq_some_iff->fS,length_toList->lP,getElem?_toList->pd,forIn_toList->rX,append_assoc->r9,toList->tp
open PySem.SeqAt renaming shaped->gp,EqAt->sP
open Classical renaming choose_spec->gy,em->mI,choose->tP
open PySem.Builtin.Slice renaming slicePlaces->gE,sliceAdjust->iX,sliceApplied->mw
open False renaming elim->gS
open Char renaming toNat->h7
open Int renaming emod_lt_of_pos->h9,fdiv_eq_ediv_of_nonneg->iP,emod_nonneg->ku,natAbs_dvd_natAbs->kN,eq_ofNat_of_zero_le->n9,gcd->pE,mul_comm->tJ
open PySem.Builtin.List renaming listExtendWith->iq,listTooLong->jI,listSameRef->nv,listItems->oD
open PySem.PyData renaming eqv->iN,canLay0->i5,strOk->kP,depth->kQ,canLayAll0->ny,depthAll->pS,eqvAll->sF
open Ne renaming symm->kR
open True renaming intro->lx
open ForInStep renaming yield->ma
open PySem.Calls renaming Name_function_global->mr,callWith_builtin->oC,spliced_cons->so
open PySem.Paired renaming length->nI
open PySem.Obj renaming mapFields->nV,mapSeq->sR
open PySem.StrLaws renaming occ_head->oz,subAt_eq->oB,strSub_toList->p0
open PySem.Around renaming under_plainId->qq,under->tq
open PySem.EntryCells renaming newEntry->rk
open PySem.SeqAt.EqAt renaming int_str->rS,str_int->rV,int_int->sv,same->uk
open Prod renaming fst->sL
open Sum renaming inl->sM,inr->sN
open PySem.Code renaming isFrame->tw
abbrev Za:=PySem.Addr->Prop
abbrev Zs:=PySem.Str->Option PySem.Value
abbrev Zo:=List<|PySem.Addr×PySem.Obj
abbrev Zv:=PySem.Value->PySem.Shared->Prop
theorem xq5 {A B C D E:Sort _}{R Q:A->B->C->D->E->Prop}{P:Prop}(h:∃a b c d e,R a b c d e/\Q a b c d e)(k:∀a b c d e,R a b c d e->Q a b c d e->P):P:=by
 obtain⟨a,b,c,d,e,r,q⟩:=h;exact k a b c d e r q
theorem xq7 {A B C D E F G:Sort _}{R Q S T:A->B->C->D->E->F->G->Prop}{P:Prop}(h:∃a b c d e f g,R a b c d e f g/\Q a b c d e f g/\S a b c d e f g/\T a b c d e f g)(k:∀a b c d e f g,R a b c d e f g->Q a b c d e f g->S a b c d e f g->T a b c d e f g->P):P:=by
 obtain⟨a,b,c,d,e,f,g,r,q,s,t⟩:=h;exact k a b c d e f g r q s t
theorem xq2 {A B:Sort _}{R Q S:A->B->Prop}{P:Prop}(h:∃a b,R a b/\Q a b/\S a b)(k:∀a b,R a b->Q a b->S a b->P):P:=by
 obtain⟨a,b,r,q,s⟩:=h;exact k a b r q s
theorem xl1 {A:Type _}{us:List A}(h:us.length=1):∃a,us=[a]:=by
 cases us with
 |nil=>cases h
 |cons a t=>cases t with
  |nil=>exact⟨a,rfl⟩
  |cons _ _=>cases h
theorem xl0 {A:Type _}{us:List A}{n:Nat}(h:us.length=n+1):∃a t,us=a::t/\t.length=n:=by
 cases us with
 |nil=>cases h
 |cons a t=>exact⟨a,t,rfl,Nat.succ.inj h⟩
theorem xl2 {A:Type _}{us:List A}(h:us.length=2):∃a b,us=[a,b]:=by
 obtain⟨a,t,rfl,h'⟩:=xl0 (n:=1) h;obtain⟨b,rfl⟩:=xl1 h';exact⟨a,b,rfl⟩
theorem xl3 {A:Type _}{us:List A}(h:us.length=3):∃a b c,us=[a,b,c]:=by
 obtain⟨a,t,rfl,h'⟩:=xl0 (n:=2) h;obtain⟨b,c,rfl⟩:=xl2 h';exact⟨a,b,c,rfl⟩
theorem xl4 {A:Type _}{us:List A}(h:us.length=4):∃a b c d,us=[a,b,c,d]:=by
 obtain⟨a,t,rfl,h'⟩:=xl0 (n:=3) h;obtain⟨b,c,d,rfl⟩:=xl3 h';exact⟨a,b,c,d,rfl⟩
set_option Elab.async false
set_option linter.all false
set_option maxRecDepth 100000
theorem Ff {P0 P1 P2 P3 P4:Prop}{Z:Prop}(h:P0/\P1/\P2/\P3/\P4)(z:P0->P1->P2->P3->P4->Z):Z:=by
 obtain⟨h0,h1,h2,h3,h4⟩:=h;exact z h0 h1 h2 h3 h4
theorem rR {P0 P1 P2 P3 P4 P5:Prop}{Z:Prop}(h:P0/\P1/\P2/\P3/\P4/\P5)(z:P0->P1->P2->P3->P4->P5->Z):Z:=by
 obtain⟨h0,h1,h2,h3,h4,h5⟩:=h;exact z h0 h1 h2 h3 h4 h5
theorem Wf {Ta Tb Tc Td Te Tf Tg Th Ti Tj:Sort _}{P0 P1:Ta->Tb->Tc->Td->Te->Tf->Tg->Th->Ti->Tj->Prop}{Z:Prop}(h:∃a b c d e f g h i j,P0 a b c d e f g h i j/\P1 a b c d e f g h i j)(z:∀a,∀b,∀c,∀d,∀e,∀f,∀g,∀h,∀i,∀j,P0 a b c d e f g h i j->P1 a b c d e f g h i j->Z):Z:=by
 obtain⟨a,b,c,d,e,f,g,h,i,j,h0,h1⟩:=h;exact z a b c d e f g h i j h0 h1
theorem Vz {Ta Tb Tc Td Te Tf Tg Th Ti Tj Tk Tl:Sort _}{P0 P1:Ta->Tb->Tc->Td->Te->Tf->Tg->Th->Ti->Tj->Tk->Tl->Prop}{Z:Prop}(h:∃a b c d e f g h i j k l,P0 a b c d e f g h i j k l/\P1 a b c d e f g h i j k l)(z:∀a,∀b,∀c,∀d,∀e,∀f,∀g,∀h,∀i,∀j,∀k,∀l,P0 a b c d e f g h i j k l->P1 a b c d e f g h i j k l->Z):Z:=by
 obtain⟨a,b,c,d,e,f,g,h,i,j,k,l,h0,h1⟩:=h;exact z a b c d e f g h i j k l h0 h1
theorem o4 {Ta:Sort _}{P0 P1 P2 P3:Ta->Prop}{Z:Prop}(h:∃a,P0 a/\P1 a/\P2 a/\P3 a)(z:∀a,P0 a->P1 a->P2 a->P3 a->Z):Z:=by
 obtain⟨a,h0,h1,h2,h3⟩:=h;exact z a h0 h1 h2 h3
theorem wy {Ta:Sort _}{P0 P1 P2 P3 P4:Ta->Prop}{Z:Prop}(h:∃a,P0 a/\P1 a/\P2 a/\P3 a/\P4 a)(z:∀a,P0 a->P1 a->P2 a->P3 a->P4 a->Z):Z:=by
 obtain⟨a,h0,h1,h2,h3,h4⟩:=h;exact z a h0 h1 h2 h3 h4
theorem uE {Ta Tb:Sort _}{P0 P1 P2:Ta->Tb->Prop}{Z:Prop}(h:∃a b,P0 a b/\P1 a b/\P2 a b)(z:∀a,∀b,P0 a b->P1 a b->P2 a b->Z):Z:=by
 obtain⟨a,b,h0,h1,h2⟩:=h;exact z a b h0 h1 h2
theorem rZ {Ta Tb:Sort _}{P0 P1 P2 P3:Ta->Tb->Prop}{Z:Prop}(h:∃a b,P0 a b/\P1 a b/\P2 a b/\P3 a b)(z:∀a,∀b,P0 a b->P1 a b->P2 a b->P3 a b->Z):Z:=by
 obtain⟨a,b,h0,h1,h2,h3⟩:=h;exact z a b h0 h1 h2 h3
theorem wV {Ta Tb:Sort _}{P0 P1 P2 P3 P4:Ta->Tb->Prop}{Z:Prop}(h:∃a b,P0 a b/\P1 a b/\P2 a b/\P3 a b/\P4 a b)(z:∀a,∀b,P0 a b->P1 a b->P2 a b->P3 a b->P4 a b->Z):Z:=by
 obtain⟨a,b,h0,h1,h2,h3,h4⟩:=h;exact z a b h0 h1 h2 h3 h4
theorem QJ {Ta Tb:Sort _}{P0 P1 P2 P3 P4 P5:Ta->Tb->Prop}{Z:Prop}(h:∃a b,P0 a b/\P1 a b/\P2 a b/\P3 a b/\P4 a b/\P5 a b)(z:∀a,∀b,P0 a b->P1 a b->P2 a b->P3 a b->P4 a b->P5 a b->Z):Z:=by
 obtain⟨a,b,h0,h1,h2,h3,h4,h5⟩:=h;exact z a b h0 h1 h2 h3 h4 h5
theorem Gy {Ta Tb Tc:Sort _}{P0 P1:Ta->Tb->Tc->Prop}{Z:Prop}(h:∃a b c,P0 a b c/\P1 a b c)(z:∀a,∀b,∀c,P0 a b c->P1 a b c->Z):Z:=by
 obtain⟨a,b,c,h0,h1⟩:=h;exact z a b c h0 h1
theorem JK {Ta Tb Tc:Sort _}{P0 P1 P2:Ta->Tb->Tc->Prop}{Z:Prop}(h:∃a b c,P0 a b c/\P1 a b c/\P2 a b c)(z:∀a,∀b,∀c,P0 a b c->P1 a b c->P2 a b c->Z):Z:=by
 obtain⟨a,b,c,h0,h1,h2⟩:=h;exact z a b c h0 h1 h2
theorem K6 {Ta Tb Tc:Sort _}{P0 P1 P2 P3:Ta->Tb->Tc->Prop}{Z:Prop}(h:∃a b c,P0 a b c/\P1 a b c/\P2 a b c/\P3 a b c)(z:∀a,∀b,∀c,P0 a b c->P1 a b c->P2 a b c->P3 a b c->Z):Z:=by
 obtain⟨a,b,c,h0,h1,h2,h3⟩:=h;exact z a b c h0 h1 h2 h3
theorem Vl {Ta Tb Tc:Sort _}{P0 P1 P2 P3 P4:Ta->Tb->Tc->Prop}{Z:Prop}(h:∃a b c,P0 a b c/\P1 a b c/\P2 a b c/\P3 a b c/\P4 a b c)(z:∀a,∀b,∀c,P0 a b c->P1 a b c->P2 a b c->P3 a b c->P4 a b c->Z):Z:=by
 obtain⟨a,b,c,h0,h1,h2,h3,h4⟩:=h;exact z a b c h0 h1 h2 h3 h4
theorem Wr {Ta Tb Tc:Sort _}{P0 P1 P2 P3 P4 P5:Ta->Tb->Tc->Prop}{Z:Prop}(h:∃a b c,P0 a b c/\P1 a b c/\P2 a b c/\P3 a b c/\P4 a b c/\P5 a b c)(z:∀a,∀b,∀c,P0 a b c->P1 a b c->P2 a b c->P3 a b c->P4 a b c->P5 a b c->Z):Z:=by
 obtain⟨a,b,c,h0,h1,h2,h3,h4,h5⟩:=h;exact z a b c h0 h1 h2 h3 h4 h5
theorem Wo {Ta Tb Tc Td:Sort _}{P0:Ta->Tb->Tc->Td->Prop}{Z:Prop}(h:∃a b c d,P0 a b c d)(z:∀a,∀b,∀c,∀d,P0 a b c d->Z):Z:=by
 obtain⟨a,b,c,d,h0⟩:=h;exact z a b c d h0
theorem QQ {Ta Tb Tc Td:Sort _}{P0 P1:Ta->Tb->Tc->Td->Prop}{Z:Prop}(h:∃a b c d,P0 a b c d/\P1 a b c d)(z:∀a,∀b,∀c,∀d,P0 a b c d->P1 a b c d->Z):Z:=by
 obtain⟨a,b,c,d,h0,h1⟩:=h;exact z a b c d h0 h1
theorem Vj {Ta Tb Tc Td:Sort _}{P0 P1 P2:Ta->Tb->Tc->Td->Prop}{Z:Prop}(h:∃a b c d,P0 a b c d/\P1 a b c d/\P2 a b c d)(z:∀a,∀b,∀c,∀d,P0 a b c d->P1 a b c d->P2 a b c d->Z):Z:=by
 obtain⟨a,b,c,d,h0,h1,h2⟩:=h;exact z a b c d h0 h1 h2
theorem lV {Ta Tb Tc Td:Sort _}{P0 P1 P2 P3 P4:Ta->Tb->Tc->Td->Prop}{Z:Prop}(h:∃a b c d,P0 a b c d/\P1 a b c d/\P2 a b c d/\P3 a b c d/\P4 a b c d)(z:∀a,∀b,∀c,∀d,P0 a b c d->P1 a b c d->P2 a b c d->P3 a b c d->P4 a b c d->Z):Z:=by
 obtain⟨a,b,c,d,h0,h1,h2,h3,h4⟩:=h;exact z a b c d h0 h1 h2 h3 h4
theorem Wn {Ta Tb Tc Td Te:Sort _}{P0:Ta->Tb->Tc->Td->Te->Prop}{Z:Prop}(h:∃a b c d e,P0 a b c d e)(z:∀a,∀b,∀c,∀d,∀e,P0 a b c d e->Z):Z:=by
 obtain⟨a,b,c,d,e,h0⟩:=h;exact z a b c d e h0
theorem Gj {Ta Tb Tc Td Te:Sort _}{P0 P1:Ta->Tb->Tc->Td->Te->Prop}{Z:Prop}(h:∃a b c d e,P0 a b c d e/\P1 a b c d e)(z:∀a,∀b,∀c,∀d,∀e,P0 a b c d e->P1 a b c d e->Z):Z:=by
 obtain⟨a,b,c,d,e,h0,h1⟩:=h;exact z a b c d e h0 h1
theorem Wu {Ta Tb Tc Td Te:Sort _}{P0 P1 P2 P3 P4 P5 P6:Ta->Tb->Tc->Td->Te->Prop}{Z:Prop}(h:∃a b c d e,P0 a b c d e/\P1 a b c d e/\P2 a b c d e/\P3 a b c d e/\P4 a b c d e/\P5 a b c d e/\P6 a b c d e)(z:∀a,∀b,∀c,∀d,∀e,P0 a b c d e->P1 a b c d e->P2 a b c d e->P3 a b c d e->P4 a b c d e->P5 a b c d e->P6 a b c d e->Z):Z:=by
 obtain⟨a,b,c,d,e,h0,h1,h2,h3,h4,h5,h6⟩:=h;exact z a b c d e h0 h1 h2 h3 h4 h5 h6
theorem Ws {Ta Tb Tc Td Te Tf:Sort _}{P0:Ta->Tb->Tc->Td->Te->Tf->Prop}{Z:Prop}(h:∃a b c d e f,P0 a b c d e f)(z:∀a,∀b,∀c,∀d,∀e,∀f,P0 a b c d e f->Z):Z:=by
 obtain⟨a,b,c,d,e,f,h0⟩:=h;exact z a b c d e f h0
namespace L2
open PySem PySem.Spec PyProof.Rows
abbrev Key:=Sum Int Str
noncomputable def DX:Key->ay->Bool
 | .inl k,v=>Value.isInt k v
 | .inr x,v=>Value.isStrOf x v
noncomputable def T6 (w:cp):Key->Int
 | .inl k=>hashInt k
 | .inr x=>hashStr w x
theorem bM:∀{k:Key} {v:ay},DX k v=true->(∃i t,k=sM i/\v=rL i t)\/(∃x t,k=sN x/\v=ly x t)
 | .inl i,v,h=>by
  obtain⟨t,e⟩:=Value.isInt_shape (k:=i) (v:=v) h;exact .inl ⟨i,t,rfl,e⟩
 | .inr x,v,h=>by
  obtain⟨t,e⟩:=Value.isStrOf_shape (x:=x) (v:=v) h;exact .inr ⟨x,t,rfl,e⟩
theorem Sh (a b:Int):decide ((sM a:Key)=sM b)=(a==b):=by
 by_cases e:a=b
 ·subst e;simp
 ·have h:¬(sM a:Key)=sM b:=λq=>e<|Sum.inl.inj q;rw[decide_eq_false h];exact(beq_eq_false_iff_ne.mpr e).symm
theorem SX (a b:Str):decide ((sN a:Key)=sN b)=decide (a=b):=by
 by_cases e:a=b
 ·subst e;simp
 ·have h:¬(sN a:Key)=sN b:=λq=>e<|Sum.inr.inj q;rw[decide_eq_false h,decide_eq_false e]
theorem SQ (a:Int)(b:Str):decide ((sM a:Key)=sN b)=false:=decide_eq_false λq=>nomatch q
theorem Tn (a:Str)(b:Int):decide ((sN a:Key)=sM b)=false:=decide_eq_false λq=>nomatch q
def qF (prog:bb)(w:cp):PySem.KeyKind prog w Key where
 is:=DX
 hash:=T6 w
 inj:=λv a b ha hb=>by
  rcases bM ha with⟨i,t,rfl,rfl⟩|⟨x,t,rfl,rfl⟩
  ·rcases bM hb with⟨j,u,rfl,e⟩|⟨y,u,rfl,e⟩
   ·injection e with e1 _;rw[e1]
   ·exact nomatch e
  ·rcases bM hb with⟨j,u,rfl,e⟩|⟨y,u,rfl,e⟩
   ·exact nomatch e
   ·injection e with e1 _;rw[e1]
 byValue:=λk v h=>by
  rcases bM h with⟨i,t,rfl,rfl⟩|⟨x,t,rfl,rfl⟩<;>rfl
 pyHash:=λhv h=>by
  rcases bM hv with⟨i,t,rfl,rfl⟩|⟨x,t,rfl,rfl⟩
  ·exact wpAny_pyHash_int h
  ·exact wpAny_pyHash_str h
 eqBool:=λhu hv h=>by
  rcases bM hu with⟨i,t,rfl,rfl⟩|⟨x,t,rfl,rfl⟩
  ·rcases bM hv with⟨j,u,rfl,rfl⟩|⟨y,u,rfl,rfl⟩
   ·rw[Sh] at h;exact wpAny_eqBool_int h
   ·rw[SQ] at h;exact rS i t y u _ _ _ _ h
  ·rcases bM hv with⟨j,u,rfl,rfl⟩|⟨y,u,rfl,rfl⟩
   ·rw[Tn] at h;exact rV x t j u _ _ _ _ h
   ·rw[SX] at h;exact wpAny_eqBool_str h
 «strs»:=λk x t v h=>by
  rcases bM h with⟨i,u,rfl,e⟩|⟨y,u,rfl,e⟩
  ·exact nomatch e
  ·injection e with e1 _
   subst e1;cases v<;>rfl
inductive Kt where
 |k (x:Key)|t (xs:List Kt)
mutual
def Kt.dec:(a b:Kt)->Decidable (a=b)
 | .k x,.k y=>if h:x=y then .isTrue (by rw[h]) else .isFalse λe=>h<|by injection e
 | .t xs,.t ys=>match Kt.decs xs ys with
  | .isTrue h=>.isTrue<|by rw[h]
  | .isFalse h=>.isFalse λe=>h<|by injection e
 | .k _,.t _=>.isFalse λe=>nomatch e
 | .t _,.k _=>.isFalse λe=>nomatch e
def Kt.decs:(a b:List Kt)->Decidable (a=b)
 |[],[]=>.isTrue rfl
 |[],_::_=>.isFalse λe=>nomatch e
 |_::_,[]=>.isFalse λe=>nomatch e
 |x::xs,y::ys=>match Kt.dec x y,Kt.decs xs ys with
  | .isTrue h,.isTrue g=>.isTrue<|by rw[h,g]
  | .isFalse h,_=>.isFalse λe=>h<|by injection e
  |_,.isFalse g=>.isFalse λe=>g<|by injection e
end
instance:DecidableEq Kt:=Kt.dec
mutual
def pG (w:cp):Kt->Int
 | .k x=>T6 w x
 | .t xs=>reduceHash<|eA<|jb w xs
def jb (w:cp):List Kt->List Int
 |[]=>[]
 |x::xs=>pG w x::jb w xs
end
mutual
def nZ:Kt->Nat
 | .k _=>1
 | .t xs=>c7 xs+1
def c7:List Kt->Nat
 |[]=>0
 |x::xs=>nZ x+c7 xs
end
def jk (h:Heap):Nat->Kt->ay->Prop
 |_,.k x,v=>DX x v=true
 |0,.t _,_=>False
 |n+1,.t xs,v=>∃a o items m,v=.ref a/\h.get? a=some o/\o.cls=.type "tuple"/\o.data=.seq items m/\h8 (jk h n) xs items.toList
theorem iR:jk h (n+1) (.t xs) v↔∃a o items m,v=.ref a/\h.get? a=some o/\o.cls=.type "tuple"/\o.data=.seq items m/\h8 (jk h n) xs items.toList:=by rw[jk]
theorem lJ:jk h n (.k x) v↔DX x v=true:=by cases n<;>rw[jk]
theorem uL {α β:Type}{F G:α->β->Prop}(f:∀a b,F a b->G a b):∀{l:List α} {m:List β},h8 F l m->h8 G l m
 |_,_,.nil=>.nil
 |_,_,.cons r t=>.cons (f _ _ r)<|uL f t
theorem vz {α β:Type}{F:α->β->Prop}(f:∀x y b,F x b->F y b->x=y):∀{l l':List α} {m:List β},h8 F l m->h8 F l' m->l=l'
 |_,_,_,.nil,.nil=>rfl
 |_,_,_,.cons r t,.cons r' t'=>by rw[f _ _ _ r r',vz f t t']
theorem uB {h:Heap}:∀(n:Nat) (x y:Kt) (v:ay),jk h n x v->jk h n y v->x=y
 |n,.k x,.k y,v,hx,hy=>by
  rw[lJ] at hx hy;rcases bM hx with⟨i,t,rfl,rfl⟩|⟨z,t,rfl,rfl⟩
  ·rcases bM hy with⟨j,u,rfl,e⟩|⟨y,u,rfl,e⟩
   ·injection e with e1 _;rw[e1]
   ·exact nomatch e
  ·rcases bM hy with⟨j,u,rfl,e⟩|⟨y,u,rfl,e⟩
   ·exact nomatch e
   ·injection e with e1 _;rw[e1]
 |0,.t _,_,_,hx,_=>by rw[jk] at hx;exact hx.elim
 |0,.k _,.t _,_,_,hy=>by rw[jk] at hy;exact hy.elim
 |n+1,.k x,.t ys,v,hx,hy=>by
  rw[lJ] at hx;refine QQ (iR.mp hy) λa _ _ _ e _=>?_;subst e;rcases bM hx with⟨_,_,_,e⟩|⟨_,_,_,e⟩<;>exact nomatch e
 |n+1,.t xs,.k y,v,hx,hy=>by
  rw[lJ] at hy;refine QQ (iR.mp hx) λa _ _ _ e _=>?_;subst e;rcases bM hy with⟨_,_,_,e⟩|⟨_,_,_,e⟩<;>exact nomatch e
 |n+1,.t xs,.t ys,v,hx,hy=>by
  refine lV (iR.mp hx) λa o it m e g _ d p=>?_;refine lV (iR.mp hy) λa' o' it' m' e' g' _ d' p'=>?_;subst e;injection e' with e'
  subst e';cases g.symm.trans g';rw[d] at d';injection d' with d' _
  subst d';rw[vz (uB n) p p']
theorem uq {h h':Heap}{d:Addr}{o:Obj}{es ep}(ho:h.get? d=some o)(hd:o.data=.dict es ep)(hs:mB d h h'):∀(n:Nat) (x:Kt) (v:ay),jk h n x v->jk h' n x v
 |n,.k x,v,hx=>by rw[lJ] at hx ⊢;exact hx
 |0,.t _,_,hx=>by rw[jk] at hx;exact hx.elim
 |n+1,.t xs,v,hx=>by
  refine lV (iR.mp hx) λa o' it m e g c dd p=>?_;have ne:a≠d:=by
   rintro rfl;cases g.symm.trans ho;rw[hd] at dd;cases dd
  exact iR.mpr ⟨a,o',it,m,e,(hs.2 a ne).trans g,c,dd,uL (uq ho hd hs n) p⟩
section
theorem sI (w:cp):∀xs:List Kt,jb w xs=xs.map (pG w)
 |[]=>by rw[jb];rfl
 |x::xs=>by rw[jb,sI w xs];rfl
theorem qH:∀xs ys:List Kt,c7 (xs++ys)=c7 xs+c7 ys
 |[],ys=>by rw[dk,c7,Nat.zero_add]
 |x::xs,ys=>by rw[cm,c7,c7,qH xs ys,nB]
theorem yl (x:Kt):c7 [x]=nZ x:=by rw[c7,c7,Nat.add_zero]
theorem wF:∀(n:Nat) {A:dy} {s:aS} {x:Kt} {v:ay} {Q:Int->aS->Prop},A.units+n<uj->jk s.heap n x v->Q (pG wo x) { s with toks:=s.toks+nZ x }->cb (cw pr wo) A (pyHash v) Q E s
 |n,A,s,.k x,v,Q,hu,hx,q=>by
  rw[lJ] at hx;rw[pG,nZ] at q;exact(qF pr wo).pyHash hx q
 |0,_,_,.t _,_,_,_,hx,_=>by rw[jk] at hx;exact hx.elim
 |n+1,A,s,.t xs,v,Q,hu,hx,h=>by
  refine lV (iR.mp hx) λa o items m e ho hc hd hi=>?_;subst e;have hT:s.TypeIs (.ref a) "tuple":=⟨o,ho,hc⟩;rw[pG,nZ] at h;unfold pyHash
  first|unfold pyHashByItsType|skip
  first|refine af (wpAny_cRoomFor_or (.inr<|by lia) ?_)|skip
  refine af<|ka hT g0.lookup ?_;show cb _ _ (if(some (Value.builtin "tuple.__hash__")==some fT)=true then _ else _) Q E s;rw[if_neg (by rw[beq_builtin_none];exact av)];refine af<|ka hT g0.lookup ?_;show cb _ _ (callSpecialIfBoundUnlessNone? (.ref a) "__hash__" _ >>= _) Q E s;refine af<|wpAny_callSpecialIfBoundUnlessNone?_slot hT g0<|oe g0 hT PySem.F.entry_tuple_hash ?_<|PySem.F.args_tuple_hash_1 _;show cb _ _ (iO (.ref a) >>= _) _ _ s;refine af<|wpAny_tupleItemsOf ho hd ?_;refine af ?_;rw[← rX];refine wpAny_forIn_list _
   (λrest (b:Array Int) s'=>∃done left,xs=done++left/\h8 (jk s.heap n) left rest/\b.toList=done.map (pG wo)/\s'={ s with toks:=s.toks+c7 done })
   _ ?_ ?_ _ _ ⟨[],xs,rfl,hi,rfl,by rw[c7];rfl⟩
  ·rintro x rest b s' ⟨done,left,rfl,hl,hb,rfl⟩;cases hl with
   | @cons k _ ks' _ h1 hl'=>
    refine af<|wF n (A:=A.in1) (show A.units+1+n<uj by lia) (s:={ s with toks:=s.toks+c7 done }) h1 ?_;refine bg ⟨done++[k],ks',by simp,hl',by simp[hb],?_⟩;rw[qH,yl,nB]
  ·rintro b s' ⟨done,left,rfl,hl,hb,rfl⟩;cases hl;rw[dA] at h;show cb _ _ (retInt<|eA b.toList) _ _ _;rw[hb,← sI];refine wpAny_ret_mkInt ?_;show cb _ _ (if(decide (-(2:Int)^63<=eA (jb wo done))&&decide (eA (jb wo done)<2^63))=true then _ else _) Q E _;unfold reduceHash at h;by_cases hr:(decide (-(2:Int)^63<=eA (jb wo done))&&decide (eA (jb wo done)<2^63))=true
   ·rw[if_pos hr];rw[if_pos hr] at h;exact bg<|by simpa[nB] using h
   ·rw[if_neg hr];rw[if_neg hr] at h;exact af<|wpAny_rule<|bg<|by simpa[nB] using h
noncomputable def mD (xs ys:List Kt)(j:Nat):Bool:=match xs[j]?,ys[j]? with
 |some x,some y=>decide<|x=y
 |_,_=>true
theorem uD:∀xs ys:List Kt,((eJ<|min xs.length ys.length).all (mD xs ys)&&xs.length==ys.length)=decide (xs=ys)
 |[],[]=>by simp
 |[],_::_=>by simp
 |_::_,[]=>by simp
 |x::xs,y::ys=>by
  have ih:=uD xs ys;rw[bS,bS,Nat.succ_min_succ,List.range_succ_eq_map,nE,List.all_map];have e:(mD (x::xs) (y::ys)∘Nat.succ)=mD xs ys:=by funext j;simp[mD]
  rw[e];have e0:mD (x::xs) (y::ys) 0=decide (x=y):=by simp[mD]
  rw[e0,Bool.and_assoc];have e1:((xs.length+1==ys.length+1):Bool)=(xs.length==ys.length):=by simp
  rw[e1,ih];by_cases a:x=y<;>by_cases b:xs=ys<;>simp[a,b]
theorem rE:∀{l:List α} {m:List β} (j:Nat) (h:j<m.length),h8 F l m->∃a,l[j]? = some a/\F a m[j]
 |_,_,j,h,.nil=>absurd h<|Nat.not_lt_zero _
 |_,_,0,_,.cons r _=>⟨_,rfl,r⟩
 |_,_,j+1,h,.cons _ t=>by
  obtain⟨a,h1,h2⟩:=rE j (by simpa using h) t;exact⟨a,by simpa using h1,by simpa using h2⟩
theorem Dv:∀(n:Nat) (A:dy) (s:aS) (x y:Kt) (v u:ay),A.units+n<uj->jk s.heap n x v->jk s.heap n y u->sP A s v u (decide<|x=y)
 |n,A,s,.k x,.k y,v,u,hu,hx,hy=>by
  rw[lJ] at hx hy;intro pr wo E Q q;refine(qF pr wo).eqBool (a:=x) (b:=y) hx hy ?_;have e:decide (Kt.k x=Kt.k y)=decide (x=y):=decide_eq_decide.mpr ⟨λe=>by injection e,λe=>by rw[e]⟩;rw[← e];exact q
 |0,_,_,.t _,_,_,_,_,hx,_=>by rw[jk] at hx;exact hx.elim
 |0,_,_,.k _,.t _,_,_,_,_,hy=>by rw[jk] at hy;exact hy.elim
 |n+1,A,s,.k x,.t ys,v,u,hu,hx,hy=>by
  rw[lJ] at hx;refine lV (iR.mp hy) λa o it m e g c d _=>?_;subst e;have hl:s.heap.IsTuple a it:=⟨o,g,c,m,d⟩;rw[show decide (Kt.k x=Kt.t ys)=false from decide_eq_false λe=>nomatch e];rcases bM hx with⟨i,t,rfl,rfl⟩|⟨z,t,rfl,rfl⟩
  ·exact SeqAt.EqAt.int_tuple i t hl<|by lia
  ·exact SeqAt.EqAt.str_tuple z t hl<|by lia
 |n+1,A,s,.t xs,.k y,v,u,hu,hx,hy=>by
  rw[lJ] at hy;refine lV (iR.mp hx) λa o it m e g c d _=>?_;subst e;have hl:s.heap.IsTuple a it:=⟨o,g,c,m,d⟩;rw[show decide (Kt.t xs=Kt.k y)=false from decide_eq_false λe=>nomatch e];rcases bM hy with⟨i,t,rfl,rfl⟩|⟨z,t,rfl,rfl⟩
  ·exact SeqAt.EqAt.tuple_int i t hl<|by lia
  ·exact SeqAt.EqAt.tuple_str z t hl<|by lia
 |n+1,A,s,.t xs,.t ys,v,u,hu,hx,hy=>by
  have hx':=hx;have hy':=hy;refine lV (iR.mp hx) λa o it m e g c d p=>?_;refine lV (iR.mp hy) λa' o' it' m' e' g' c' d' p'=>?_;subst e e';by_cases ne:a=a'
  ·subst ne;rw[uB _ _ _ _ hx' hy',decide_eq_true rfl];exact uk _
  ·have hl:s.heap.IsTuple a it:=⟨o,g,c,m,d⟩;have hl':s.heap.IsTuple a' it':=⟨o',g',c',m',d'⟩;have n1:it.size=xs.length:=by have:=nI p;simpa using this.symm
   have n2:it'.size=ys.length:=by have:=nI p';simpa using this.symm
   have e2:decide (Kt.t xs=Kt.t ys)=decide (xs=ys):=decide_eq_decide.mpr ⟨λe=>by injection e,λe=>by rw[e]⟩;rw[e2,← uD xs ys,← n1,← n2];refine SeqAt.EqAt.of_refs ne<|SeqAt.RcAt.tuples hl hl' (by lia) λj j1 j2=>?_;obtain⟨b,q1,q2⟩:=rE j (by simpa using j1) p;obtain⟨b',r1,r2⟩:=rE j (by simpa using j2) p'
   have:mD xs ys j=decide (b=b'):=by unfold mD;rw[q1,r1]
   rw[this];exact Dv n A.in1 s b b' _ _ (show A.units+1+n<uj by lia) (by simpa using q2) (by simpa using r2)
theorem EY:∀(n:Nat) {A:dy} {s:aS} {x:Kt} {v:ay} {Q:Bool->aS->Prop},jk s.heap n x v->Q true s->cb (cw pr wo) A (eqIsQuiet n v) Q E s
 |n,A,s,.k x,v,Q,hx,q=>by
  rw[lJ] at hx;rw[eqIsQuiet_byValue _<|(qF pr wo).byValue _ _ hx];exact bg q
 |0,_,_,.t _,_,_,hx,_=>by rw[jk] at hx;exact hx.elim
 |n+1,A,s,.t xs,v,Q,hx,h=>by
  refine lV (iR.mp hx) λa o items m e ho hc hd hi=>?_;subst e;have hT:s.TypeIs (.ref a) "tuple":=⟨o,ho,hc⟩;unfold eqIsQuiet;refine af<|ka hT PySem.F.slot_tuple_eq.lookup ?_;show cb _ _ (isInstance (.ref a) (.type "tuple") >>= _) _ _ s;refine af<|wpAny_isInstance hT isSubtype_tuple_tuple ?_;simp only[r6,mE,if_false];refine af<|wpAny_seqItems ho hd<|af ?_;show cb _ _ (forIn items _ _) _ _ s;rw[← rX];refine wpAny_forIn_list _ (λrest r s'=>r.1=none/\s'=s/\∃ks,h8 (jk s.heap n) ks rest) _ ?_ ?_ _ _ ⟨rfl,rfl,xs,hi⟩
  ·rintro v rest r s' ⟨hr,rfl,ks,al⟩;cases al with
   |cons h1 al'=>
    refine af<|EY n h1 ?_;simp only[r6,mE,if_false];exact bg ⟨rfl,rfl,_,al'⟩
  ·rintro⟨r1,r2⟩ s' ⟨hr,rfl,_⟩;simp only at hr;subst hr;exact bg h
end
def Lb (pr:bb)(wo:cp):HeapKind pr wo (List Kt) where
 is:=λh ks a=>jk h 8 (.t ks)<|.ref a
 hash:=λks=>pG wo<|.t ks
 draws:=λks=>nZ<|.t ks
 room:=λA=>A.units+8<uj
 inj:=λa b=>by have:=uB _ _ _ _ a b;injection this
 keeps:=λx a b c=>uq a b c _ _ _ x
 pyHash:=λa b c=>wF 8 a b c
 eqBool:=λ{A E s x y a b Q} h1 h2 h3 h4=>by
  refine Dv 8 A s _ _ _ _ h1 h2 h3 _ _ _ _ ?_;rw[show decide (Kt.t x=Kt.t y)=decide (x=y) from decide_eq_decide.mpr ⟨λe=>by injection e,λe=>by rw[e]⟩];exact h4
 quiet:=λa b=>EY 8 a b
inductive V where
 |non|bl (b:Bool)|int (i:Int)|str (x:Str)|byt (b:Array UInt8)|flt (b:UInt64)|ref (a:Addr)|ty (n:String)
 deriving DecidableEq
def RelV:V->ay->Prop
 | .non,u=>u=fT
 | .bl b,u=>u=qf b
 | .int i,u=>∃t,u=rL i t
 | .str x,u=>∃t,u=ly x t
 | .byt b,u=>∃t,u=Value.bytes b t
 | .flt b,u=>∃t,u=uu b t
 | .ref a,u=>u=c9 a
 | .ty n,u=>u=sQ n
abbrev Vals:List V->List ay->Prop:=h8 RelV
theorem Vals.length (r:Vals xs us):xs.length=us.length:=nI r
theorem Vals.get:∀{xs:List V} {us:List ay} {i:Nat} {x:V},Vals xs us->xs[i]? = some x->∃u,us[i]? = some u/\RelV x u
 |_,_,_,_,.nil,e=>by simp at e
 |_,_,0,_,.cons r _,e=>by simp at e;subst e;exact⟨_,rfl,r⟩
 |_,_,i+1,x,.cons _ t,e=>by
  obtain⟨u,h1,h2⟩:=Vals.get (i:=i) (x:=x) t (by simpa using e);exact⟨u,by simpa using h1,h2⟩
theorem Vals.append:∀{xs ys:List V} {us ws:List ay},Vals xs us->Vals ys ws->Vals (xs++ys) (us++ws)
 |_,_,_,_,.nil,s=>s
 |_,_,_,_,.cons r t,s=>.cons r<|Vals.append t s
theorem Vals.take:∀{xs:List V} {us:List ay} (n:Nat),Vals xs us->Vals (xs.take n) (us.take n)
 |_,_,0,_=>.nil
 |_,_,_+1,.nil=>.nil
 |_,_,n+1,.cons r t=>.cons r<|Vals.take n t
theorem Vals.drop:∀{xs:List V} {us:List ay} (n:Nat),Vals xs us->Vals (xs.drop n) (us.drop n)
 |_,_,0,r=>r
 |_,_,_+1,.nil=>.nil
 |_,_,n+1,.cons _ t=>Vals.drop n t
def vN:Option V->Option ay->Prop
 |some v,some u=>RelV v u
 |none,none=>True
 |_,_=>False
def KV {κ:Type}:List (κ×V)->List (κ×ay)->Prop:=h8 λ(p:κ×V) (q:κ×ay)=>p.1=q.1/\RelV p.2 q.2
noncomputable def kV:Key->V
 | .inl i=>.int i
 | .inr x=>.str x
inductive HO where
  |lst (xs:List V)
  |tup (xs:List V)
  |dK (ι:List (Key×V))|dT (T:Addr->List V->Prop) (ι:List (List Kt×V))
  |set (S:Int->Bool) (n:Nat)
  |ins (C dx:Addr) (fs:List (Str×V))
  |own (x:Addr)
  |xd (fs:List (Str×V))
  |met (f x:Addr)
  |rng (lo hi:Int)
  |frz (o:Obj) (u:HO)
  |tbl (ps:Array ay)
  |ext (φ:Heap->Prop)
abbrev Hp:=Addr->Option HO
noncomputable def upd (H:Hp)(a:Addr)(o:HO):Hp:=λb=>if b=a then some o else H b
theorem aH:upd H a o a=some o:=by unfold upd;rw[if_pos rfl]
theorem aM (h:b≠a):upd H a o b=H b:=by unfold upd;rw[if_neg h]
theorem nP:upd (upd H a o) a u=upd H a u:=by
 funext b;unfold upd;split<;>rfl
theorem ir {H:Hp}{a b:Addr}{o:HO}(h:H a=some o)(h':H b=none):a≠b:=by
 intro e;subst e;rw[h] at h';cases h'
mutual
inductive Cj (T:Addr->List V->Prop)(H:Hp):Nat->V->Kt->Prop where
 |k {n:Nat} {x:Key}:Cj T H n (kV x) (.k x)
 |t {n:Nat} {b:Addr} {vs:List V} {ks:List Kt}:(H b=some (.tup vs)\/T b vs)->oY T H n vs ks->Cj T H (n+1) (.ref b) (.t ks)
inductive oY (T:Addr->List V->Prop)(H:Hp):Nat->List V->List Kt->Prop where
 |nil {n:Nat}:oY T H n [] []
 |cons {n:Nat} {v:V} {vs:List V} {k:Kt} {ks:List Kt}:Cj T H n v k->oY T H n vs ks->oY T H n (v::vs) (k::ks)
end
def TrT (T:Addr->List V->Prop)(H:Hp)(b:Addr)(ks:List Kt):Prop:=∃vs,(H b=some (.tup vs)\/T b vs)/\oY T H 7 vs ks
section
mutual
theorem Cj.imp (ht:∀b xs,H b=some (.tup xs)->H' b=some (.tup xs)):∀{n:Nat} {v:V} {k:Kt},Cj T H n v k->Cj T H' n v k
 |_,_,_,.k=>.k
 |_,_,_,.t h hs=>.t (h.imp (ht _ _) id)<|oY.imp ht hs
theorem oY.imp (ht:∀b xs,H b=some (.tup xs)->H' b=some (.tup xs)):∀{n:Nat} {vs:List V} {ks:List Kt},oY T H n vs ks->oY T H' n vs ks
 |_,_,_,.nil=>.nil
 |_,_,_,.cons h hs=>.cons (Cj.imp ht h)<|oY.imp ht hs
end
theorem TrT.imp (h:TrT T H b ks)(ht:∀b xs,H b=some (.tup xs)->H' b=some (.tup xs)):TrT T H' b ks:=
 let⟨vs,h1,h2⟩:=h;⟨vs,h1.imp (ht _ _) id,h2.imp ht⟩
end
section
variable (P:bb)(w:cp)
def yt (h:Heap)(a:Addr)(χ:Array ay):Prop:=∃o,h.get? a=some o/\o.cls=.type "tuple"/\∃n,o.data=.seq χ n/\o.dict=none
theorem yt.tup {h:Heap}{a:Addr}{χ:Array ay}(x:yt h a χ):IsTup h a χ:=let⟨o,e,c,n,d,_⟩:=x;⟨o,e,c,n,d⟩
theorem yt.new (h:Heap)(χ:Array ay):yt (h.push { cls:=.type "tuple",data:=.seq χ }) h.objs.size χ:=⟨_,bq _ rfl,rfl,_,rfl,rfl⟩
def dH (H:Hp)(h:Heap)(a:Addr):HO->Prop
 | .lst xs=>xs.length<=aT/\∃(χ:List ay) (n:Nat),Vals xs χ/\h.get? a=some { cls:=.type "list",data:=.seq χ.toArray n }
 | .tup xs=>xs.length<=aT/\∃χ:List ay,Vals xs χ/\yt h a χ.toArray
 | .dK ι=>ι.length<=aT/\(a==qh)=false/\∃vs,KV ι vs/\h.DictOf (qF P w) a vs
 | .dT T ι=>ι.length<=aT/\(a==qh)=false/\∃xs:List (List Kt×Addr×ay),
   h8 (λ(p:List Kt×V) (q:List Kt×Addr×ay)=>p.1=q.1/\TrT T H q.2.1 p.1/\RelV p.2 q.2.2) ι xs/\
   ∃o es ep,h.get? a=some o/\o.ExactDict/\o.data=.dict es ep/\es.toList=xs.map (entryOfKey<|Lb P w)/\(xs.map (·.1)).Nodup
 | .set S n=>h.SetOf (intKind P w) a S n
 | .ins C dx fs=>H dx=some (.own a)/\fs.length<=1000/\dx≠a/\h.get? a=some (lI C dx)/\
   ∃mA,h.Ns1 dx mA/\(∀f,vN (fs.lookup f)<|mA f)/\tj mA (fs.map (·.1))
 | .own _=>∃o,h.get? a=some o
 | .xd fs=>∃mA,h.Ns1 a mA/\∀f,vN (fs.lookup f)<|mA f
 | .rng lo hi=>∃t u v,h.get? a=some { cls:=.type "range",data:=.fields #[.int lo t,.int hi u,.int 1 v] }
 | .frz o u=>h.get? a=some o/\dH H h a u
 | .tbl ps=>h.get? a=some { cls:=.none,data:=.fields ps }
 | .met f x=>h.get? a=some (W.methodObj (.ref f)<|.ref x)
 | .ext φ=>φ h/\(∃o,h.get? a=some o)/\∀h1 h2:Heap,φ h1->(∀o,h1.get? a=some o->h2.get? a=some o)->φ h2
def HOk (H:Hp)(h:Heap):Prop:=∀a o,H a=some o->dH P w H h a o
end
section
variable {P:bb}{w:cp}{H H':Hp}{h h':Heap}{a:Addr}{o:HO}
theorem dH.lt (x:dH P w H h a o):a<h.objs.size:=by
 cases o with
 |lst xs=>obtain⟨_,_,_,_,e⟩:=x;exact a7 e
 |tup xs=>obtain⟨_,_,_,p⟩:=x;exact p.tup.lt
 |dK ι=>obtain⟨_,_,_,_,o,_,_,e,_⟩:=x;exact a7 e
 |dT T ι=>obtain⟨_,_,_,_,o,_,_,e,_⟩:=x;exact a7 e
 |set S n=>obtain⟨o,_,_,_,e,_⟩:=x;exact a7 e
 |ins C dx fs=>obtain⟨_,_,_,e,_⟩:=x;exact a7 e
 |own y=>obtain⟨_,e⟩:=x;exact a7 e
 |xd fs=>obtain⟨_,⟨_,_,_,e,_⟩,_⟩:=x;exact a7 e
 |rng lo hi=>obtain⟨_,_,_,e⟩:=x;exact a7 e
 |frz ob u=>obtain⟨e,_⟩:=x;exact a7 e
 |tbl ps=>exact a7 (show h.get? a=some _ from x)
 |met f y=>exact a7 (show h.get? a=some _ from x)
 |ext φ=>obtain⟨_,⟨_,e⟩,_⟩:=x;exact a7 e
theorem h8.T3:∀{l₁:List α} {l₂:List β},h8 F l₁ l₂->(∀a b,F a b->G a b)->h8 G l₁ l₂
 |_,_,.nil,_=>.nil
 |_,_,.cons r t,f=>.cons (f _ _ r)<|h8.T3 t f
theorem dH.stay (x:dH P w H h a o)(k:∀b u,(b=a\/H b=some (.own a))->h.get? b=some u->h'.get? b=some u)
  (ho:∀b,H b=some (.own a)->H' b=some (.own a)) (ht:∀b xs,H b=some (.tup xs)->H' b=some (.tup xs)):dH P w H' h' a o:=by
 induction o with
 |lst xs=>obtain⟨z,χ,n,r,e⟩:=x;exact⟨z,χ,n,r,k _ _ (.inl rfl) e⟩
 |tup xs=>obtain⟨z,χ,r,ob,e,c⟩:=x;exact⟨z,χ,r,ob,k _ _ (.inl rfl) e,c⟩
 |dK ι=>obtain⟨z,y,vs,r,ob,es,ep,e,c⟩:=x;exact⟨z,y,vs,r,ob,es,ep,k _ _ (.inl rfl) e,c⟩
 |dT T ι=>
  obtain⟨z,y,xs,r,ob,es,ep,e,c⟩:=x;exact⟨z,y,xs,h8.T3 r λp q z=>⟨z.1,z.2.1.imp ht,z.2.2⟩,ob,es,ep,k _ _ (.inl rfl) e,c⟩
 |set S n=>obtain⟨ob,es,ep,t,e,c⟩:=x;exact⟨ob,es,ep,t,k _ _ (.inl rfl) e,c⟩
 |ins C dx fs=>
  obtain⟨d,z,ne,e,mA,⟨od,es,ep,e2,c⟩,r⟩:=x;exact⟨ho _ d,z,ne,k _ _ (.inl rfl) e,mA,⟨od,es,ep,k _ _ (.inr d) e2,c⟩,r⟩
 |own y=>obtain⟨ob,e⟩:=x;exact⟨ob,k _ _ (.inl rfl) e⟩
 |xd fs=>obtain⟨mA,⟨od,es,ep,e,c⟩,r⟩:=x;exact⟨mA,⟨od,es,ep,k _ _ (.inl rfl) e,c⟩,r⟩
 |rng lo hi=>obtain⟨t,u,v,e⟩:=x;exact⟨t,u,v,k _ _ (.inl rfl) e⟩
 |frz ob u ih=>obtain⟨e,q⟩:=x;exact⟨k _ _ (.inl rfl) e,ih q⟩
 |tbl ps=>
  have e:h.get? a=some { cls:=.none,data:=.fields ps }:=x;show h'.get? a=some { cls:=.none,data:=.fields ps };exact k a _ (.inl rfl) e
 |met f y=>
  have e:h.get? a=some (W.methodObj (.ref f)<|.ref y):=x;show h'.get? a=some (W.methodObj (.ref f)<|.ref y);exact k a _ (.inl rfl) e
 |ext φ=>obtain⟨p,⟨o,e⟩,st⟩:=x;exact⟨st _ _ p λo q=>k _ _ (.inl rfl) q,⟨o,k _ _ (.inl rfl) e⟩,st⟩
theorem HOk.lt (x:HOk P w H h)(e:H a=some o):a<h.objs.size:=(x a o e).lt
theorem HOk.fresh (x:HOk P w H h)(e:h.objs.size<=a):H a=none:=by
 cases q:H a with
 |none=>rfl
 |some u=>exact absurd (a9 (x.lt q) e) (eL _)
theorem HOk.kept (x:HOk P w H h)(k:∀b u,h.get? b=some u->h'.get? b=some u):HOk P w H h':=λa o e=>
 (x a o e).stay (λb u _ q=>k b u q) (λ_ q=>q) λ_ _ q=>q
theorem HOk.laid (x:HOk P w H h)(k:∀b u,h.get? b=some u->h'.get? b=some u)(hp:h.objs.size<=a)(new:dH P w (upd H a o) h' a o):HOk P w (upd H a o) h':=λb u e=>by
 have hn:=x.fresh hp;by_cases hb:b=a
 ·subst hb;rw[aH] at e;cases e;exact new
 ·rw[aM hb] at e;exact(x b u e).stay (λc v _ q=>k c v q) (λc q=>by rw[aM<|ir q hn];exact q) λc xs q=>by rw[aM<|ir q hn];exact q
end
def Rd (H:Hp)(a:Addr)(u:HO):Prop:=H a=some u\/∃o,H a=some (.frz o u)
theorem Rd.ok (r:Rd H a u)(x:HOk P w H h):dH P w H h a u:=by
 rcases r with r|⟨o,r⟩
 ·exact x a u r
 ·obtain⟨_,q⟩:=x a _ r;exact q
def Mut:Option HO->Prop
 |some (.lst _)=>True
 |some (.dK _)=>True
 |some (.dT _ _)=>True
 |some (.set _ _)=>True
 |some (.ins _ _ _)=>True
 |some (.ext _)=>True
 |_=>False
section
theorem HOk.write (ok:HOk P w H h)(mu:Mut (H x))(he:e=x\/H e=some (.own x))(k:∀b u,b≠e->h.get? b=some u->h'.get? b=some u)(heo:∃u,h'.get? e=some u)
  (new:dH P w (upd H x o') h' x o'):HOk P w (upd H x o') h':=λb u q=>by
 have nown:∀c y,H c=some (.own y)->c≠x:=λc y r z=>by subst z;rw[r] at mu;exact mu
 have ntup:∀c xs,H c=some (.tup xs)->c≠x:=λc xs r z=>by subst z;rw[r] at mu;exact mu
 by_cases hb:b=x
 ·subst hb;rw[aH] at q;cases q;exact new
 ·rw[aM hb] at q;by_cases hbe:b=e
  ·have q':H b=some (.own x):=by
    rcases he with z|z
    ·exact absurd (hbe.trans z) hb
    ·rw[hbe];exact z
   rw[q] at q';cases q';obtain⟨v,hv⟩:=heo;exact⟨v,by rw[hbe];exact hv⟩
  ·refine(ok b u q).stay (λc v hc r=>k c v ?_ r) (λc r=>by rw[aM<|nown c b r];exact r) λc xs r=>by rw[aM<|ntup c xs r];exact r
   rcases hc with rfl|hc
   ·exact hbe
   ·rintro rfl;rcases he with z|z
    ·exact nown c b hc z
    ·rw[hc] at z;cases z;exact hb rfl
end
structure Un (fs ex:List Addr)(H H':Hp)(h h':Heap):Prop where
 keep:∀b o,h.get? b=some o->H b=none->b∉fs->b∉ex->h'.get? b=some o
 slot:∀b o,h.get? b=some o->H b=none->b∈fs->b∉ex->∃sl,h'.get? b=some { o with slots:=sl }
 free:∀b o,h.get? b=some o->H b=none->b∉ex->H' b=none
 there:∀b o,h.get? b=some o->b∉ex->∃o',h'.get? b=some o'
 tups:∀b xs,H b=some (.tup xs)->H' b=some (.tup xs)
 frzs:∀b o u,H b=some (.frz o u)->H' b=some (.frz o u)
 tbls:∀b ps,H b=some (.tbl ps)->∃more,H' b=some (.tbl (ps++more))
section
variable {fs fs' ex ex':List Addr}{H H1 H2:Hp}{h h1 h2 h':Heap}{a x e:Addr}{o:HO}
theorem Un.any (u:Un fs ex H H1 h h1){b:Addr}{ob:Obj}(q:h.get? b=some ob)(n:H b=none)(hx:b∉ex):∃sl,h1.get? b=some { ob with slots:=sl }:=by
 by_cases hb:b∈fs
 ·exact u.slot b ob q n hb hx
 ·exact⟨ob.slots,u.keep b ob q n hb hx⟩
theorem Un.kept (k:∀b u,h.get? b=some u->h'.get? b=some u):Un fs ex H H h h':=
 ⟨λb ob q _ _ _=>k b ob q,λb ob q _ _ _=>⟨ob.slots,k b ob q⟩,λ_ _ _ n _=>n,λb ob q _=>⟨ob,k b ob q⟩,λ_ _ q=>q,λ_ _ _ q=>q,λ_ ps q=>⟨#[],by rw[q];simp⟩⟩
theorem Un.refl:Un fs ex H H h h:=Un.kept λ_ _ q=>q
theorem Un.laid (k:∀b u,h.get? b=some u->h'.get? b=some u)(hp:h.objs.size<=a)(hn:H a=none):Un fs ex H (upd H a o) h h' where
 keep:=λb u q _ _ _=>k b u q
 slot:=λb u q _ _ _=>⟨u.slots,k b u q⟩
 free:=λb u q n _=>by rw[aM<|b0<|a9 (a7 q) hp];exact n
 there:=λb u q _=>⟨u,k b u q⟩
 tups:=λb xs q=>by rw[aM<|ir q hn];exact q
 frzs:=λb u xs q=>by rw[aM<|ir q hn];exact q
 tbls:=λb ps q=>⟨#[],by rw[aM<|ir q hn,q];simp⟩
theorem Un.write (mu:Mut (H x))(he:e=x\/H e=some (.own x))(k:∀b u,b≠e->h.get? b=some u->h'.get? b=some u)(heo:∃u,h'.get? e=some u):Un fs ex H (upd H x o) h h':=by
 have hx:∀b,H b=none->b≠x:=λb n z=>by subst z;rw[n] at mu;exact mu
 have hb:∀b,H b=none->b≠e:=λb n z=>by
  subst z;rcases he with r|r
  ·exact hx b n r
  ·rw[n] at r;cases r
 have hm:∀b u,H b=some u->¬Mut (some u)->b≠x:=λb u q nm z=>by subst z;rw[q] at mu;exact nm mu
 refine⟨λb u q n _ _=>k b u (hb b n) q,λb u q n _ _=>⟨u.slots,k b u (hb b n) q⟩,λb u q n _=>by rw[aM<|hx b n];exact n,λb u q _=>?_,
  λb xs q=>by rw[aM<|hm b _ q λz=>z];exact q,λb u xs q=>by rw[aM<|hm b _ q λz=>z];exact q,λb ps q=>⟨#[],by rw[aM<|hm b _ q λz=>z,q];simp⟩⟩
 by_cases hbe:b=e
 ·subst hbe;exact heo
 ·exact⟨u,k b u hbe q⟩
end
noncomputable def trk (h:Heap)(H:Hp):List Addr:=(eJ h.objs.size).filter λa=>(H a).isSome
def yh (h:Heap)(H:Hp):Heap:=W.hideAll h<|trk h H
theorem HF (h:Heap)(H:Hp):(yh h H).objs.size=h.objs.size:=W.hideAll_size _ _
theorem Mg (e:h.get? b=some o)(n:H b=none):(yh h H).get? b=some o:=
 W.hideAll_get _ e λhm=>by
  have q:(H b).isSome=true:=(List.mem_filter.mp hm).2;rw[n] at q;simp at q
theorem O6 (e:(yh h H).get? b=some o):h.get? b=some o/\H b=none:=by
 have e':h.get? b=some o:=W.of_hideAll (trk h H) e;refine⟨e',?_⟩;cases q:H b with
 |none=>rfl
 |some x=>
  have hm:b∈trk h H:=List.mem_filter.mpr ⟨qA.mpr<|a7 e',by simp[q]⟩;have z:(yh h H).get? b=none:=W.hideAll_none (trk h H) hm;rw[z] at e;cases e
structure Mod (K:aw)(mg:Zs)(base:Heap):Prop where
 kin:K.In base
 glob:base.Ns br mg
 blt:∃mb,base.Ns builtinsNs mb/\∀x:Str,x≠"__name__"->mb x=b9 x
 nolimit:base.NoLimit
structure Cx where
 prog:bb
 w:cp
 K:aw
 mg:Zs
 base:Heap
 A:dy
 N:List Str
 s₀:aS
 H₀:Hp
 env:Env
 outer:List Env
 stack:List Env
 ex:List Addr
 fn:Str->Bool
 calm:Bool
 pn:Zo
 xe:Zv
noncomputable def frs (l:List Env):List Addr:=l.filterMap (·.frame)
abbrev Cx.fs (X:Cx):List Addr:=frs X.outer
def Vis (sc:mo)(x:Str):Prop:=sc.names.lookup x=some .local\/sc.names.lookup x=some .cell\/sc.names.lookup x=some .free
def Loc (sc:mo)(x:Str):Prop:=sc.names.lookup x=some .local\/sc.names.lookup x=some .cell
def Look (env:Env)(h:Heap)(m:Zs)(x:Str)(u:ay):Prop:=
 (env.kindOf x=some .local/\m x=some u)\/((env.kindOf x=some .cell\/env.kindOf x=some .free)/\∃c,env.cells.lookup x=some c/\h.IsCell c (some u))
structure Cx.Ok (X:Cx):Prop where
 mod:Mod X.K X.mg X.base
 kind:X.env.scope.kind=.function
 glob:X.env.globals=br
 blt:X.env.builtins=builtinsNs
 above:X.s₀.heap.objs.size<=X.env.locals
 inj:∀x y c,X.env.cells.lookup x=some c->X.env.cells.lookup y=some c->x=y
 has:∀x,(X.env.kindOf x=some .cell\/X.env.kindOf x=some .free)->∃c,X.env.cells.lookup x=some c
 cab:∀x c,X.fn x=true->X.env.cells.lookup x=some c->X.s₀.heap.objs.size<=c
 hd:X.calm=true->X.A.handled=none
 frames:X.A.frames=some X.stack
 stk:X.stack=X.outer\/(X.stack=X.env::X.outer/\X.env.frame=some X.env.locals)
 exf:∀b∈X.ex,b≠X.env.locals/\∀x c,X.env.cells.lookup x=some c->c≠b
 bs:∀b o,X.base.get? b=some o->X.s₀.heap.get? b=some o/\X.H₀ b=none
 bsz:X.base.objs.size<=X.s₀.heap.objs.size
 noex:∀b o,X.base.get? b=some o->b∉X.ex
 exfs:∀b∈X.ex,b∉X.fs
 sO:X.s₀.heap.FunFrames X.base X.outer
 frf:∀b∈X.fs,X.H₀ b=none
structure Inv (X:Cx)(π:Zo)(σ:List (Option V))(H:Hp)(s:aS):Prop where
 ok:X.Ok
 os:s.os=X.s₀.os
 bare:nK s.gens
 base:Un X.fs X.ex X.H₀ H X.s₀.heap s.heap
 loc:∃m,s.heap.Ns X.env.locals m/\∀(i:Nat) (x:Str) (v:V),X.N[i]? = some x->σ[i]? = some (some v)->Vis X.env.scope x->∃u,RelV v u/\Look X.env s.heap m x u
 cell:∀x c,X.env.cells.lookup x=some c->∃v,s.heap.IsCell c v
 free:H X.env.locals=none
 freeC:∀x c,X.env.cells.lookup x=some c->H c=none
 pin:∀p∈X.pn++π,s.heap.get? p.1=some p.2/\H p.1=none/\p.1≠X.env.locals/\p.1∉X.fs/\∀v,p.2.data≠.cell v
 hok:HOk X.prog X.w H s.heap
 len:σ.length=X.N.length
section
variable {X:Cx}{π:Zo}{σ:List (Option V)}{H H':Hp}{s:aS}{h':Heap}
theorem Cx.Ok.V4 (ok:X.Ok){b:Addr}{o:Obj}(e:X.base.get? b=some o):b∉X.fs:=λhb=>by
 have:=(ok.sO.mem hb).1
 rw[e] at this;cases this
theorem Inv.bs (I:Inv X π σ H s):∀b o,X.base.get? b=some o->s.heap.get? b=some o/\H b=none:=λb o e=>
 ⟨I.base.keep b o (I.ok.bs b o e).1 (I.ok.bs b o e).2 (I.ok.V4 e)<|I.ok.noex b o e,I.base.free b o (I.ok.bs b o e).1 (I.ok.bs b o e).2<|I.ok.noex b o e⟩
theorem Inv.bk (I:Inv X π σ H s):∀b o,X.base.get? b=some o->s.heap.get? b=some o:=λb o e=>(I.bs b o e).1
theorem Inv.mod (I:Inv X π σ H s):Mod X.K X.mg X.base:=I.ok.mod
theorem Inv.kIn (I:Inv X π σ H s):X.K.In s.heap:=I.ok.mod.kin.keeps I.bk
theorem Inv.lt (I:Inv X π σ H s):X.env.locals<s.heap.objs.size:=let⟨_,hn,_⟩:=I.loc;hn.lt
theorem Inv.sz (I:Inv X π σ H s):X.s₀.heap.objs.size<=s.heap.objs.size:=cn I.ok.above<|tm I.lt
theorem Inv.V7 (I:Inv X π σ H s){a:Addr}(h:s.heap.objs.size<=a):a∉X.fs:=λhb=>by
 obtain⟨_,o,ho,_⟩:=I.ok.sO.mem hb;exact absurd (a9 (a7 ho)<|cn I.sz h)<|eL _
theorem Inv.cne (I:Inv X π σ H s):∀x c,X.env.cells.lookup x=some c->c≠X.env.locals:=λx c e z=>by
 obtain⟨v,o,ho,hd⟩:=I.cell x c e;obtain⟨m,⟨o',es,ep,ho',hd',_⟩,_⟩:=I.loc;rw[z,ho'] at ho;cases ho;rw[hd'] at hd;cases hd
theorem Inv.sO (I:Inv X π σ H s):s.heap.FunFrames X.base X.outer:=by
 have all:∀(l:List Env),(∀b∈frs l,b∈X.fs)->X.s₀.heap.FunFrames X.base l->s.heap.FunFrames X.base l:=by
  intro l;induction l with
  |nil=>intro _ _;trivial
  |cons env r ih=>
   intro hs hl;obtain⟨hk,⟨L,o,hf,hn,ho,hd⟩,hr⟩:=hl;have hL:L∈X.fs:=hs L (by unfold frs;rw[ja,hf];exact aE);obtain⟨sl,e⟩:=I.base.slot L o ho (I.ok.frf L hL) hL λz=>I.ok.exfs L z hL;exact⟨hk,⟨L,_,hf,hn,e,hd⟩,ih (λb hb=>hs b (by unfold frs;rw[ja,hf];exact ah _ hb)) hr⟩
 exact all X.outer (λ_ hb=>hb) I.ok.sO
theorem Inv.stack (I:Inv X π σ H s):s.heap.FunFrames X.base X.stack:=by
 rcases I.ok.stk with e|⟨e,hf⟩
 ·rw[e];exact I.sO
 ·rw[e];obtain⟨m,hn,_⟩:=I.loc;refine .cons (by rw[I.ok.kind];decide) hf hn ?_ I.sO;exact Heap.get?_none_of_le<|cn I.ok.bsz I.ok.above
theorem Inv.yG (I:Inv X π σ H s):∀b∈frs X.stack,b∈X.env.locals::X.fs:=λb hb=>by
 rcases I.ok.stk with e|⟨e,hf⟩
 ·rw[e] at hb;exact ah _ hb
 ·rw[e] at hb;unfold frs at hb;rw[ja,hf] at hb;exact hb
theorem Inv.Dn (I:Inv X π σ H s):∀b∈frs X.stack,H b=none:=λb hb=>by
 rcases bo.mp (I.yG b hb) with e|hb
 ·rw[e];exact I.free
 ·obtain⟨_,o,ho,_⟩:=I.ok.sO.mem hb;exact I.base.free b o ho (I.ok.frf b hb) λz=>I.ok.exfs b z hb
theorem Inv.step {g':Array kB}{t':Nat}{d':Drawn}{ch:List Addr}(I:Inv X π σ H s)
  (hch:∀b∈ch,(b∈X.ex\/X.s₀.heap.objs.size<=b)/\b≠X.env.locals/\(∀x c,X.env.cells.lookup x=some c->c≠b)/\∀p∈X.pn++π,p.1≠b)
  (keep:∀b o,b≠X.env.locals->b∉X.fs->b∉ch->s.heap.get? b=some o->H b=none->h'.get? b=some o)
  (slot:∀b o,b≠X.env.locals->b∈X.fs->b∉ch->s.heap.get? b=some o->H b=none->∃sl,h'.get? b=some { o with slots:=sl }) (free:∀b o,b∉ch->s.heap.get? b=some o->H b=none->H' b=none)
  (there:∀b o,b∉ch->s.heap.get? b=some o->∃o',h'.get? b=some o')
  (tups:∀b xs,H b=some (.tup xs)->H' b=some (.tup xs)) (frzs:∀b o u,H b=some (.frz o u)->H' b=some (.frz o u)) (tbls:∀b ps,H b=some (.tbl ps)->∃more,H' b=some (.tbl<|ps++more))
  (ns:∀m,s.heap.Ns X.env.locals m->h'.Ns X.env.locals m) (hok:HOk X.prog X.w H' h') (hg:nK g'):
  Inv X π σ H' { s with heap:=h',gens:=g',drawn:=d',toks:=t' }:=by
 have neL:∀b o,X.s₀.heap.get? b=some o->b≠X.env.locals:=λb o e=>b0<|a9 (a7 e) I.ok.above;have neC:∀b o,X.s₀.heap.get? b=some o->b∉X.ex->b∉ch:=λb o e hx hb=>by
  rcases(hch b hb).1 with z|z
  ·exact hx z
  ·exact absurd (a9 (a7 e) z)<|eL _
 have cellK:∀x c,X.env.cells.lookup x=some c->∀v,s.heap.IsCell c v->h'.IsCell c v:=λx c e v ⟨o,ho,hd⟩=>by
  have nch:c∉ch:=λz=>(hch c z).2.2.1 x c e rfl;by_cases hc:c∈X.fs
  ·obtain⟨sl,q⟩:=slot c o (I.cne x c e) hc nch ho<|I.freeC x c e;exact⟨_,q,hd⟩
  ·exact⟨o,keep c o (I.cne x c e) hc nch ho<|I.freeC x c e,hd⟩
 refine⟨I.ok,I.os,hg,⟨λb o e n hb hx=>?_,λb o e n hb hx=>?_,λb o e n hx=>?_,λb o e hx=>?_,λb xs e=>tups b xs<|I.base.tups b xs e,λb o xs e=>frzs b o xs<|I.base.frzs b o xs e,λb ps e=>?_⟩,?_,λx c e=>?_,?_,λx c e=>?_,λp hp=>?_,hok,I.len⟩
 ·exact keep b o (neL b o e) hb (neC b o e hx) (I.base.keep b o e n hb hx)<|I.base.free b o e n hx
 ·obtain⟨sl,e1⟩:=I.base.slot b o e n hb hx;obtain⟨sl',e2⟩:=slot b _ (neL b o e) hb (neC b o e hx) e1<|I.base.free b o e n hx;exact⟨sl',e2⟩
 ·obtain⟨o',e1⟩:=I.base.there b o e hx;exact free b o' (neC b o e hx) e1<|I.base.free b o e n hx
 ·obtain⟨o',e1⟩:=I.base.there b o e hx;exact there b o' (neC b o e hx) e1
 ·obtain⟨m1,e1⟩:=I.base.tbls b ps e;obtain⟨m2,e2⟩:=tbls b _ e1;exact⟨m1++m2,by rw[e2,r9]⟩
 ·obtain⟨m,hn,hl⟩:=I.loc;refine⟨m,ns m hn,λi x v e1 e2 e3=>?_⟩;obtain⟨u,r,l⟩:=hl i x v e1 e2 e3;refine⟨u,r,?_⟩;rcases l with l|⟨k,c,e,z⟩
  ·exact .inl l
  ·exact .inr ⟨k,c,e,cellK x c e _ z⟩
 ·obtain⟨v,z⟩:=I.cell x c e;exact⟨v,cellK x c e v z⟩
 ·obtain⟨m,⟨o,_,_,ho,_⟩,_⟩:=I.loc;exact free _ o (λz=>(hch _ z).2.1 rfl) ho I.free
 ·obtain⟨v,o,ho,hd⟩:=I.cell x c e;exact free c o (λz=>(hch c z).2.2.1 x c e rfl) ho<|I.freeC x c e
 ·refine Ff (I.pin p hp) λe n ne nf d=>?_;have nch:p.1∉ch:=λz=>(hch p.1 z).2.2.2 p hp rfl;exact⟨keep p.1 p.2 ne nf nch e n,free p.1 p.2 nch e n,ne,nf,d⟩
theorem Inv.un {t':Nat}(I:Inv X π σ H s)(u:Un X.fs [] H H' s.heap h')(hok:HOk X.prog X.w H' h'):Inv X π σ H' { s with heap:=h',toks:=t' }:=by
 obtain⟨m,⟨o,es,ep,ho,r⟩,_⟩:=id I.loc;obtain⟨sl,hL⟩:=u.any ho I.free (by simp);exact I.step (g':=s.gens) (d':=s.drawn) (ch:=[]) (λ_ z=>nomatch z) (λb o _ hb _ e n=>u.keep b o e n hb<|by simp) (λb o _ hb _ e n=>u.slot b o e n hb<|by simp) (λb o _ e n=>u.free b o e n<|by simp) (λb o _ e=>u.there b o e<|by simp) u.tups u.frzs u.tbls (λm' hm=>by
  refine Gy hm λo' es' ep' ho' r'=>?_;rw[ho] at ho';cases ho';exact⟨_,es',ep',hL,r'⟩) hok I.bare
theorem Inv.call {g':Array kB}{t':Nat}{d':Drawn}{ch:List Addr}(I:Inv X π σ H s)(u:Un (frs X.stack) ch H H' s.heap h')(hok:HOk X.prog X.w H' h')(hg:nK g')
  (hch:∀b∈ch,(b∈X.ex\/X.s₀.heap.objs.size<=b)/\b≠X.env.locals/\(∀x c,X.env.cells.lookup x=some c->c≠b)/\∀p∈X.pn++π,p.1≠b):
  Inv X π σ H' { s with heap:=h',gens:=g',drawn:=d',toks:=t' }:=by
 obtain⟨m,⟨o,es,ep,ho,r⟩,_⟩:=id I.loc;obtain⟨sl,hL⟩:=u.any ho I.free λz=>(hch _ z).2.1 rfl;exact I.step (ch:=ch) hch (λb o hL hb hc e n=>u.keep b o e n (λz=>(bo.mp<|I.yG b z).elim hL hb) hc) (λb o _ _ hc e n=>u.any e n hc) (λb o hc e n=>u.free b o e n hc) (λb o hc e=>u.there b o e hc) u.tups u.frzs u.tbls (λm' hm=>by
  refine Gy hm λo' es' ep' ho' r'=>?_;rw[ho] at ho';cases ho';exact⟨_,es',ep',hL,r'⟩) hok hg
theorem Inv.turned {t':Nat}{it:Addr}(I:Inv X π σ H s)(k:∀b o,b≠it->s.heap.get? b=some o->h'.get? b=some o)(hn:H it=none)(hL:it≠X.env.locals)
  (h1:it∈X.ex\/X.s₀.heap.objs.size<=it) (h2:∀x c,X.env.cells.lookup x=some c->c≠it) (h3:∀p∈X.pn++π,p.1≠it):Inv X π σ H { s with heap:=h',toks:=t' }:=by
 have nit:∀b u,H b=some u->b≠it:=λb u e z=>by rw[z,hn] at e;cases e
 refine I.step (g':=s.gens) (d':=s.drawn) (ch:=[it]) (λb hb=>?_) (λb o _ _ hc e _=>k b o (λz=>hc<|by simp[z]) e) (λb o _ _ hc e _=>⟨o.slots,k b o (λz=>hc<|by simp[z]) e⟩) (λ_ _ _ _ n=>n)
  (λb o hc e=>⟨o,k b o (λz=>hc<|by simp[z]) e⟩) (λ_ _ e=>e) (λ_ _ _ e=>e) (λb ps e=>⟨#[],by rw[e];simp⟩) (λm hm=>?_) (λb u e=>?_) I.bare
 ·have e:b=it:=by simpa using hb
  subst e;exact⟨h1,hL,h2,h3⟩
 ·refine Gy hm λo es ep ho r=>?_;exact⟨o,es,ep,k _ o (kR hL) ho,r⟩
 ·refine(I.hok b u e).stay (λc v hc q=>k c v ?_ q) (λ_ q=>q) λ_ _ q=>q;rcases hc with z|z
  ·rw[z];exact nit b u e
  ·exact nit c _ z
theorem Inv.tok (I:Inv X π σ H s)(t:Nat):Inv X π σ H { s with toks:=t }:=I.un (h':=s.heap) (t':=t) Un.refl I.hok
theorem Inv.kept (I:Inv X π σ H s)(k:∀b u,s.heap.get? b=some u->h'.get? b=some u):Inv X π σ H { s with heap:=h',toks:=t' }:=I.un (Un.kept k)<|I.hok.kept k
theorem Inv.laid (I:Inv X π σ H s)(k:∀b u,s.heap.get? b=some u->h'.get? b=some u)(hp:s.heap.objs.size<=a)(new:dH X.prog X.w (upd H a o) h' a o):
  Inv X π σ (upd H a o) { s with heap:=h',toks:=t' }:=I.un (Un.laid k hp<|I.hok.fresh hp)<|I.hok.laid k hp new
theorem Inv.write (I:Inv X π σ H s)(mu:Mut (H x))(he:e=x\/H e=some (.own x))(k:∀b u,b≠e->s.heap.get? b=some u->h'.get? b=some u)(heo:∃u,h'.get? e=some u)
  (new:dH X.prog X.w (upd H x o) h' x o):Inv X π σ (upd H x o) { s with heap:=h',toks:=t' }:=I.un (Un.write mu he k heo)<|I.hok.write mu he k heo new
theorem Inv.weak (I:Inv X π σ H s)(hl:σ'.length=σ.length)(w:∀(i:Nat) v,σ'[i]? = some (some v)->σ[i]? = some (some v)):Inv X π σ' H s:=
 ⟨I.ok,I.os,I.bare,I.base,let⟨m,hn,hl'⟩:=I.loc;⟨m,hn,λi x v e1 e2 e3=>hl' i x v e1 (w i v e2) e3⟩,I.cell,I.free,I.freeC,I.pin,I.hok,hl.trans I.len⟩
theorem Inv.Dl (I:Inv X π σ H s)(h:∀p∈pins',s.heap.get? p.1=some p.2/\H p.1=none/\p.1≠X.env.locals/\p.1∉X.fs/\∀v,p.2.data≠.cell v):Inv X pins' σ H s:=
 ⟨I.ok,I.os,I.bare,I.base,I.loc,I.cell,I.free,I.freeC,λp hp=>(eB.mp hp).elim (λz=>I.pin p<|qo _ z)<|h p,I.hok,I.len⟩
theorem zm {N:List Str}(hN:N.Nodup){i j:Nat}{x:Str}(a:N[i]? = some x)(b:N[j]? = some x):i=j:=by
 obtain⟨h1,e1⟩:=eC.mp a;obtain⟨h2,e2⟩:=eC.mp b;exact(List.getElem_inj hN).mp (e1.trans e2.symm)
theorem wz (I:Inv X π σ H s)(hN:X.N.Nodup)(hi:X.N[i]? = some x)(hx:Loc X.env.scope x)(r:RelV v u)
  (h:∀s',Inv X π (σ.set i<|some v) H s'->(∃a,mB a s.heap s'.heap/\(a=X.env.locals\/X.env.cells.lookup x=some a))->Q () s') (hf:X.fn x=true\/X.env.scope.names.lookup x=some .local:=by first|exact .inl rfl|exact .inr rfl|assumption):cb M A (storeName X.env x u) Q E s:=by
 obtain⟨m,hn,hl⟩:=id I.loc;have hcls:(X.env.scope.kind==.class||(X.env.scope.kind==.module&&X.env.locals != X.env.globals))=false:=by rw[I.ok.kind];rfl
 have hiσ:i<σ.length:=by rw[I.len];exact(eC.mp hi).1
 have cne:=I.cne;have tracked:∀{a:Addr} {h':Heap},(∃o,s.heap.get? a=some o/\H a=none)->mB a s.heap h'->HOk X.prog X.w H h':=λ{a h'} ha hs b ob e=>by
  obtain⟨_,_,hfree⟩:=ha;refine(I.hok b ob e).stay (λc w' hc q=>(hs.2 c ?_).trans q) (λ_ q=>q) λ_ _ q=>q;rintro rfl;rcases hc with rfl|hc
  ·rw[hfree] at e;cases e
  ·rw[hfree] at hc;cases hc
 rcases hx with hk|hk
 ·refine wpAny_storeName_local hk hn (λh' hn' hs=>?_) hcls;refine Gy (id hn) λoL _ _ hoL _=>?_;refine h _ ⟨I.ok,I.os,I.bare,⟨λb o e n hb hx=>?_,λb o e n hb hx=>?_,I.base.free,λb o e hx=>?_,I.base.tups,I.base.frzs,I.base.tbls⟩,⟨_,hn',λj y v' e1 e2 e3=>?_⟩,λy c e=>?_,I.free,I.freeC,λp hp=>?_,tracked ⟨oL,hoL,I.free⟩ hs,by simpa using I.len⟩ ⟨_,hs,.inl rfl⟩
  ·exact(hs.2 b<|b0<|a9 (a7 e) I.ok.above).trans (I.base.keep b o e n hb hx)
  ·obtain⟨sl,e1⟩:=I.base.slot b o e n hb hx;exact⟨sl,(hs.2 b<|b0<|a9 (a7 e) I.ok.above).trans e1⟩
  ·obtain⟨o',e1⟩:=I.base.there b o e hx;exact⟨o',(hs.2 b<|b0<|a9 (a7 e) I.ok.above).trans e1⟩
  ·by_cases hj:j=i
   ·subst hj;rw[hi] at e1;cases e1;rw[dE hiσ] at e2;cases e2;exact⟨u,r,.inl ⟨hk,by simp⟩⟩
   ·rw[ef<|kR hj] at e2;obtain⟨u',r',q⟩:=hl j y v' e1 e2 e3;refine⟨u',r',?_⟩;rcases q with⟨k,e⟩|⟨k,c,e,z⟩
    ·refine .inl ⟨k,?_⟩
     have:y≠x:=λe=>hj<|zm hN e1<|e▸hi
     simp[this,e]
    ·exact .inr ⟨k,c,e,z.sameBut hs<|cne y c e⟩
  ·obtain⟨w',z⟩:=I.cell y c e;exact⟨w',z.sameBut hs<|cne y c e⟩
  ·refine Ff (I.pin p hp) λe n ne nf d=>?_;exact⟨(hs.2 p.1 ne).trans e,n,ne,nf,d⟩
 ·have hfn:X.fn x=true:=by
   rcases hf with z|z
   ·exact z
   ·rw[z] at hk;cases hk
  obtain⟨c,hc⟩:=I.ok.has x<|.inl hk;obtain⟨w',z⟩:=I.cell x c hc;refine wpAny_storeName_cell I.ok.kind hk hc z λh' hc' hs=>?_;obtain⟨oc,hoc,hocd⟩:=id z;refine h { s with heap:=h' } ⟨I.ok,I.os,I.bare,⟨λb o e n hb hx=>?_,λb o e n hb hx=>?_,I.base.free,λb o e hx=>?_,I.base.tups,I.base.frzs,I.base.tbls⟩,⟨m,hn.sameBut hs<|kR<|cne x c hc,λj y v' e1 e2 e3=>?_⟩,λy c' e=>?_,I.free,I.freeC,λp hp=>?_,tracked ⟨oc,hoc,I.freeC x c hc⟩ hs,by simpa using I.len⟩ ⟨c,hs,.inr hc⟩
  ·exact(hs.2 b<|b0<|a9 (a7 e)<|I.ok.cab x c hfn hc).trans (I.base.keep b o e n hb hx)
  ·obtain⟨sl,e1⟩:=I.base.slot b o e n hb hx;exact⟨sl,(hs.2 b<|b0<|a9 (a7 e)<|I.ok.cab x c hfn hc).trans e1⟩
  ·obtain⟨o',e1⟩:=I.base.there b o e hx;exact⟨o',(hs.2 b<|b0<|a9 (a7 e)<|I.ok.cab x c hfn hc).trans e1⟩
  ·by_cases hj:j=i
   ·subst hj;rw[hi] at e1;cases e1;rw[dE hiσ] at e2;cases e2;exact⟨u,r,.inr ⟨.inl hk,c,hc,hc'⟩⟩
   ·rw[ef<|kR hj] at e2;obtain⟨u',r',q⟩:=hl j y v' e1 e2 e3;refine⟨u',r',?_⟩;rcases q with q|⟨k,c',e,z'⟩
    ·exact .inl q
    ·refine .inr ⟨k,c',e,z'.sameBut hs ?_⟩;rintro rfl;exact hj<|zm hN e1<|I.ok.inj _ _ _ e hc▸hi
  ·by_cases hcc:c'=c
   ·subst hcc;exact⟨_,hc'⟩
   ·obtain⟨w2,z2⟩:=I.cell y c' e;exact⟨w2,z2.sameBut hs hcc⟩
  ·refine Ff (I.pin p hp) λe n ne nf d=>?_;refine⟨(hs.2 p.1 ?_).trans e,n,ne,nf,d⟩;intro q;rw[q,hoc] at e;have q':oc=p.2:=cx e;exact d w' (by rw[← q'];exact hocd)
theorem z8 (I:Inv X π σ H s)(hN:X.N.Nodup)(hi:X.N[i]? = some x)(hx:Loc X.env.scope x)(r:RelV v u)
  (h:∀s',Inv X π (σ.set i<|some v) H s'->Q () s') (hf:X.fn x=true\/X.env.scope.names.lookup x=some .local:=by first|exact .inl rfl|exact .inr rfl|assumption):cb M A (storeName X.env x u) Q E s:=
 wz I hN hi hx r (λs' I' _=>h s' I') hf
theorem Inv.call' (I:Inv X π σ H s)(ho:s'.os=s.os)(u:Un (frs X.stack) ch H H' s.heap s'.heap)(hok:HOk X.prog X.w H' s'.heap)(hg:nK s'.gens)
  (hch:∀b∈ch,(b∈X.ex\/X.s₀.heap.objs.size<=b)/\b≠X.env.locals/\(∀x c,X.env.cells.lookup x=some c->c≠b)/\∀p∈X.pn++π,p.1≠b):Inv X π σ H' s':=by
 obtain⟨h',g',d',t',o'⟩:=s';have e:o'=s.os:=ho;subst e;exact I.call (g':=g') (t':=t') (d':=d') u hok hg hch
end
abbrev XK:=ay->Option Addr->Hp->Prop
abbrev St:=List<|Option V
abbrev VK:=V->Hp->Prop
abbrev TE:=St->Hp->VK->Prop
abbrev TT:=St->Hp->(Bool->Hp->Prop)->Prop
abbrev TA:=St->Hp->(List V->Hp->Prop)->Prop
structure Ends where
 nx:St->Hp->Prop
 rt:VK
 bk:St->Hp->Prop:=λ_ _=>False
 ct:St->Hp->Prop:=λ_ _=>False
abbrev TS:=Ends->St->Hp->Prop
def EP (X:Cx)(π:Zo)(σ:St)(Q:VK)(u:ay)(s':aS):Prop:=∃v H',Inv X π σ H' s'/\RelV v u/\Q v H'
def TP (X:Cx)(π:Zo)(σ:St)(Q:Bool->Hp->Prop)(b:Bool)(s':aS):Prop:=∃H',Inv X π σ H' s'/\Q b H'
def AP (X:Cx)(π:Zo)(σ:St)(Q:List V->Hp->Prop)(us:List ay)(s':aS):Prop:=∃vs H',Inv X π σ H' s'/\Vals vs us/\Q vs H'
def SP (X:Cx)(π:Zo)(D:Ends)(f:Flow)(s':aS):Prop:=
 match f with
 | .next=>∃σ' H',Inv X π σ' H' s'/\D.nx σ' H'
 | .brk=>∃σ' H',Inv X π σ' H' s'/\D.bk σ' H'
 | .cont=>∃σ' H',Inv X π σ' H' s'/\D.ct σ' H'
 | .ret u=>∃v σ' H',Inv X π σ' H' s'/\RelV v u/\D.rt v H'
def PE (X:Cx)(e:Expr)(t:TE):Prop:=
 ∀(π:Zo) (s:aS) (σ:St) (H:Hp) (Q:VK),Inv X π σ H s->t σ H Q->cb (cw X.prog X.w) X.A (eval e X.env) (EP X π σ Q) X.xe s
def PT (X:Cx)(e:Expr)(t:TT):Prop:=
 ∀(π:Zo) (s:aS) (σ:St) (H:Hp) (Q:Bool->Hp->Prop),Inv X π σ H s->t σ H Q->cb (cw X.prog X.w) X.A (isTrue e X.env<|eval e X.env) (TP X π σ Q) X.xe s
def PW (X:Cx)(e:Expr)(t:TT):Prop:=
 ∀(whole:Sem ay) (π:Zo) (s:aS) (σ:St) (H:Hp) (Q:Bool->Hp->Prop),Inv X π σ H s->t σ H Q->cb (cw X.prog X.w) X.A (isTrue e X.env whole) (TP X π σ Q) X.xe s
theorem PW.pt (h:PW X e t):PT X e t:=h _
def PA (X:Cx)(es:List Expr)(t:TA):Prop:=
 ∀(pos:Pos) (π:Zo) (s:aS) (σ:St) (H:Hp) (Q:List V->Hp->Prop),Inv X π σ H s->t σ H Q->cb (cw X.prog X.w) X.A (spliced<|gX pos<|ax es X.env) (AP X π σ Q) X.xe s
def PS (X:Cx)(st:Stmt)(t:TS):Prop:=
 ∀(π:Zo) (s:aS) (σ:St) (H:Hp) (D:Ends),Inv X π σ H s->t D σ H->cb (cw X.prog X.w) X.A (exec st X.env) (SP X π D) X.xe s
def PSs (X:Cx)(st:List Stmt)(t:TS):Prop:=
 ∀(π:Zo) (s:aS) (σ:St) (H:Hp) (D:Ends),Inv X π σ H s->t D σ H->cb (cw X.prog X.w) X.A (execs st X.env) (SP X π D) X.xe s
theorem thn (h:cb M A t Q E s)(hQ:∀a s,Q a s->Q' a s):cb M A t Q' E s:=iF h hQ λ_ _ x=>x
section
variable {X:Cx}
theorem bin (ha:PE X a ta)(hb:PE X b tb){π:Zo}{s:aS}{σ:St}{H:Hp}{R:V->V->Hp->Prop}(I:Inv X π σ H s)(h:ta σ H λx H1=>tb σ H1 λy H2=>R x y H2)
  {α:Type} {Q:α->aS->Prop} {f:ay->ay->Sem α}
  (hf:∀v u s2 x y H2,Inv X π σ H2 s2->RelV x v->RelV y u->R x y H2->cb (cw X.prog X.w) X.A (f v u) Q X.xe s2):
  cb (cw X.prog X.w) X.A (eval a X.env) (λv s₁=>cb (cw X.prog X.w) X.A (eval b X.env) (λu s₂=>cb (cw X.prog X.w) X.A (f v u) Q X.xe s₂) X.xe s₁) X.xe s:=by
 refine thn (ha π s σ H _ I h) λv s1 hE=>xq2 hE λx H1 I1 r1 q1=>?_;refine thn (hb π s1 σ H1 _ I1 q1) λu s2 hE=>xq2 hE λy H2 I2 r2 q2=>?_;exact hf v u s2 x y H2 I2 r1 r2 q2
def Ac (i:Nat):TE:=λσ H Q=>∃v,σ[i]? = some (some v)/\Q v H
def tC (v:V):TE:=λ_ H Q=>Q v H
theorem aL (hN:X.N[i]? = some x)(hv:Vis X.env.scope x)(hd:(x==("__debug__":Str))=false:=by decide)(hcd:(x==("__classdict__":Str))=false:=by decide):PE X (.Name x pos) (Ac i):=by
 intro π s σ H Q I h;obtain⟨v,e,h⟩:=h;obtain⟨m,hn,hl⟩:=I.loc;obtain⟨u,r,l⟩:=hl i x v hN e hv;have fin:EP X π σ Q u s:=⟨v,H,I,r,h⟩;rcases l with⟨hk,hm⟩|⟨hk,c,hc,hcell⟩
 ·exact wpAny_Name (wpAny_loadName_local I.ok.kind hk hn hm fin) hd
 ·rcases hk with hk|hk
  ·exact wpAny_Name (wpAny_loadName_cell I.ok.kind hk hc hcell fin) hd
  ·exact wpAny_Name (wpAny_loadName_free I.ok.kind hk hc hcell fin hcd) hd
theorem qQ:PE X (.Constant (.int i) j pos) (tC<|.int i):=λ_ _ _ H _ I h=>wpAny_Constant_int ⟨.int i,H,I.tok _,⟨_,rfl⟩,h⟩
theorem Ka:PE X (.Constant (.bool b) j pos) (tC<|.bl b):=λ_ _ _ H _ I h=>Constant_bool ⟨.bl b,H,I,rfl,h⟩
theorem Ck:PE X (.Constant .none j pos) (tC .non):=λ_ _ _ H _ I h=>Constant_none ⟨.non,H,I,rfl,h⟩
theorem ig:PE X (.Constant (.str x) j pos) (tC<|.str x):=λ_ _ _ H _ I h=>Calls.Constant_str ⟨.str x,H,I.tok _,⟨_,rfl⟩,h⟩
def Gl (X:Cx)(x:Str):Prop:=X.env.kindOf x=some .globalImplicit
theorem xx (I:Inv X π σ H s)(hg:Gl X x)(hm:X.mg x=some u)(h:Q u s)
  (hd:(x==("__debug__":Str))=false:=by decide):cb (cw X.prog X.w) X.A (eval (.Name x pos) X.env) Q E s:=
 mr I.ok.kind hg (Calls.loadGlobal_global (by rw[I.ok.glob];exact I.mod.glob.keeps I.bk) hm h) hd
theorem rM (I:Inv X π σ H s)(hg:Gl X x)(hm:X.mg x=none)(hv:b9 x=some u)(h:Q u s)
  (hn:x≠"__name__":=by decide) (hd:(x==("__debug__":Str))=false:=by decide):cb (cw X.prog X.w) X.A (eval (.Name x pos) X.env) Q E s:=by
 obtain⟨mb,h1,h2⟩:=I.mod.blt;exact mr I.ok.kind hg (Calls.loadGlobal_builtin (by rw[I.ok.glob];exact I.mod.glob.keeps I.bk) hm (by rw[I.ok.blt];exact h1.keeps I.bk) ((h2 x hn).trans hv) h) hd
theorem ud (hg:Gl X x)(hm:X.mg x=some u)(r:RelV v u)(hd:(x==("__debug__":Str))=false:=by decide):PE X (.Name x pos) (tC v):=
 λ_ _ _ H _ I h=>xx I hg hm ⟨v,H,I,r,h⟩ hd
theorem Dm (hg:Gl X x)(hm:X.mg x=none)(hv:b9 x=some u)(r:RelV v u)(hn:x≠"__name__":=by decide)(hd:(x==("__debug__":Str))=false:=by decide):PE X (.Name x pos) (tC v):=
 λ_ _ _ H _ I h=>rM I hg hm hv ⟨v,H,I,r,h⟩ hn hd
def t2I (ta tb:TE)(k:Int->Int->Hp->Prop):St->Hp->Prop:=λσ H=>ta σ H λx H1=>tb σ H1 λy H2=>∃i j,x=.int i/\y=.int j/\k i j H2
def Uv (ta tb:TE):TE:=λσ H Q=>t2I ta tb (λi j H2=>Q (.int<|i+j) H2) σ H
variable {a b:Expr}{ta tb:TE}{pos:Pos}
theorem LK (ha:PE X a ta)(hb:PE X b tb):PE X (.BinOp a .Add b pos) (Uv ta tb):=by
 intro π s σ H Q I h;refine wpAny_BinOp<|bin ha hb I h λv u s2 x y H2 I2 rx ry q=>?_;obtain⟨i,j,rfl,rfl,q⟩:=q;obtain⟨t,rfl⟩:=rx;obtain⟨t',rfl⟩:=ry;exact add_int ⟨.int _,H2,I2.tok _,⟨_,rfl⟩,q⟩
def PC (X:Cx)(op:CmpOp)(a b:Expr)(t:TE):Prop:=
 ∀(π:Zo) (s:aS) (σ:St) (H:Hp) (Q:VK),Inv X π σ H s->t σ H Q->
  cb (cw X.prog X.w) X.A (eval a X.env) (λv s₁=>cb (cw X.prog X.w) X.A (eval b X.env) (λu s₂=>cb (cw X.prog X.w) X.A (cy op v u) (EP X π σ Q) X.xe s₂) X.xe s₁) X.xe s
theorem Im (b:Expr){op:CmpOp}(h:op≠.In)(h2:op≠.NotIn):f6 op b=false:=by
 have e1:(op==CmpOp.In)=false:=by cases op<;>first|rfl|exact absurd rfl h
 have e2:(op==CmpOp.NotIn)=false:=by cases op<;>first|rfl|exact absurd rfl h2
 cases b<;>simp[f6,e1,e2]
def Rz (p:Int->Int->Bool)(ta tb:TE):TE:=λσ H Q=>t2I ta tb (λi j H2=>Q (.bl<|p i j) H2) σ H
abbrev tLt:TE->TE->TE:=Rz λi j=>decide<|i<j
abbrev tGt:TE->TE->TE:=Rz λi j=>decide<|j<i
theorem Ma (ha:PE X a ta)(hb:PE X b tb)
  (rule:∀(i j:Int) (t u:Tok) (Q:Zv) (s:aS),Q (.bool<|p i j) s->cb (cw X.prog X.w) X.A (cy op (.int i t)<|.int j u) Q X.xe s):PC X op a b (Rz p ta tb):=by
 intro π s σ H Q I h;refine bin ha hb I h λv u s2 x y H2 I2 rx ry q=>?_;obtain⟨i,j,rfl,rfl,q⟩:=q;obtain⟨t,rfl⟩:=rx;obtain⟨t',rfl⟩:=ry;exact rule i j t t' _ s2 ⟨.bl _,H2,I2,rfl,q⟩
theorem Qp (ha:PE X a ta)(hb:PE X b tb):PC X .Lt a b (tLt ta tb):=Ma ha hb λ_ _ _ _ _ _ h=>lt_int h
theorem Vp (ha:PE X a ta)(hb:PE X b tb):PC X .Gt a b (tGt ta tb):=Ma ha hb λ_ _ _ _ _ _ h=>gt_int h
def Vx (ta:TE):TE:=λσ H Q=>ta σ H λx H1=>Q (.bl<|decide<|x=.non) H1
theorem RelV.Ip (r:RelV x v):(v==fT)=decide (x=.non):=by
 cases x with
 |non=>cases r;rfl
 |bl _=>cases r;rfl
 |int _=>obtain⟨t,rfl⟩:=r;rfl
 |str _=>obtain⟨t,rfl⟩:=r;rfl
 |byt _=>obtain⟨t,rfl⟩:=r;rfl
 |flt _=>obtain⟨t,rfl⟩:=r;rfl
 |ref _=>cases r;rfl
 |ty _=>cases r;rfl
theorem Ra (ha:PE X a ta):PC X .Is a (.Constant .none j pos') (Vx ta):=by
 intro π s σ H Q I h;refine thn (ha π s σ H _ I h) λv s1 hE=>xq2 hE λx H1 I1 r1 q1=>?_;exact Constant_none<|is_none_gen ⟨.bl _,H1,I1,by rw[r1.Ip];rfl,q1⟩
def tB (t:TE):TT:=λσ H Q=>t σ H λx H1=>∃c,x=.bl c/\Q c H1
theorem xG (h:PC X op a b t)(h1:f6 op b=false:=by first|exact Im _ (by decide) (by decide)|rfl):PT X (.Compare a [op] [b] pos) (tB t):=by
 intro π s σ H Q I hw;refine wpAny_isTrue_Compare1 (thn (h π s σ H _ I hw) λv s1 h1=>thn h1 λu s2 h2=>thn h2 λc s3 hE=>xq2 hE λx H1 I1 r1 q1=>?_) h1;obtain⟨d,rfl,q⟩:=q1;cases r1;exact fv ⟨H1,I1,q⟩
theorem mY (h:PE X e t)(he:∀whole,isTrue e X.env whole=(do let v←whole;standAt e.pos;holding [v] (truthy v)):=by intro _;rfl):PT X e (tB t):=by
 intro π s σ H Q I hw;refine isTrue_plain (thn (h π s σ H _ I hw) λv s1 hE=>xq2 hE λx H1 I1 r1 q1=>?_)<|he _;obtain⟨d,rfl,q⟩:=q1;cases r1;exact fv ⟨H1,I1,q⟩
variable {tA tB':TT}{rest:List Expr}
def V6 (t u:TT):TT:=λσ H Q=>t σ H λc H1=>if c=true then u σ H1 Q else Q false H1
def tOr (t u:TT):TT:=λσ H Q=>t σ H λc H1=>if c=true then Q true H1 else u σ H1 Q
def RG (t:TT):TT:=λσ H Q=>t σ H λc H1=>Q (!c) H1
theorem Fb (ha:PT X a tA):PW X (.BoolOp .And [a] pos) tA:=by
 intro wh π s σ H Q I h;refine isTrue_and<|thn (ha π s σ H Q I h) λc s1 e=>?_;cases c with
 |true=>exact isTrue_and_nil e
 |false=>exact e
theorem Rn (ha:PT X a tA):PW X (.BoolOp .Or [a] pos) tA:=by
 intro wh π s σ H Q I h;refine isTrue_or<|thn (ha π s σ H Q I h) λc s1 e=>?_;cases c with
 |false=>exact isTrue_or_nil e
 |true=>exact e
theorem Lk (ha:PT X a tA)(hb:PW X (.BoolOp .And (b::rest) pos) tB'):PW X (.BoolOp .And (a::b::rest) pos) (V6 tA tB'):=by
 intro wh π s σ H Q I h;refine isTrue_and<|thn (ha π s σ H _ I h) λc s1 ⟨H1,I1,q1⟩=>?_;cases c with
 |true=>exact hb wh π s1 σ H1 Q I1 q1
 |false=>exact⟨H1,I1,q1⟩
theorem Uo (ha:PT X a tA)(hb:PW X (.BoolOp .Or (b::rest) pos) tB'):PW X (.BoolOp .Or (a::b::rest) pos) (tOr tA tB'):=by
 intro wh π s σ H Q I h;refine isTrue_or<|thn (ha π s σ H _ I h) λc s1 ⟨H1,I1,q1⟩=>?_;cases c with
 |true=>exact⟨H1,I1,q1⟩
 |false=>exact hb wh π s1 σ H1 Q I1 q1
theorem uN (ha:PT X a tA):PT X (.UnaryOp .Not a pos) (RG tA):=by
 intro π s σ H Q I h;exact isTrue_not<|ha π s σ H (λc H1=>Q (!c) H1) I h
def Uy (ta tb:TE):TE:=λσ H Q=>ta σ H λx H1=>∃c,x=.bl c/\if c=true then tb σ H1 Q else Q (.bl false) H1
def T9 (ta:TE):TE:=λσ H Q=>ta σ H λx H1=>∃c,x=.bl c/\Q (.bl<|!c) H1
theorem RD (h:PE X a t):PE X (.BoolOp op [a] pos) t:=λπ s σ H Q I hw=>BoolOp_one<|h π s σ H Q I hw
theorem Q4 (ha:PE X a ta)(hb:PE X (.BoolOp .And (b::rest) pos) tb):PE X (.BoolOp .And (a::b::rest) pos) (Uy ta tb):=by
 intro π s σ H Q I h;refine BoolOp_and<|thn (ha π s σ H _ I h) λv s1 hE=>xq2 hE λx H1 I1 r1 q1=>?_;obtain⟨c,rfl,q1⟩:=q1;cases r1;refine fv ?_;cases c with
 |true=>exact hb π s1 σ H1 Q I1 q1
 |false=>exact⟨.bl false,H1,I1,rfl,q1⟩
theorem Sv (ha:PE X a ta):PE X (.UnaryOp .Not a pos) (T9 ta):=by
 intro π s σ H Q I h;refine UnaryOp_<|thn (ha π s σ H _ I h) λv s1 hE=>xq2 hE λx H1 I1 r1 q1=>?_;obtain⟨c,rfl,q1⟩:=q1;cases r1;exact not_of<|fv ⟨.bl<|!c,H1,I1,rfl,q1⟩
def tIf (t:TT)(ta tb:TE):TE:=λσ H Q=>t σ H λc H1=>if c=true then ta σ H1 Q else tb σ H1 Q
theorem Aj (hc:PT X c tA)(ha:PE X a ta)(hb:PE X b tb):PE X (.IfExp c a b pos) (tIf tA ta tb):=by
 intro π s σ H Q I h;refine wpAny_IfExp<|thn (hc π s σ H _ I h) λd s1 ⟨H1,I1,q1⟩=>?_;cases d with
 |true=>exact ha π s1 σ H1 Q I1 q1
 |false=>exact hb π s1 σ H1 Q I1 q1
end
def SqL (K:aw)(H:Hp)(a:Addr)(xs:List V):Prop:=
 Rd H a (.lst xs) ∨
  ∃(o:Obj) (χ:Array ay) (n:Nat),K.lookup a=some o/\o.cls=.type "list"/\o.dict=none/\o.data=.seq χ n/\χ.size<=aT/\Vals xs χ.toList
def SqT (K:aw)(H:Hp)(a:Addr)(xs:List V):Prop:=
 Rd H a (.tup xs) ∨
  ∃(o:Obj) (χ:Array ay) (n:Nat),K.lookup a=some o/\o.cls=.type "tuple"/\(o.data=.seq χ n/\o.dict=none)/\χ.size<=aT/\Vals xs χ.toList
abbrev KTp (K:aw)(a:Addr)(xs:List V):Prop:=
  ∃(o:Obj) (χ:Array ay) (n:Nat),K.lookup a=some o/\o.cls=.type "tuple"/\(o.data=.seq χ n/\o.dict=none)/\χ.size<=aT/\Vals xs χ.toList
def SqU (K:aw)(H:Hp)(a:Addr)(xs:List V):Prop:=H a=some (.tup xs)\/KTp K a xs
theorem SqU.sq {K:aw}{H:Hp}{a:Addr}{xs:List V}(h:SqU K H a xs):SqT K H a xs:=h.elim (λe=>.inl<|.inl e) .inr
theorem SqU.of {K:aw}{H:Hp}{a:Addr}{xs:List V}(h:H a=some (.tup xs)):SqU K H a xs:=.inl h
noncomputable def V1:ay->Option V
 | .none=>some .non
 | .bool b=>some<|.bl b
 | .int i _=>some<|.int i
 | .str x _=>some<|.str x
 | .bytes b _=>some<|.byt b
 | .float b _=>some<|.flt b
 | .ref a=>some<|.ref a
 | .type n=>some<|.ty n
 |_=>none
theorem RelV.abs (r:RelV x u):V1 u=some x:=by
 cases x with
 |non=>cases r;rfl
 |bl _=>cases r;rfl
 |int _=>obtain⟨t,rfl⟩:=r;rfl
 |str _=>obtain⟨t,rfl⟩:=r;rfl
 |byt _=>obtain⟨t,rfl⟩:=r;rfl
 |flt _=>obtain⟨t,rfl⟩:=r;rfl
 |ref _=>cases r;rfl
 |ty _=>cases r;rfl
theorem RelV.inj (r:RelV x u)(q:RelV y u):x=y:=cx<|r.abs.symm.trans q.abs
theorem Vals.inj:∀{xs ys:List V} {us:List ay},Vals xs us->Vals ys us->xs=ys
 |_,_,_,.nil,.nil=>rfl
 |_,_,_,.cons r t,.cons r' t'=>by rw[r.inj r',Vals.inj t t']
section
variable {X:Cx}{π:Zo}{σ:St}{H:Hp}{s:aS}{a:Addr}{xs ys:List V}
theorem SqL.of {K:aw}(h:H a=some (.lst xs)):SqL K H a xs:=.inl<|.inl h
theorem Inv.list (I:Inv X π σ H s)(h:SqL X.K H a xs):∃χ:List ay,Vals xs χ/\PlainL s.heap a χ.toArray/\xs.length<=aT:=by
 rcases h with h|⟨o,χ,n,hk,hc,hd,hs,hz,r⟩
 ·obtain⟨z,χ,n,r,e⟩:=h.ok I.hok;exact⟨χ,r,⟨_,n,e,rfl,rfl,rfl⟩,z⟩
 ·refine⟨χ.toList,r,⟨o,n,I.kIn a o hk,hc,hd,by simpa using hs⟩,?_⟩;have e:=r.length;simp only[lP] at e
  lia
theorem Inv.tuple (I:Inv X π σ H s)(h:SqT X.K H a xs):∃χ:List ay,Vals xs χ/\IsTup s.heap a χ.toArray/\xs.length<=aT:=by
 rcases h with h|⟨o,χ,n,hk,hc,hs,hz,r⟩
 ·obtain⟨z,χ,r,p⟩:=h.ok I.hok;exact⟨χ,r,p.tup,z⟩
 ·refine⟨χ.toList,r,⟨o,I.kIn a o hk,hc,n,by simpa using hs.1⟩,?_⟩;have e:=r.length;simp only[lP] at e
  lia
theorem Inv.J0 (I:Inv X π σ H s)(h:SqL X.K H a xs)(h':SqL X.K H a ys):xs=ys:=by
 obtain⟨χ,r,⟨o,n,e,_,_,d⟩,_⟩:=I.list h;obtain⟨its',r',⟨o',n',e',_,_,d'⟩,_⟩:=I.list h';rw[e] at e';cases e';rw[d] at d';injection d' with d1 _
 have:χ=its':=by simpa using congrArg tp d1
 subst this;exact r.inj r'
theorem Inv.Ig (I:Inv X π σ H s)(h:SqT X.K H a xs)(h':SqT X.K H a ys):xs=ys:=by
 obtain⟨χ,r,⟨o,e,_,n,d⟩,_⟩:=I.tuple h;obtain⟨its',r',⟨o',e',_,n',d'⟩,_⟩:=I.tuple h';rw[e] at e';cases e';rw[d] at d';injection d' with d1 _
 have:χ=its':=by simpa using congrArg tp d1
 subst this;exact r.inj r'
end
section
variable {X:Cx}{π:Zo}{σ:St}{H:Hp}{s:aS}{E:Zv}
end
section
variable {X:Cx}{st:Stmt}{rest:List Stmt}{t u:TS}{e:Expr}{te:TE}{pos:Pos}
def Kr:TS:=λD σ H=>D.nx σ H
def Ov (t u:TS):TS:=λD σ H=>t { D with nx:=u D } σ H
theorem iY:PSs X [] Kr:=λ_ _ σ H _ I h=>l6 ⟨σ,H,I,h⟩
theorem aY (h1:PS X st t)(h2:PSs X rest u):PSs X (st::rest) (Ov t u):=by
 intro π s σ H D I h;refine wpAny_execs_cons<|thn (h1 π s σ H { D with nx:=u D } I h) λf s1 q=>?_;cases f with
 |next=>
  obtain⟨σ',H',I',q⟩:=q;exact h2 π s1 σ' H' D I' q
 |ret v=>exact q
 |brk=>exact q
 |cont=>exact q
theorem cI (h1:PS X st t):PSs X [st] t:=by
 intro π s σ H D I h;refine wpAny_execs_cons<|thn (h1 π s σ H D I h) λf s1 q=>?_;cases f with
 |next=>exact l6 q
 |ret v=>exact q
 |brk=>exact q
 |cont=>exact q
theorem Inv.quiet (I:Inv X π σ H s):interactive X.env=false:=by simp[interactive,I.ok.kind]
def Qt (te:TE):TS:=λD σ H=>te σ H λ_ H1=>D.nx σ H1
theorem fU (he:PE X e te)(hs:iS e none pos.line X.env=pure false:=by rfl):PS X (.Expr e pos) (Qt te):=by
 intro π s σ H D I h;exact wpAny_Expr_any (thn (he π s σ H _ I h) λv s1 hE=>xq2 hE λx H1 I1 r1 q1=>⟨σ,H1,I1,q1⟩) I.quiet hs
def MF (te:TE):TS:=λD σ H=>te σ H D.rt
theorem gF (he:PE X e te):PS X (.Return (some e) pos) (MF te):=by
 intro π s σ H D I h;exact wpAny_Return_some<|thn (he π s σ H _ I h) λv s1 hE=>xq2 hE λx H1 I1 r1 q1=>⟨x,σ,H1,I1,r1,q1⟩
def RX (c:TT)(t u:TS):TS:=λD σ H=>c σ H λb H1=>if b=true then t D σ H1 else u D σ H1
theorem mU (hc:PT X c tc)(ha:PSs X a t)(hb:PSs X b u):PS X (.If c a b pos) (RX tc t u):=by
 intro π s σ H D I h;refine wpAny_If<|thn (hc π s σ H _ I h) λd s1 ⟨H1,I1,q1⟩=>?_;cases d with
 |true=>exact ha π s1 σ H1 D I1 q1
 |false=>exact hb π s1 σ H1 D I1 q1
def Q6:TS:=λ_ _ _=>False
theorem kh:PSs X sts Q6:=λ_ _ _ _ _ _ h=>h.elim
end
abbrev TG:=V->St->Hp->(St->Hp->Prop)->Prop
abbrev TGs:=List V->St->Hp->(St->Hp->Prop)->Prop
def PG (X:Cx)(target:Expr)(t:TG):Prop:=
 ∀(π:Zo) (s:aS) (σ:St) (H:Hp) (v:V) (u:ay) (Q:St->Hp->Prop),Inv X π σ H s->RelV v u->t v σ H Q->
  cb (cw X.prog X.w) X.A (u7 target X.env u) (λ_ s'=>∃σ' H',Inv X π σ' H' s'/\Q σ' H') X.xe s
def PGs (X:Cx)(ts:List Expr)(t:TGs):Prop:=
 ∀(π:Zo) (s:aS) (σ:St) (H:Hp) (vs:List V) (us:List ay) (Q:St->Hp->Prop),Inv X π σ H s->Vals vs us->t vs σ H Q->
  cb (cw X.prog X.w) X.A (assignInOrder ((js ts X.env).map (·.2)) us) (λ_ s'=>∃σ' H',Inv X π σ' H' s'/\Q σ' H') X.xe s
section
def xg (i:Nat):TG:=λv σ H Q=>Q (σ.set i<|some v) H
theorem M5 (hN:X.N.Nodup)(hi:X.N[i]? = some x)(hx:Loc X.env.scope x)(hf:X.fn x=true\/X.env.scope.names.lookup x=some .local:=by first|exact .inl rfl|exact .inr rfl|assumption):PG X (.Name x pos) (xg i):=by
 intro π s σ H v u Q I r h;exact wpAny_assign_Name<|z8 I hN hi hx r (λs' I'=>⟨_,H,I',h⟩) hf
def VD:TGs:=λvs σ H Q=>vs=[]/\Q σ H
def U3 (t:TG)(u:TGs):TGs:=λvs σ H Q=>∃v r,vs=v::r/\t v σ H λσ' H'=>u r σ' H' Q
theorem Oj:PGs X [] VD:=by
 intro π s σ H vs us Q I r h;obtain⟨e,h⟩:=h;subst e;cases r;exact assignInOrder_nil ⟨σ,H,I,h⟩
theorem JV (h1:PG X e t)(h2:PGs X es u)
  (hs:(js (e::es) X.env).map (·.2)=u7 e X.env::(js es X.env).map (·.2):=by rfl):PGs X (e::es) (U3 t u):=by
 intro π s σ H vs us Q I r h;obtain⟨v,vr,e1,h⟩:=h;subst e1;cases r with
 |cons r rr=>
  rw[hs];refine assignInOrder_cons<|thn (h1 π s σ H _ _ _ I r h) λ_ s1 hE=>?_;obtain⟨σ1,H1,I1,q1⟩:=hE;exact h2 π s1 σ1 H1 _ _ Q I1 rr q1
def Wa (K:aw)(n:Nat)(t:TGs):TG:=λv σ H Q=>∃a xs,v=.ref a/\SqT K H a xs/\xs.length=n/\t xs σ H Q
theorem RZ (hc:X.calm=true)(h:PGs X es t)
  (hn:(js es X.env).length=n:=by rfl) (hst:(js es X.env).findIdx? (·.1)=none:=by rfl):PG X (.Tuple es k pos) (Wa X.K n t):=by
 intro π s σ H v u Q I r hw;obtain⟨a,xs,e1,hq,hl,hw⟩:=hw;subst e1;cases r;obtain⟨χ,rv,ht,hz⟩:=I.tuple hq;refine assign_Tuple_tuple (I.ok.hd hc) ht (by simp[hn,← hl,rv.length]) hst λh' hx=>?_;have I1:Inv X π σ H { s with heap:=h' }:=I.kept (t':=s.toks) λb o e=>hx b o (b0<|a7 e) e;exact h π _ σ H xs _ Q I1 (by simpa using rv) hw
def Pn (te:TE)(g:TG):TS:=λD σ H=>te σ H λx H1=>g x σ H1 D.nx
theorem dZ (hN:X.N.Nodup)(hi:X.N[i]? = some x)(hx:Loc X.env.scope x)(he:PE X e te)(hs:iS e (some<|.Name x pos') pos.line X.env=pure false:=by rfl)(hf:X.fn x=true\/X.env.scope.names.lookup x=some .local:=by first|exact .inl rfl|exact .inr rfl|assumption):
  PS X (.Assign [.Name x pos'] e pos) (Pn te<|xg i):=by
 intro π s σ H D I h;refine wpAny_Assign_Name (thn (he π s σ H _ I h) λv s1 hE=>xq2 hE λy H1 I1 r1 q1=>?_) hs;exact z8 I1 hN hi hx r1 (λs2 I2=>⟨_,H1,I2,q1⟩) hf
end
section
def RJ (c:TT)(tb:TS):TS:=λD σ H=>∃W:Nat->St->Hp->Prop,(∃m,W m σ H)/\∀m σ H,W m σ H->
 c σ H λb H1=>if b=true then ∃N:St->Hp->Prop,(∀σ' H',N σ' H'->∃m',m'<m/\W m' σ' H')/\tb { D with nx:=N,ct:=N,bk:=D.nx } σ H1 else D.nx σ H1
theorem uC (hp:si (cw X.prog X.w) X.A X.env X.xe)(hc:PT X c tc)(hb:PSs X body tb):PS X (.While c body [] pos) (RJ tc tb):=by
 intro π s σ H D I h;obtain⟨W,⟨m0,w0⟩,turn⟩:=h;refine wpAny_While<|codeAny_whileLoop (λn s'=>∃σ' H',Inv X π σ' H' s'/\W n σ' H') ?_ m0 ⟨σ,H,I,w0⟩;rintro n s1 ⟨σ1,H1,I1,w1⟩;refine gN hp<|thn (hc π s1 σ1 H1 _ I1<|turn n σ1 H1 w1) λb s2 ⟨H2,I2,q2⟩=>?_;cases b with
 |true=>
  obtain⟨N,hN,q2⟩:=q2;rw[if_pos rfl];refine gN hp<|thn (hb π s2 σ1 H2 _ I2 q2) λf s3 q3=>?_;cases f with
  |next=>
   obtain⟨σ3,H3,I3,n3⟩:=q3;obtain⟨m',hm,w3⟩:=hN σ3 H3 n3;exact⟨m',hm,σ3,H3,I3,w3⟩
  |cont=>
   obtain⟨σ3,H3,I3,n3⟩:=q3;obtain⟨m',hm,w3⟩:=hN σ3 H3 n3;exact⟨m',hm,σ3,H3,I3,w3⟩
  |brk=>exact q3
  |ret v=>exact q3
 |false=>
  rw[if_neg av];exact l6 ⟨σ1,H2,I2,q2⟩
end
structure It where
 go:Nat->Hp->Prop
 yld:Nat->Hp->V->Hp->Prop
 stop:Nat->Hp->Prop
def sV (X:Cx)(π:Zo)(H:Hp)(b:Addr):Prop:=
 H b=none/\b≠X.env.locals/\b∉X.fs/\(b∈X.ex\/X.s₀.heap.objs.size<=b)/\(∀x c,X.env.cells.lookup x=some c->c≠b)/\∀p∈X.pn++π,p.1≠b
theorem Inv.NQ (I:Inv X π σ H s)(hb:s.heap.objs.size<=b)(hn:H' b=none):sV X π H' b:=by
 refine⟨hn,kF<|a9 I.lt hb,I.V7 hb,.inr<|cn I.sz hb,λx c e z=>?_,λp hp z=>?_⟩
 ·obtain⟨v,q⟩:=I.cell x c e;exact absurd (a9 q.lt (by rw[z];exact hb))<|eL _
 ·exact absurd (a9 (a7 (I.pin p hp).1) (by rw[z];exact hb))<|eL _
abbrev Calm (X:Cx):Prop:=X.calm=true
structure Turn (Cm:Cx->Prop)(P:bb)(w:cp)(K:aw)(tg:Expr)(J:It)(fp:List Addr)(it:Addr)(tn:Nat->Heap->Prop):Prop where
 mem:it∈fp
 obj:∀i h,tn i h->∀b∈fp,∃o,h.get? b=some o/\∀v,o.data≠.cell v
 keep:∀i h h',tn i h->(∀b∈fp,∀o,h.get? b=some o->h'.get? b=some o)->tn i h'
 item:∀(X:Cx),X.prog=P->X.w=w->X.K=K->Cm X->∀(i:Nat) (π:Zo) (s:aS) (σ:St) (H:Hp) (E:Zv),Inv X π σ H s->(∀b∈fp,sV X π H b)->tn i s.heap->J.go i H->
  cb (cw P w) X.A (pyNext (.ref it)) (λr s1=>∃u,r=some u/\
   cb (cw P w) X.A (oP tg (.ref it) u) (λ_ s2=>∃x H',Inv X π σ H' s2/\RelV x u/\J.yld i H x H'/\tn (i+1) s2.heap/\∀b∈fp,H' b=none) E s1) E s
 done:∀(X:Cx),X.prog=P->X.w=w->X.K=K->Cm X->∀(i:Nat) (π:Zo) (s:aS) (σ:St) (H:Hp) (E:Zv),Inv X π σ H s->(∀b∈fp,sV X π H b)->tn i s.heap->J.stop i H->
  cb (cw P w) X.A (pyNext (.ref it)) (λr s1=>r=none/\Inv X π σ H s1) E s
 self:∀(A:dy) (i:Nat) (s:aS) (Q:Zv) (E:Zv),tn i s.heap->Q (.ref it) s->cb (cw P w) A (pyIter (.ref it)) Q E s
abbrev TI:=St->Hp->(It->Hp->Prop)->Prop
def PIE (Cm:Cx->Prop)(X:Cx)(π:Zo)(σ:St)(tg:Expr)(R:It->Hp->Prop)(itv:ay)(s2:aS):Prop:=
 ∃(it:Addr) (fp:List Addr) (tn:Nat->Heap->Prop) (J:It) (H':Hp),itv=.ref it/\Inv X π σ H' s2/\Turn Cm X.prog X.w X.K tg J fp it tn/\tn 0 s2.heap/\(∀b∈fp,sV X π H' b)/\R J H'
def PI (Cm:Cx->Prop)(X:Cx)(tg iter:Expr)(wi:TI):Prop:=
 ∀(π:Zo) (s:aS) (σ:St) (H:Hp) (R:It->Hp->Prop),Inv X π σ H s->wi σ H R->
  cb (cw X.prog X.w) X.A (eval iter X.env) (λv s1=>cb (cw X.prog X.w) X.A (pyIter v) (PIE Cm X π σ tg R) X.xe s1) X.xe s
theorem Fz (ho : s.heap.get? it = some o) (hc : o.cls = .type n) (hd : o.data = .fields vs)
    (hn : ["enumerate", "zip", "dict_itemiterator", "dict_reverseitemiterator", "odict_iterator", "itertools.zip_longest", "itertools.pairwise"].contains n = false) (hQ : Q () s) : cb M A (oP tg (.ref it) u) Q E s := by
  unfold oP;cases tg<;>first
    | exact bg hQ
    | (cases u<;>first
        | exact bg hQ
        | (refine af (wpAny_load ho ?_)
           rw [hc, hd];show cb M A (if (["enumerate", "zip", "dict_itemiterator", "dict_reverseitemiterator", "odict_iterator", "itertools.zip_longest", "itertools.pairwise"].contains n && vs[0]? == some (rawInt _)) = true then _ else _) Q E s;rw [if_neg (by intro h;rw [hn, Bool.false_and] at h;cases h)];exact bg hQ))
def Itl (K:aw)(a:Addr):It:=
 ⟨λi H=>∃xs x,SqL K H a xs/\xs[i]? = some x,λi H x H'=>H'=H/\∀xs,SqL K H a xs->xs[i]? = some x,λi H=>∃xs,SqL K H a xs/\xs.length<=i⟩
def Itt (K:aw)(a:Addr):It:=
 ⟨λi H=>∃xs x,SqT K H a xs/\xs[i]? = some x,λi H x H'=>H'=H/\∀xs,SqT K H a xs->xs[i]? = some x,λi H=>∃xs,SqT K H a xs/\xs.length<=i⟩
def Itr (lo:Int)(n:Nat):It:=⟨λi _=>i<n,λi H x H'=>H'=H/\x=.int (lo+i),λi _=>n<=i⟩
theorem G7 {P:bb}{w:cp}{K:aw}{tg:Expr}(a it:Addr):Turn Calm P w K tg (Itl K a) [it] it (λi h=>h.IsListIter it a i) where
 mem:=by simp
 obj:=λi h st b hb=>by
  have e:b=it:=by simpa using hb
  subst e;obtain⟨o,e,c,d⟩:=st;exact⟨o,e,λv z=>by rw[d] at z;cases z⟩
 keep:=λi h h' st k=>st.at λo e=>k it (by simp) o e
 item:=by
  intro X hP hw hK hc i π s σ H E I hf st hg;subst hP hw hK;obtain⟨xs,x,hq,hx⟩:=hg;obtain⟨χ,rv,p,hz⟩:=I.list hq;obtain⟨u,hu,ru⟩:=rv.get hx;refine rR (hf it<|by simp) λf0 f1 f2 f3 f4 f5=>?_;refine wpAny_pyNext_list_item st p.isList (x:=u) (by simpa using hu) λh' st' sb=>?_;have I1:Inv X π σ H { s with heap:=h' }:=I.turned (t':=s.toks) (λb o hb e=>(sb.2 b hb).trans e) f0 f1 f3 f4 f5;obtain⟨o,e,c,d⟩:=id st';exact⟨u,rfl,Fz (s:={ s with heap:=h' }) e c d (by decide) ⟨x,H,I1,ru,⟨rfl,λys hy=>by rw[I.J0 hy hq];exact hx⟩,st',λb hb=>(hf b hb).1⟩⟩
 done:=by
  intro X hP hw hK hc i π s σ H E I hf st hg;subst hP hw hK;obtain⟨xs,hq,hx⟩:=hg;obtain⟨χ,rv,p,hz⟩:=I.list hq;refine rR (hf it<|by simp) λf0 f1 f2 f3 f4 f5=>?_;have hl:=rv.length;exact wpAny_pyNext_list_end (I.ok.hd hc) st p.isList (by simp;lia) λh' eb=>⟨rfl,I.turned (t':=s.toks) (λb o hb e=>eb b o hb e) f0 f1 f3 f4 f5⟩
 self:=λ_ _ _ _ _ st h=>wpAny_pyIter_listiter st h
theorem Cz {P:bb}{w:cp}{K:aw}{tg:Expr}(a it:Addr):Turn Calm P w K tg (Itt K a) [it] it (λi h=>h.IsTupleIter it a i) where
 mem:=by simp
 obj:=λi h st b hb=>by
  have e:b=it:=by simpa using hb
  subst e;obtain⟨o,e,c,d⟩:=st;exact⟨o,e,λv z=>by rw[d] at z;cases z⟩
 keep:=λi h h' st k=>st.at λo e=>k it (by simp) o e
 item:=by
  intro X hP hw hK hc i π s σ H E I hf st hg;subst hP hw hK;obtain⟨xs,x,hq,hx⟩:=hg;obtain⟨χ,rv,p,hz⟩:=I.tuple hq;obtain⟨u,hu,ru⟩:=rv.get hx;refine rR (hf it<|by simp) λf0 f1 f2 f3 f4 f5=>?_;refine wpAny_pyNext_tuple_item st (show s.heap.IsTuple a χ.toArray from p) (x:=u) (by simpa using hu) λh' st' sb=>?_;have I1:Inv X π σ H { s with heap:=h' }:=I.turned (t':=s.toks) (λb o hb e=>(sb.2 b hb).trans e) f0 f1 f3 f4 f5;obtain⟨o,e,c,d⟩:=id st';exact⟨u,rfl,Fz (s:={ s with heap:=h' }) e c d (by decide) ⟨x,H,I1,ru,⟨rfl,λys hy=>by rw[I.Ig hy hq];exact hx⟩,st',λb hb=>(hf b hb).1⟩⟩
 done:=by
  intro X hP hw hK hc i π s σ H E I hf st hg;subst hP hw hK;obtain⟨xs,hq,hx⟩:=hg;obtain⟨χ,rv,p,hz⟩:=I.tuple hq;refine rR (hf it<|by simp) λf0 f1 f2 f3 f4 f5=>?_;have hl:=rv.length;exact wpAny_pyNext_tuple_end (I.ok.hd hc) st (show s.heap.IsTuple a χ.toArray from p) (by simp;lia) λh' eb=>⟨rfl,I.turned (t':=s.toks) (λb o hb e=>eb b o hb e) f0 f1 f3 f4 f5⟩
 self:=λ_ _ _ _ _ st h=>wpAny_pyIter_tupleiter st h
theorem Ay {P:bb}{w:cp}{K:PySem.W.Frag}{tg:Expr}(it:Addr)(lo:Int)(n:Nat):Turn Calm P w K tg (Itr lo n) [it] it (λi h=>IsRangeIter h it (lo+(i:Nat)*1) ((n:Int)-(i:Nat)) 1) where
 mem:=by simp
 obj:=λi h st b hb=>by
  have e:b=it:=by simpa using hb
  subst e;exact⟨_,st,λv z=>by
   have z':Data.fields _=Data.cell v:=z;cases z'⟩
 keep:=λi h h' st k=>k it (by simp) _ st
 item:=by
  intro X hP hw hK hc i π s σ H E I hf st hg;subst hP hw hK;refine rR (hf it<|by simp) λf0 f1 f2 f3 f4 f5=>?_;have W:=Walks.range (prog:=X.prog) (w:=X.w) (I.ok.hd hc) it lo 1 n;refine W.item i s _ _ hg st λv h' tk hv st' kk=>?_;obtain⟨t,rfl⟩:=hv;have I1:Inv X π σ H { s with heap:=h',toks:=tk }:=I.turned (λb o hb e=>kk b o (by simpa using hb) e) f0 f1 f3 f4 f5;refine⟨_,rfl,Fz (s:={ s with heap:=h',toks:=tk }) (n:="range_iterator") st' rfl rfl (by decide) ⟨.int<|lo+i,H,I1,⟨t,?_⟩,⟨rfl,rfl⟩,st',λb hb=>(hf b hb).1⟩⟩;rw[Int.mul_one]
 done:=by
  intro X hP hw hK hc i π s σ H E I hf st hg;subst hP hw hK;refine rR (hf it<|by simp) λf0 f1 f2 f3 f4 f5=>?_;exact wpAny_pyNext_range_end (I.ok.hd hc) st (by have:n<=i:=hg;lia) λh' eb=>⟨rfl,I.turned (t':=s.toks) (λb o hb e=>eb b o hb e) f0 f1 f3 f4 f5⟩
 self:=λ_ _ _ _ _ st h=>wpAny_pyIter_rangeiter st h
section
variable {X:Cx}{tg:Expr}
def Uj (K:aw)(tl:TE):TI:=λσ H R=>tl σ H λx H1=>∃a,x=.ref a/\(∃xs,SqL K H1 a xs)/\R (Itl K a) H1
def V3 (K:aw)(tl:TE):TI:=λσ H R=>tl σ H λx H1=>∃a,x=.ref a/\(∃xs,SqT K H1 a xs)/\R (Itt K a) H1
theorem Gk {l:Expr}{tl:TE}(hl:PE X l tl):PI Calm X tg l (Uj X.K tl):=by
 intro π s σ H R I h;refine thn (hl π s σ H _ I h) λv s1 hE=>xq2 hE λx H1 I1 r1 q1=>?_;obtain⟨a,e,⟨xs,hq⟩,q⟩:=q1;subst e;cases r1;obtain⟨χ,rv,p,hz⟩:=I1.list hq;refine mS p.isList ?_;refine⟨s1.heap.objs.size,[s1.heap.objs.size],_,_,H1,rfl,I1.kept (t':=s1.toks) λb o e=>ag _ e,G7 a _,⟨_,bq _ rfl,rfl,rfl⟩,λb hb=>?_,q⟩;have e:b=s1.heap.objs.size:=by simpa using hb
 subst e;exact I1.NQ (aI _)<|I1.hok.fresh<|aI _
theorem RL {l:Expr}{tl:TE}(hl:PE X l tl):PI Calm X tg l (V3 X.K tl):=by
 intro π s σ H R I h;refine thn (hl π s σ H _ I h) λv s1 hE=>xq2 hE λx H1 I1 r1 q1=>?_;obtain⟨a,e,⟨xs,hq⟩,q⟩:=q1;subst e;cases r1;obtain⟨χ,rv,p,hz⟩:=I1.tuple hq;refine wpAny_pyIter_tuple (show s1.heap.IsTuple a χ.toArray from p) ?_;refine⟨s1.heap.objs.size,[s1.heap.objs.size],_,_,H1,rfl,I1.kept (t':=s1.toks) λb o e=>ag _ e,Cz a _,⟨_,bq _ rfl,rfl,rfl⟩,λb hb=>?_,q⟩;have e:b=s1.heap.objs.size:=by simpa using hb
 subst e;exact I1.NQ (aI _)<|I1.hok.fresh<|aI _
theorem Lp {π:Zo}{σ:St}{H:Hp}{s:aS}{R:It->Hp->Prop}{E:Zv}{lo hi:Int}{t u v:Tok}{tk:Nat}(I:Inv X π σ H s)(h1:-(2^62)<=lo)(h2:lo<2^62)(h3:-(2^62)<=hi)(h4:hi<2^62)
  (q:R (Itr lo (hi-lo).toNat) H):cb (cw X.prog X.w) X.A (pyIter<|.ref s.heap.objs.size) (PIE Calm X π σ tg R) E { s with heap:=s.heap.push { cls:=.type "range",data:=.fields #[.int lo t,.int hi u,.int 1 v] },toks:=tk }:=by
 refine wpAny_pyIter_range (IsRange.new ..) (small_one h1 h2 h3 h4) ?_;have I1:Inv X π σ H { s with heap:=s.heap.push { cls:=.type "range",data:=.fields #[.int lo t,.int hi u,.int 1 v] },toks:=tk }:=I.kept λb o e=>ag _ e;refine⟨(s.heap.push { cls:=.type "range",data:=.fields #[.int lo t,.int hi u,.int 1 v] }).objs.size,[(s.heap.push { cls:=.type "range",data:=.fields #[.int lo t,.int hi u,.int 1 v] }).objs.size],_,_,H,rfl,
  I1.kept (t':=tk) λb o e=>ag _ e,Ay _ lo (hi-lo).toNat,?_,λb hb=>?_,q⟩
 ·have e1:lo+((0:Nat):Int)*1=lo:=by simp
  have e2:(((hi-lo).toNat:Nat):Int)-((0:Nat):Int)=Builtin.Range.rangeSize lo hi 1:=by rw[rangeSize_one];split<;>lia
  show IsRangeIter _ _ (lo+((0:Nat):Int)*1) ((((hi-lo).toNat:Nat):Int)-((0:Nat):Int)) 1;rw[e1,e2];exact bq _ rfl
 ·have e:b=(s.heap.push { cls:=.type "range",data:=.fields #[.int lo t,.int hi u,.int 1 v] }).objs.size:=by simpa using hb
  subst e;exact I1.NQ (aI _)<|I1.hok.fresh<|aI _
def U9 (ta:TA):TI:=λσ H R=>ta σ H λvs H1=>∃j:Int,vs=[.int j]/\-(2^62)<=j/\j<2^62/\R (Itr 0 j.toNat) H1
theorem Hc (hg:Gl X "range")(hm:X.mg "range" = none)(ha:PA X [a] ta)(hs:ax [a] X.env=[(false,eval a X.env)]:=by rfl):PI Calm X tg (.Call (.Name "range" p) [a] [] pos) (U9 ta):=by
 intro π s σ H R I h;refine Call_<|rM I hg hm boot_range<|fw (thn (ha pos π s σ H _ I h) λus s1 hE=>xq2 hE λvs H1 I1 r1 q1=>?_) hs rfl;obtain⟨j,e,q1,q2,q⟩:=q1;subst e;cases r1 with
 |cons r rr=>
  cases rr;obtain⟨t,rfl⟩:=r;exact call_range_1<|Lp I1 (by lia) (by lia) q1 q2<|by simpa using q
def V2 (wi:TI)(g:TG)(tb:TS):TS:=λD σ H=>wi σ H λJ H1=>∃W:Nat->Nat->St->Hp->Prop,(∃m,W 0 m σ H1)/\∀i m σ H,W i m σ H->
 (J.stop i H/\D.nx σ H)\/(J.go i H/\∃N:St->Hp->Prop,(∀σ' H',N σ' H'->∃m',m'<m/\W (i+1) m' σ' H')/\∀x H',J.yld i H x H'->g x σ H' λσ2 H2=>tb { D with nx:=N,ct:=N,bk:=D.nx } σ2 H2)
noncomputable def o9 (fp:List Addr)(h:Heap):Zo:=fp.filterMap λb=>(h.get? b).map λo=>(b,o)
theorem lr (hb:b∈fp)(e:h.get? b=some o):(b,o)∈o9 fp h:=kg.mpr ⟨b,hb,by rw[e];rfl⟩
theorem HB (hp:p∈o9 fp h):p.1∈fp/\h.get? p.1=some p.2:=by
 obtain⟨b,hb,e⟩:=kg.mp hp;cases q:h.get? b with
 |none=>rw[q] at e;cases e
 |some o=>
  rw[q] at e;have e':(b,o)=p:=cx e;subst e';exact⟨hb,q⟩
theorem Inv.pinned (I:Inv X π σ H s)(hf:∀b∈fp,sV X π H b)(ho:∀b∈fp,∃o,s.heap.get? b=some o/\∀v,o.data≠.cell v):Inv X (π++o9 fp s.heap) σ H s:=
 I.Dl λp hp=>(eB.mp hp).elim (λz=>I.pin p<|cK _ z) λz=>by
  obtain⟨hb,e⟩:=HB z;obtain⟨f0,f1,f2,_⟩:=hf p.1 hb;obtain⟨o,e',d⟩:=ho p.1 hb;rw[e] at e';cases e';exact⟨e,f0,f1,f2,d⟩
theorem Inv.pR (I:Inv X (π++pl) σ H s):Inv X π σ H s:=I.Dl λp hp=>I.pin p<|cK _<|qo _ hp
theorem Sy (hp:si (cw X.prog X.w) X.A X.env X.xe){Cm:Cx->Prop}(hc:Cm X)(hi:PI Cm X tg iter wi)(hg:PG X tg g)(hb:PSs X body tb)
  (hs:∀x,eT iter X.env x=pure x:=by intro _;rfl):PS X (.For tg iter body [] pos) (V2 wi g tb):=by
 intro π s σ H D I h;refine wpAny_For (thn (hi π s σ H _ I h) λv s1 h1=>thn h1 λitv s2 h2=>?_) hs;obtain⟨it,fp,tn,J,H2,e,I2,T,st2,f2,W,⟨m0,w0⟩,turn⟩:=h2;subst e;have stat:∀{H':Hp},(∀b∈fp,H' b=none)->∀b∈fp,sV X π H' b:=λhn b hb=>⟨hn b hb,(f2 b hb).2⟩;refine codeAny_forLoop_any (λn s'=>∃i σ' H',Inv X π σ' H' s'/\tn i s'.heap/\(∀b∈fp,H' b=none)/\W i n σ' H') ?_ m0 ⟨0,σ,H2,I2,st2,λb hb=>(f2 b hb).1,w0⟩;rintro n s3 ⟨i,σ3,H3,I3,st3,fr3,w3⟩;rcases turn i n σ3 H3 w3 with⟨stop,qn⟩|⟨go,N,hN,step⟩
 ·refine gN hp<|thn (T.done X rfl rfl rfl hc i π s3 σ3 H3 X.xe I3 (stat fr3) st3 stop) λr s4 ⟨hr,I4⟩=>?_;subst hr;exact l6 ⟨σ3,H3,I4,qn⟩
 ·refine gN hp<|thn (T.item X rfl rfl rfl hc i π s3 σ3 H3 X.xe I3 (stat fr3) st3 go) λr s4 ⟨u,hr,h4⟩=>?_;subst hr;refine gN hp<|thn h4 λ_ s5 hE=>?_;refine wV hE λx H5 I5 r5 y5 st5 fr5=>?_;have I5':=I5.pinned (stat fr5)<|T.obj _ _ st5;refine gN hp<|thn (hg _ s5 σ3 H5 x u _ I5' r5<|step x H5 y5) λ_ s6 hE=>?_;obtain⟨σ6,H6,I6,q6⟩:=hE;refine gN hp<|thn (hb _ s6 σ6 H6 _ I6 q6) λf s7 q7=>?_;have again:∀{σ7:St} {H7:Hp},Inv X (π++o9 fp s5.heap) σ7 H7 s7->N σ7 H7->∃m,m<n/\∃i σ' H',Inv X π σ' H' s7/\tn i s7.heap/\(∀b∈fp,H' b=none)/\W i m σ' H':=λ{σ7 H7} I7 n7=>by
   obtain⟨m',hm,w7⟩:=hN σ7 H7 n7;refine⟨m',hm,i+1,σ7,H7,I7.pR,T.keep _ _ _ st5 λb hb o e=>(I7.pin (b,o)<|cK _<|cK _<|lr hb e).1,λb hb=>?_,w7⟩;obtain⟨o,e,d⟩:=T.obj _ _ st5 b hb;exact(I7.pin (b,o)<|cK _<|cK _<|lr hb e).2.1
  cases f with
  |next=>obtain⟨σ7,H7,I7,n7⟩:=q7;exact again I7 n7
  |cont=>obtain⟨σ7,H7,I7,n7⟩:=q7;exact again I7 n7
  |brk=>obtain⟨σ7,H7,I7,q7⟩:=q7;exact⟨σ7,H7,I7.pR,q7⟩
  |ret v=>obtain⟨x7,σ7,H7,I7,r7,q7⟩:=q7;exact⟨x7,σ7,H7,I7.pR,r7,q7⟩
end
abbrev R2:=V->V->Hp->VK->Prop
def OpR (X:Cx)(f:ay->ay->Sem ay)(r:R2):Prop:=
 ∀(π:Zo) (s:aS) (σ:St) (H:Hp) (x y:V) (v u:ay) (Q:VK),Inv X π σ H s->RelV x v->RelV y u->r x y H Q->
  cb (cw X.prog X.w) X.A (f v u) (EP X π σ Q) X.xe s
def UnR (X:Cx)(f:ay->Sem ay)(r:V->Hp->VK->Prop):Prop:=
 ∀(π:Zo) (s:aS) (σ:St) (H:Hp) (x:V) (v:ay) (Q:VK),Inv X π σ H s->RelV x v->r x H Q->
  cb (cw X.prog X.w) X.A (f v) (EP X π σ Q) X.xe s
def gm (X:Cx)(f:ay)(r:List V->Hp->VK->Prop):Prop:=
 ∀(π:Zo) (s:aS) (σ:St) (H:Hp) (xs:List V) (us:List ay) (Q:VK),Inv X π σ H s->Vals xs us->r xs H Q->
  cb (cw X.prog X.w) X.A (call f us) (EP X π σ Q) X.xe s
def tOp (r:R2)(ta tb:TE):TE:=λσ H Q=>ta σ H λx H1=>tb σ H1 λy H2=>r x y H2 Q
def tUn (r:V->Hp->VK->Prop)(ta:TE):TE:=λσ H Q=>ta σ H λx H1=>r x H1 Q
def rI (C:Int->Int->Prop)(g:Int->Int->V):R2:=λx y H Q=>∃i j,x=.int i/\y=.int j/\C i j/\Q (g i j) H
def rI0 (g:Int->Int->V):R2:=λx y H Q=>∃i j,x=.int i/\y=.int j/\Q (g i j) H
def rU (g:Int->V):V->Hp->VK->Prop:=λx H Q=>∃i,x=.int i/\Q (g i) H
section
variable {X:Cx}{a b c:Expr}{ta tb tc:TE}{pos:Pos}
theorem Ng (ha:PE X a ta)(hb:PE X b tb){π:Zo}{s:aS}{σ:St}{H:Hp}{R:V->V->Hp->Prop}(I:Inv X π σ H s)
  (h:ta σ H λx H1=>tb σ H1 λy H2=>R x y H2) {Q:Zv} {f:ay->ay->Sem ay}
  (hf:∀v u s2 x y H2,Inv X π σ H2 s2->RelV x v->RelV y u->R x y H2->cb (cw X.prog X.w) X.A (f v u) Q X.xe s2):
  cb (cw X.prog X.w) X.A (eval a X.env) (λv s₁=>cb (cw X.prog X.w) X.A (eval b X.env) (λu s₂=>cb (cw X.prog X.w) X.A (f v u) Q X.xe s₂) X.xe s₁) X.xe s:=by
 refine thn (ha π s σ H _ I h) λv s1 hE=>xq2 hE λx H1 I1 r1 q1=>?_;refine thn (hb π s1 σ H1 _ I1 q1) λu s2 hE=>xq2 hE λy H2 I2 r2 q2=>?_;exact hf v u s2 x y H2 I2 r1 r2 q2
theorem QB (ho:OpR X (fm op) r)(ha:PE X a ta)(hb:PE X b tb):PE X (.BinOp a op b pos) (tOp r ta tb):=by
 intro π s σ H Q I h;exact wpAny_BinOp<|Ng ha hb I h λv u s2 x y H2 I2 rx ry q=>ho π s2 σ H2 x y v u Q I2 rx ry q
theorem QH (ho:UnR X (unaryOp op) r)(ha:PE X a ta):PE X (.UnaryOp op a pos) (tUn r ta):=by
 intro π s σ H Q I h;exact UnaryOp_<|thn (ha π s σ H _ I h) λv s1 hE=>xq2 hE λx H1 I1 r1 q1=>ho π s1 σ H1 x v Q I1 r1 q1
theorem opI {f:ay->ay->Sem ay}{C:Int->Int->Prop}{g:Int->Int->Int}
  (rule:∀(i j:Int) (t u:Tok) (s:aS) (Q:Zv) (E:Zv),C i j->Q (.int (g i j) s.toks) { s with toks:=s.toks+1 }->cb (cw X.prog X.w) X.A (f (.int i t)<|.int j u) Q E s):
  OpR X f (rI C λi j=>.int<|g i j):=by
 intro π s σ H x y v u Q I rx ry h;obtain⟨i,j,rfl,rfl,hc,q⟩:=h;obtain⟨t,rfl⟩:=rx;obtain⟨t',rfl⟩:=ry;exact rule i j t t' s _ _ hc ⟨.int<|g i j,H,I.tok _,⟨_,rfl⟩,q⟩
theorem Vb {f:ay->ay->Sem ay}{g:Int->Int->Int}
  (rule:∀(i j:Int) (t u:Tok) (s:aS) (Q:Zv) (E:Zv),Q (.int (g i j) s.toks) { s with toks:=s.toks+1 }->cb (cw X.prog X.w) X.A (f (.int i t)<|.int j u) Q E s):
  OpR X f (rI0 λi j=>.int<|g i j):=by
 intro π s σ H x y v u Q I rx ry h;obtain⟨i,j,rfl,rfl,q⟩:=h;obtain⟨t,rfl⟩:=rx;obtain⟨t',rfl⟩:=ry;exact rule i j t t' s _ _ ⟨.int<|g i j,H,I.tok _,⟨_,rfl⟩,q⟩
theorem Ny {f:ay->ay->Sem ay}{g:Int->Int->Bool}
  (rule:∀(i j:Int) (t u:Tok) (s:aS) (Q:Zv) (E:Zv),Q (.bool<|g i j) s->cb (cw X.prog X.w) X.A (f (.int i t)<|.int j u) Q E s):
  OpR X f (rI0 λi j=>.bl<|g i j):=by
 intro π s σ H x y v u Q I rx ry h;obtain⟨i,j,rfl,rfl,q⟩:=h;obtain⟨t,rfl⟩:=rx;obtain⟨t',rfl⟩:=ry;exact rule i j t t' s _ _ ⟨.bl<|g i j,H,I,rfl,q⟩
def Wc (i j:Int):Prop:=0<=j/\j<=1000000/\i.natAbs<2^64
theorem Tz:OpR X (fm .Add) (rI0 λi j=>.int<|i+j):=Vb λ_ _ _ _ _ _ _ q=>add_int q
theorem Ry:OpR X (fm .Sub) (rI0 λi j=>.int<|i-j):=Vb λ_ _ _ _ _ _ _ q=>sub_int q
theorem Nm:OpR X (fm .Mod) (rI (λ_ j=>j≠0) λi j=>.int<|i.fmod j):=opI λ_ _ _ _ _ _ _ hc q=>mod_int' hc q
theorem RN:OpR X (fm .Pow) (rI Wc λi j=>.int<|i^j.toNat):=opI λ_ _ _ _ _ _ _ hc q=>pow_int_small hc.1 hc.2.1 hc.2.2 q
theorem unI {f:ay->Sem ay}{g:Int->Int}
  (rule:∀(i:Int) (t:Tok) (s:aS) (Q:Zv) (E:Zv),Q (.int (g i) s.toks) { s with toks:=s.toks+1 }->cb (cw X.prog X.w) X.A (f<|.int i t) Q E s):
  UnR X f (rU λi=>.int<|g i):=by
 intro π s σ H x v Q I rx h;obtain⟨i,rfl,q⟩:=h;obtain⟨t,rfl⟩:=rx;exact rule i t s _ _ ⟨.int<|g i,H,I.tok _,⟨_,rfl⟩,q⟩
theorem Ro:UnR X (unaryOp .USub) (rU λi=>.int (-i)):=unI λ_ _ _ _ _ q=>neg_int q
end
noncomputable def Uc:V->V->Bool
 | .non,.non=>true|.non,.int _=>true|.int _,.non=>true|.non,.bl _=>true|.bl _,.non=>true|.non,.str _=>true|.str _,.non=>true
 | .int _,.int _=>true|.bl _,.bl _=>true|.str _,.str _=>true|.byt _,.byt _=>true
 | .int _,.str _=>true|.str _,.int _=>true|.bl _,.str _=>true|.str _,.bl _=>true
 |_,_=>false
def rEq:R2:=λx y H Q=>Uc x y=true/\Q (.bl<|decide<|x=y) H
def rNe:R2:=λx y H Q=>Uc x y=true/\Q (.bl<|!decide (x=y)) H
theorem Gu:decide (V.int i=V.int j)=(i==j):=by
 rw[l7]
 simp
theorem Jb:decide (V.bl i=V.bl j)=(i==j):=by
 rw[l7]
 simp
theorem Eh:decide (V.str i=V.str j)=(i==j):=by
 rw[l7]
 simp
theorem Gw:decide (V.byt i=V.byt j)=(i.toList==j.toList):=by
 rw[l7];cases i;cases j
 simp
section
theorem bV (I:Inv X π σ H s)(q:Q (.bl k) H)(e:k=k'):EP X π σ Q (.bool k') s:=by
 subst e;exact⟨.bl k,H,I,rfl,q⟩
theorem Fj:OpR X (cy .Eq) rEq:=by
 intro π s σ H x y v u Q I rx ry h;obtain⟨hs,q⟩:=h;cases x with
 |non=>
  cases rx;cases y with
  |non=>cases ry;exact PySem.EqNone.eq_none_none<|bV I q<|by simp
  |bl j=>cases ry;exact PySem.EqNone.eq_none_bool<|bV I q<|by simp
  |int j=>obtain⟨t',rfl⟩:=ry;exact PySem.EqNone.eq_none_int<|bV I q<|by simp
  |str j=>obtain⟨t',rfl⟩:=ry;exact PySem.EqNone.eq_none_str<|bV I q<|by simp
  |_=>exact absurd (show false=true from hs) av
 |bl i=>
  cases rx;cases y with
  |non=>cases ry;exact PySem.EqNone.eq_bool_none<|bV I q<|by simp
  |bl j=>cases ry;exact eq_bool<|bV I q Jb
  |str j=>obtain⟨t',rfl⟩:=ry;exact PySem.EqMixed.eq_bool_str<|bV I q<|by simp
  |_=>exact absurd (show false=true from hs) av
 |int i=>
  obtain⟨t,rfl⟩:=rx;cases y with
  |non=>cases ry;exact PySem.EqNone.eq_int_none<|bV I q<|by simp
  |int j=>obtain⟨t',rfl⟩:=ry;exact eq_int<|bV I q Gu
  |str j=>obtain⟨t',rfl⟩:=ry;exact PySem.EqMixed.eq_int_str<|bV I q<|by simp
  |_=>exact absurd (show false=true from hs) av
 |str i=>
  obtain⟨t,rfl⟩:=rx;cases y with
  |non=>cases ry;exact PySem.EqNone.eq_str_none<|bV I q<|by simp
  |bl j=>cases ry;exact PySem.EqMixed.eq_str_bool<|bV I q<|by simp
  |int j=>obtain⟨t',rfl⟩:=ry;exact PySem.EqMixed.eq_str_int<|bV I q<|by simp
  |str j=>obtain⟨t',rfl⟩:=ry;exact eq_str<|bV I q Eh
  |_=>exact absurd (show false=true from hs) av
 |byt i=>
  obtain⟨t,rfl⟩:=rx;cases y with
  |byt j=>obtain⟨t',rfl⟩:=ry;exact W.eq_bytes<|bV I q Gw
  |_=>exact absurd (show false=true from hs) av
 |_=>cases y<;>exact absurd (show false=true from hs) av
theorem Fg:OpR X (cy .NotEq) rNe:=by
 intro π s σ H x y v u Q I rx ry h;obtain⟨hs,q⟩:=h;cases x with
 |non=>
  cases rx;cases y with
  |non=>cases ry;exact PySem.EqNone.ne_none_none<|bV I q<|by simp
  |bl j=>cases ry;exact PySem.EqNone.ne_none_bool<|bV I q<|by simp
  |int j=>obtain⟨t',rfl⟩:=ry;exact PySem.EqNone.ne_none_int<|bV I q<|by simp
  |str j=>obtain⟨t',rfl⟩:=ry;exact PySem.EqNone.ne_none_str<|bV I q<|by simp
  |_=>exact absurd (show false=true from hs) av
 |bl i=>
  cases rx;cases y with
  |non=>cases ry;exact PySem.EqNone.ne_bool_none<|bV I q<|by simp
  |bl j=>cases ry;exact ne_bool<|bV I q<|congrArg not Jb
  |str j=>obtain⟨t',rfl⟩:=ry;exact PySem.EqMixed.ne_bool_str<|bV I q<|by simp
  |_=>exact absurd (show false=true from hs) av
 |int i=>
  obtain⟨t,rfl⟩:=rx;cases y with
  |non=>cases ry;exact PySem.EqNone.ne_int_none<|bV I q<|by simp
  |int j=>obtain⟨t',rfl⟩:=ry;exact ne_int<|bV I q<|congrArg not Gu
  |str j=>obtain⟨t',rfl⟩:=ry;exact PySem.EqMixed.ne_int_str<|bV I q<|by simp
  |_=>exact absurd (show false=true from hs) av
 |str i=>
  obtain⟨t,rfl⟩:=rx;cases y with
  |non=>cases ry;exact PySem.EqNone.ne_str_none<|bV I q<|by simp
  |bl j=>cases ry;exact PySem.EqMixed.ne_str_bool<|bV I q<|by simp
  |int j=>obtain⟨t',rfl⟩:=ry;exact PySem.EqMixed.ne_str_int<|bV I q<|by simp
  |str j=>obtain⟨t',rfl⟩:=ry;exact ne_str<|bV I q<|congrArg not Eh
  |_=>exact absurd (show false=true from hs) av
 |byt i=>
  obtain⟨t,rfl⟩:=rx;cases y with
  |byt j=>obtain⟨t',rfl⟩:=ry;exact W.ne_bytes<|bV I q<|congrArg not Gw
  |_=>exact absurd (show false=true from hs) av
 |_=>cases y<;>exact absurd (show false=true from hs) av
theorem U8:OpR X (cy .Lt) (rI0 λi j=>.bl<|decide<|i<j):=Ny λ_ _ _ _ _ _ _ q=>lt_int q
theorem Um:OpR X (cy .LtE) (rI0 λi j=>.bl<|decide<|i<=j):=Ny λ_ _ _ _ _ _ _ q=>le_int q
theorem Uh:OpR X (cy .Gt) (rI0 λi j=>.bl<|decide<|j<i):=Ny λ_ _ _ _ _ _ _ q=>gt_int q
theorem Ue:OpR X (cy .GtE) (rI0 λi j=>.bl<|decide<|j<=i):=Ny λ_ _ _ _ _ _ _ q=>ge_int q
theorem GP:OpR X (cy .In) (λx y H Q=>∃i j,x=.str i/\y=.str j/\Q (.bl<|!(cS j i 0 j.length 1).isEmpty) H):=by
 intro π s σ H x y v u Q I rx ry h;obtain⟨i,j,rfl,rfl,q⟩:=h;obtain⟨t,rfl⟩:=rx;obtain⟨t',rfl⟩:=ry;exact in_str<|bV I q rfl
theorem xQ:OpR X (cy .NotIn) (λx y H Q=>∃i j,x=.str i/\y=.str j/\Q (.bl<|!(!(cS j i 0 j.length 1).isEmpty)) H):=by
 intro π s σ H x y v u Q I rx ry h;obtain⟨i,j,rfl,rfl,q⟩:=h;obtain⟨t,rfl⟩:=rx;obtain⟨t',rfl⟩:=ry;exact notIn_str<|bV I q rfl
theorem bA (b:Expr){op:CmpOp}(h:op≠.In:=by decide)(h2:op≠.NotIn:=by decide):f6 op b=false:=by
 have e1:(op==CmpOp.In)=false:=by cases op<;>first|rfl|exact absurd rfl h
 have e2:(op==CmpOp.NotIn)=false:=by cases op<;>first|rfl|exact absurd rfl h2
 cases b<;>simp[f6,e1,e2]
theorem Qa (ho:OpR X (cy op) r)(ha:PE X a ta)(hb:PE X b tb)(hm:f6 op b=false):PE X (.Compare a [op] [b] pos) (tOp r ta tb):=by
 intro π s σ H Q I h;exact wpAny_Compare1 (Ng ha hb I h λv u s2 x y H2 I2 rx ry q=>ho π s2 σ H2 x y v u Q I2 rx ry q) hm
def T5 (t:TE):TT:=λσ H Q=>t σ H λx H'=>∃k,x=.bl k/\Q k H'
theorem tu (ho:OpR X (cy op) r)(ha:PE X a ta)(hb:PE X b tb)(hm:f6 op b=false):PT X (.Compare a [op] [b] pos) (T5<|tOp r ta tb):=by
 intro π s σ H Q I h;refine wpAny_isTrue_Compare1 (thn (ha π s σ H _ I h) λv s1 hE=>xq2 hE λx H1 I1 r1 q1=>thn (hb π s1 σ H1 _ I1 q1) λu s2 hE=>xq2 hE λy H2 I2 r2 q2=>
  thn (ho π s2 σ H2 x y v u _ I2 r1 r2 q2) λc s3 ⟨z,H3,I3,r3,k,e,q3⟩=>?_) hm
 subst e;cases r3;exact fv ⟨H3,I3,q3⟩
def Iz (r r':R2)(ta tb tc:TE):TE:=λσ H Q=>ta σ H λx H1=>tb σ H1 λy H2=>r x y H2 λz H3=>∃k,z=.bl k/\
 (if k=true then tc σ H3 λw' H4=>r' y w' H4 Q else Q (.bl false) H3)
theorem J2 (ho:OpR X (cy op) r)(ho':OpR X (cy op') r')(ha:PE X a ta)(hb:PE X b tb)(hc:PE X c tc)
  (hm:lastMarks [op,op'] [b,c]=false:=by with_unfolding_all rfl):PE X (.Compare a [op,op'] [b,c] pos) (Iz r r' ta tb tc):=by
 intro π s σ H Q I h;refine Compare_chain (thn (ha π s σ H _ I h) λv s1 hE=>xq2 hE λx H1 I1 r1 q1=>chain_link (thn (hb π s1 σ H1 _ I1 q1) λu s2 hE=>xq2 hE λy H2 I2 r2 q2=>
  thn (ho π s2 σ H2 x y v u _ I2 r1 r2 q2) λd s3 ⟨z,H3,I3,r3,k,e,q3⟩=>?_)) hm
 subst e;cases r3;refine fv ?_;cases k with
 |false=>exact ite_ff ⟨.bl false,H3,I3,rfl,q3⟩
 |true=>exact ite_tt (chain_last (thn (hc π s3 σ H3 _ I3 q3) λw' s4 hE=>by obtain⟨z',H4,I4,r4,q4⟩:=hE;exact ho' π s4 σ H4 y z' u w' Q I4 r2 r4 q4))
theorem uy:(aT:Nat)<2^63:=by rw[sizeLine_eq];decide
theorem Bw:OpR X (fm .Add) (λx y H Q=>∃i j,x=.str i/\y=.str j/\i.length+j.length<=aT/\Q (.str<|i++j) H):=by
 intro π s σ H x y v u Q I rx ry h;obtain⟨i,j,rfl,rfl,hz,q⟩:=h;obtain⟨t,rfl⟩:=rx;obtain⟨t',rfl⟩:=ry;exact add_str (λt' tk=>⟨.str<|i++j,H,I.tok _,⟨_,rfl⟩,q⟩) hz
def Io (b:Expr):Prop:=∀o i,subscripted b false o i=operate [o,i] (qV o i)
theorem zE (ha:PE X a ta)(hb:PE X b tb)(hs:Io b):
  PE X (.Subscript a b pos) (tOp (λx y H Q=>∃z i c,x=.str z/\y=.int i/\0<=i/\i<2^63/\i<z.length/\z.cps[i.toNat]? = some c/\Q (.str ⟨#[c]⟩) H) ta tb):=by
 intro π s σ H Q I h;refine Subscript_<|Ng ha hb I h λv u s2 x y H2 I2 rx ry q=>?_;obtain⟨z,i,c,rfl,rfl,h0,h63,h1,hc,q⟩:=q;obtain⟨t,rfl⟩:=rx;obtain⟨t',rfl⟩:=ry;have e:seqIndex? i z.length=some i.toNat:=PySem.StrLaws.seqIndex_nonneg h0 h1;exact tail_any (mT s2 z t) slot_str_getitem.lookup (getItem_str (c:=c) (by
  have e1:decide (i < -(2^63:Int))=false:=decide_eq_false (by lia);have e2:decide (i≥2^63)=false:=decide_eq_false (by lia);rw[e1,e2]<;>rfl) (by rw[e];exact hc) ⟨.str ⟨#[c]⟩,H2,I2.tok _,⟨_,rfl⟩,q⟩) (hs _ _)
theorem vals1 (r:Vals [x] us):∃u,us=[u]/\RelV x u:=by
 cases r with
 |cons r1 r2=>cases r2;exact⟨_,rfl,r1⟩
theorem vals2 (r:Vals [x,y] us):∃u w',us=[u,w']/\RelV x u/\RelV y w':=by
 cases r with
 |cons r1 r2=>
  cases r2 with
  |cons r3 r4=>cases r4;exact⟨_,_,rfl,r1,r3⟩
theorem Kz:gm X (.builtin "abs") (λxs H Q=>∃i,xs=[.int i]/\Q (.int<|if i<0 then -i else i) H):=by
 intro π s σ H xs us Q I r h;obtain⟨i,rfl,q⟩:=h;obtain⟨u,rfl,t,rfl⟩:=vals1 r;exact call_abs_int λu tk=>⟨.int<|if i<0 then -i else i,H,I.tok _,⟨_,rfl⟩,q⟩
theorem xV:gm X (.type "str") (λxs H Q=>∃i,xs=[.int i]/\i.natAbs.log2<1920/\Q (.str<|toString i) H):=by
 intro π s σ H xs us Q I r h;obtain⟨i,rfl,hz,q⟩:=h;obtain⟨u,rfl,t,rfl⟩:=vals1 r;exact PySem.P.str_of_int hz ⟨.str _,H,I.tok _,⟨_,rfl⟩,q⟩
end
structure CQ (h:Heap)(x dx C:Addr)(mA:Zs):Prop where
 obj:h.get? x=some (lI C dx)
 ns:h.Ns1 dx mA
 ne:dx≠x
theorem HY {h:Heap}(n:h.Ns1 dx mA):∃od,h.get? dx=some od/\∀name,W.lookIn name od=some (mA name):=by
 refine Vl n λo es ep ho hd hk _ hm=>?_;refine⟨o,ho,λname=>?_⟩;have e:=hm name;unfold nsFind findBy at e;rw[← Array.find?_toList] at e;unfold W.lookIn;rw[hd];dsimp only;split
 ·rename_i y q;rw[q] at e;exact congrArg some e
 ·rename_i q;rw[q] at e;have a:es.toList.any (·.refKey)=false:=by
   rw[List.any_eq_false];intro y hy;obtain⟨z,t,hkey⟩:=hk y<|Array.mem_toList_iff.mp hy;simp[DictEntry.refKey,hkey]
  have a':¬es.toList.any (·.refKey)=true:=by rw[a];exact av
  rw[if_neg a'];exact congrArg some e
theorem CQ.look (I:CQ h x dx C mA):∃od,W.InstAt h x (lI C dx) C (some od)/\∀name,W.lookIn name od=some (mA name):=
 let⟨od,ho,hl⟩:=HY I.ns
 ⟨od,⟨I.obj,rfl,rfl,ho⟩,hl⟩
section
variable {prog:bb}{w:cp}{A:dy}{E:Zv}{s:aS}{K:aw}{x dx C f:Addr}{mA:Zs}{name:Str}{v:ay}
theorem get_map (X:K.In s.heap)(I:CQ s.heap x dx C mA)(hg:nc K C name=true)(hh:nL K C=true)
  (ha:fR K (.ref C) name=some none) (hv:mA name=some v) (hv':W.handedIn v=true) (h:Q v { s with toks:=s.toks+1 }):
  cb (cw prog w) A (getAttr (.ref x) name expr) Q E s:=by
 obtain⟨od,J,hl⟩:=I.look;exact W.get_value X J (sj hg).1 (W.findObj_own hh ha rfl<|by rw[hl,hv]) hv' h
theorem Jj (X:K.In s.heap)(I:CQ s.heap x dx C mA)(hg:nc K C name=true)
  (hf:fR K (.ref C) name=some (some<|.ref f)) (ht:W.isFn K (.ref f)=true) (hv:mA name=none) (h:Q (.ref f,[.ref x]) s):
  cb (cw prog w) A (getMethod (.ref x) name pl) Q E s:=by
 obtain⟨od,J,hl⟩:=I.look;exact W.method_fn X J (sj hg).1 (sj hg).2 hf (beq_iff_eq.mp ht) (by show(W.lookIn name od).map (·.isSome)=some false;rw[hl,hv];rfl) h
theorem Qd (X:K.In s.heap)(I:CQ s.heap x dx C mA)
  (hs:fR K (.ref C) "__setattr__" = some (some<|.builtin "object.__setattr__")) (hp:rf K C=true) (ht:W.takerIn K C name=some none) (hh:nL K C=true)
  (hw:tj mA ns) (hsz:ns.length<=aT)
  (h:∀h',CQ h' x dx C (λy=>if y=name then some v else mA y)->mB dx s.heap h'->Q () { s with heap:=h',toks:=s.toks+2 }):
  cb (cw prog w) A (setAttr (.ref x) name v) Q E s:=by
 obtain⟨od,J,hl⟩:=I.look;refine W.set_plain X J hs<|W.osa_open (s:={ s with toks:=s.toks+1 }) (r:=none) X J hp ht λb=>?_;obtain⟨cd,hc,hd'⟩:=W.any_some hh;have hx:s.heap.get? x=some ⟨.ref C,some dx,.plain,#[]⟩:=I.obj;refine af<|bg<|af<|af<|wpAny_loadPart hx<|af<|W.Looks.here (s:={ s with toks:=s.toks+1 }) (W.looks_clsIn X hc) ?_;rw[hd'];refine bg (a:=some dx)<|af<|bg<|af ?_;refine wpAny_nsSet1 (s:={ s with toks:=s.toks+1 }) I.ns λh' hn2 hs2=>?_;refine JK (hn2.count<|PySem.Within.cons name v hw) λoD esD epD hoD hdD hcD=>?_;refine af<|wpAny_lookBehind hoD (by rw[hdD];exact pastItsLine_dict<|cn hcD (by rw[bS];lia)) ?_;exact bg<|h _ ⟨(hs2.2 _<|kR I.ne).trans I.obj,hn2,I.ne⟩ hs2
theorem Jh (X:K.In s.heap)(hm:sk K C=true)
  (hi:fR K (.ref C) "__init__" = some (some<|.ref f)) (hf:W.typeIn K (.ref f)=some (.type "function"))
  (h:nN (cw prog w) (A.under<|.builtin "type.__call__" ⟨.ref C::vs,kw⟩) (.call (.ref f) ⟨.ref (s.heap.objs.size+1)::vs,kw⟩) (W.InitBack (s.heap.objs.size+1) R)
   { s with heap:=(s.heap.push ia).push (lI C s.heap.objs.size) }):
  nN (cw prog w) A (.call (.ref C) ⟨vs,kw⟩) R s:=by
 obtain⟨hh,g,d,t,os⟩:=s;exact W.make_core (W.makes_of X hm) (W.looks_findIn X hi) (λself=>W.bind_fn X self hf) (.inl rfl) h
end
def j0 (f:Str)(v:V):List (Str×V)->List (Str×V)
 |[]=>[(f,v)]
 |(g,x)::r=>if g=f then(g,v)::r else(g,x)::j0 f v r
theorem rW (f g:Str)(v:V):∀fs:List (Str×V),(j0 f v fs).lookup g=if g=f then some v else fs.lookup g
 |[]=>by
  show fA g [(f,v)]=_;by_cases h:g=f
  ·have hb:(g==f)=true:=beq_iff_eq.mpr h;simp only[fA,hb,if_pos h]
  ·have hb:(g==f)=false:=beq_eq_false_iff_ne.mpr h;simp only[fA,hb,if_neg h]
 |(k,x)::r=>by
  have ih:=rW f g v r;rw[show j0 f v ((k,x)::r)=(if k=f then(k,v)::r else(k,x)::j0 f v r) from rfl];by_cases hk:k=f
  ·rw[if_pos hk];by_cases h:g=k
   ·have hb:(g==k)=true:=beq_iff_eq.mpr h;simp only[fA,hb,if_pos<|h.trans hk]
   ·have hb:(g==k)=false:=beq_eq_false_iff_ne.mpr h;simp only[fA,hb,if_neg (λe:g=f=>h<|e.trans hk.symm)]
  ·rw[if_neg hk];by_cases h:g=k
   ·have hb:(g==k)=true:=beq_iff_eq.mpr h;simp only[fA,hb,if_neg (λe:g=f=>hk<|h.symm.trans e)]
   ·have hb:(g==k)=false:=beq_eq_false_iff_ne.mpr h;simp only[fA,hb];exact ih
theorem rn (f:Str)(v:V):∀fs:List (Str×V),f∈(j0 f v fs).map (·.1)/\∀g,g∈fs.map (·.1)->g∈(j0 f v fs).map (·.1)
 |[]=>⟨by simp[j0],λg h=>by simp at h⟩
 |(k,x)::r=>by
  obtain⟨i1,i2⟩:=rn f v r;rw[show j0 f v ((k,x)::r)=(if k=f then(k,v)::r else(k,x)::j0 f v r) from rfl];by_cases hk:k=f
  ·rw[if_pos hk];subst hk;exact⟨by simp,λg h=>by simpa using h⟩
  ·rw[if_neg hk];refine⟨?_,λg h=>?_⟩
   ·rw[cE];exact ah _ i1
   ·rw[cE] at h ⊢;rcases bo.mp h with e|e
    ·exact bo.mpr<|.inl e
    ·exact ah _<|i2 g e
theorem rY (f:Str)(v:V):∀fs:List (Str×V),(j0 f v fs).length<=fs.length+1
 |[]=>by simp[j0]
 |(k,x)::r=>by
  have ih:=rY f v r;rw[show j0 f v ((k,x)::r)=(if k=f then(k,v)::r else(k,x)::j0 f v r) from rfl];by_cases hk:k=f
  ·rw[if_pos hk,bS,bS];lia
  ·rw[if_neg hk,bS,bS];lia
theorem vN.some_of (r:vN (some v) o):∃u,o=some u/\RelV v u:=by
 cases o with
 |none=>exact(show False from r).elim
 |some u=>exact⟨u,rfl,r⟩
theorem vN.none_of (r:vN none o):o=none:=by
 cases o with
 |none=>rfl
 |some u=>exact(show False from r).elim
theorem Hl (r:RelV v u):W.handedIn u=true:=by
 cases v with
 |non=>cases(show u=fT from r);rfl
 |bl b=>cases(show u=qf b from r);rfl
 |int i=>obtain⟨t,e⟩:=(show ∃t,u=rL i t from r);cases e;rfl
 |str x=>obtain⟨t,e⟩:=(show ∃t,u=ly x t from r);cases e;rfl
 |byt b=>obtain⟨t,e⟩:=(show ∃t,u=Value.bytes b t from r);cases e;rfl
 |flt b=>obtain⟨t,e⟩:=(show ∃t,u=uu b t from r);cases e;rfl
 |ref a=>cases(show u=c9 a from r);rfl
 |ty n=>cases(show u=sQ n from r);rfl
section
theorem tH (hok:HOk P w H h)(e:H a=some (.ins C dx fs)):∃mA,CQ h a dx C mA/\(∀f,vN (fs.lookup f)<|mA f)/\tj mA (fs.map (·.1))/\fs.length<=1000/\H dx=some (.own a):=by
 obtain⟨d,z,ne,ob,mA,n,r,q⟩:=(show dH P w H h a (.ins C dx fs) from hok a _ e);exact⟨mA,⟨ob,n,ne⟩,r,q,z,d⟩
end
structure Cls (K:aw)(C:Addr):Prop where
 pg:nc K C kG=true
 hd:nL K C=true
 po:rf K C=true
 sa:fR K (.ref C) "__setattr__" = some (some (.builtin "object.__setattr__"))
theorem Cls.get {K:aw}{C:Addr}(c:Cls K C)(f:Str):nc K C f=true:=c.pg
def iW (K:aw)(C:Addr)(f:Str):Prop:=fR K (.ref C) f=some none
theorem iW.taker {K:aw}{C:Addr}{f:Str}(n:iW K C f):W.takerIn K C f=some none:=by
 unfold W.takerIn;rw[show fR K (.ref C) f=some none from n];rfl
structure Meth (K:aw)(C:Addr)(m:Str)(f:Addr):Prop where
 at_:fR K (.ref C) m=some (some (.ref f))
 fn:W.isFn K (.ref f)=true
 kp:kC K (.ref f)=true
section
variable {X:Cx}{π:Zo}{σ:St}{H:Hp}{s:aS}{a C dx:Addr}{fs:List (Str×V)}{f:Str}{v:V}{A:dy}{E:Zv}
theorem Bx (I:Inv X π σ H s)(e:H a=some (.ins C dx fs))(c:Cls X.K C)(n:iW X.K C f)(l:fs.lookup f=some v)
  (h:∀u s',Inv X π σ H s'->RelV v u->Q u s'):cb (cw X.prog X.w) A (getAttr (.ref a) f b) Q E s:=by
 refine wy (tH I.hok e) λmA O r _ _ _=>?_;obtain⟨u,hu,ru⟩:=vN.some_of (v:=v) (o:=mA f) (by rw[← l];exact r f);exact get_map I.kIn O (c.get f) c.hd n hu (Hl ru)<|h u _ (I.tok _) ru
theorem uO (I:Inv X π σ H s)(e:H a=some (.ins C dx fs))(c:Cls X.K C)(k:Meth X.K C m g)(l:fs.lookup m=none)
  (h:Q (.ref g,[.ref a]) s):cb (cw X.prog X.w) A (getMethod (.ref a) m pl) Q E s:=by
 refine wy (tH I.hok e) λmA O r _ _ _=>?_;have hn:mA m=none:=vN.none_of (by rw[← l];exact r m);exact Jj I.kIn O (c.get m) k.at_ k.fn hn h
theorem BX (I:Inv X π σ H s)(e:H a=some (.ins C dx fs))(c:Cls X.K C)(n:iW X.K C f)(hl:fs.length<1000)(ry:RelV y u)
  (h:∀s',Inv X π σ (upd H a<|.ins C dx<|j0 f y fs) s'->Q () s'):cb (cw X.prog X.w) A (setAttr (.ref a) f u) Q E s:=by
 refine wy (tH I.hok e) λmA O r wi _ ho=>?_;have hz:(fs.map (·.1)).length<=aT:=by rw[dQ,sizeLine_eq];lia
 refine Qd I.kIn O c.sa c.po n.taker c.hd wi hz λh' O' sb=>h _ ?_;have hd:∃o,h'.get? dx=some o:=let⟨o,_,_,e',_⟩:=O'.ns;⟨o,e'⟩
 refine I.write (x:=a) (e:=dx) (by rw[e];exact lx) (.inr ho) (λb q hb z=>(sb.2 b hb).trans z) hd ?_;refine⟨by rw[aM O.ne];exact ho,?_,O.ne,O'.obj,_,O'.ns,λg=>?_,λg hg=>?_⟩
 ·have:=rY f y fs;lia
 ·show vN ((j0 f y fs).lookup g) (if g=f then some u else mA g);rw[rW];by_cases q:g=f
  ·rw[if_pos q,if_pos q];exact ry
  ·rw[if_neg q,if_neg q];exact r g
 ·by_cases q:g=f
  ·rw[q];exact(rn f y fs).1
  ·refine(rn f y fs).2 g (wi g λz=>hg ?_);show(if g=f then some u else mA g)=none;rw[if_neg q];exact z
theorem Inv.made (I:Inv X π σ H s):Inv X π σ (upd (upd H s.heap.objs.size<|.own<|s.heap.objs.size+1) (s.heap.objs.size+1)<|.ins C s.heap.objs.size [])
  { s with heap:=(s.heap.push ia).push (lI C s.heap.objs.size) }:=by
 have e1:(s.heap.push ia).get? s.heap.objs.size=some ia:=bq s.heap rfl;have e2:((s.heap.push ia).push<|lI C s.heap.objs.size).get? (s.heap.objs.size+1)=some (lI C s.heap.objs.size):=by
  have:=bq (s.heap.push ia) (o:=lI C s.heap.objs.size) rfl
  rwa [kD] at this
 have e3:(s.heap.push ia).Ns s.heap.objs.size (λ_=>none):=⟨ia,#[],_,e1,rfl,(λe he=>absurd he<|by simp),λ_=>rfl⟩;have I1:=I.laid (a:=s.heap.objs.size) (o:=.own<|s.heap.objs.size+1) (h':=s.heap.push ia) (t':=s.toks) (λb u q=>ag _ q) (aI _) ⟨_,e1⟩;refine I1.laid (a:=s.heap.objs.size+1) (o:=.ins C s.heap.objs.size []) (t':=s.toks) (λb u q=>ag _ q) (Nat.le_of_eq<|kD _ _) ?_;have ne:s.heap.objs.size≠s.heap.objs.size+1:=b0<|i6 _;refine⟨by rw[aM ne,aH],eW _,ne,e2,λ_=>none,(Heap.Ns1.of_empty e3).at λo q=>ag _ q,λ_=>lx,λy hy=>absurd rfl hy⟩
theorem Od (hb:hG e f env (eval e env)=eval e env)
  (h:cb (cw prog w) A (eval e env) (λo s₁=>cb (cw prog w) A (getAttr o f true) Q E s₁) E s):cb (cw prog w) A (eval (.Attribute e f pos) env) Q E s:=
 Attribute_any_ h (by rw[arm_eval_Attribute,hb])
end
def M9 (K:aw)(ta:TE)(f:Str):TE:=λσ H Q=>ta σ H λx H1=>∃a C dx fs v,x=.ref a/\H1 a=some (.ins C dx fs)/\Cls K C/\iW K C f/\fs.lookup f=some v/\Q v H1
def U7 (K:aw)(ta tv:TE)(f:Str):TS:=λD σ H=>tv σ H λy H1=>ta σ H1 λx H2=>∃a C dx fs,x=.ref a/\H2 a=some (.ins C dx fs)/\Cls K C/\iW K C f/\fs.length<1000/\
 D.nx σ (upd H2 a<|.ins C dx<|j0 f y fs)
section
theorem fj (he:PE X e ta)(hb:hG e f X.env (eval e X.env)=eval e X.env):PE X (.Attribute e f pos) (M9 X.K ta f):=by
 intro π s σ H Q I h;refine Od hb<|thn (he π s σ H _ I h) λu s1 hE=>?_;obtain⟨x,H1,I1,rx,a,C,dx,fs,v,ex,ea,c,n,l,q⟩:=hE;subst ex;obtain rfl:u=c9 a:=rx;exact Bx I1 ea c n l λu' s2 I2 ru=>⟨v,H1,I2,ru,q⟩
theorem nj (ha:PE X o ta)(hv:PE X value tv)(hs:iS value (some<|.Attribute o f pos') pos.line X.env=pure false):PS X (.Assign [.Attribute o f pos'] value pos) (U7 X.K ta tv f):=by
 intro π s σ H D I h;refine plainObj_wpAny_Assign_Attribute (thn (hv π s σ H _ I h) λu s1 hE=>xq2 hE λy H1 I1 ry q=>thn (ha π s1 σ H1 _ I1 q) λov s2 ⟨x,H2,I2,rx,a,C,dx,fs,ex,ea,c,n,l,q2⟩=>?_) hs;subst ex;obtain rfl:ov=c9 a:=rx;exact BX I2 ea c n l ry λs3 I3=>⟨σ,_,I3,q2⟩
end
section
inductive rO (K:aw)(H:Hp):V->ay->Prop where
 |non:rO K H .non (.type "NoneType")
 |bl (x:Bool):rO K H (.bl x) (.type "bool")
 |int (i:Int):rO K H (.int i) (.type "int")
 |str (x:Str):rO K H (.str x) (.type "str")
 |flt (x:UInt64):rO K H (.flt x) (.type "float")
 |lst {a:Addr} {xs:List V} (e:H a=some (.lst xs)):rO K H (.ref a) (.type "list")
 |frz {a:Addr} {o:Obj} {xs:List V} (e:H a=some (.frz o (.lst xs))):rO K H (.ref a) (.type "list")
 |tup {a:Addr} {xs:List V} (e:H a=some (.tup xs)):rO K H (.ref a) (.type "tuple")
 |dK {a:Addr} {ι:List (Key×V)} (e:Rd H a (.dK ι)):rO K H (.ref a) (.type "dict")
 |dT {a:Addr} {T:Addr->List V->Prop} {ι:List (List Kt×V)} (e:H a=some (.dT T ι)):rO K H (.ref a) (.type "dict")
 |ins {a C dx:Addr} {fs:List (Str×V)} (e:H a=some (.ins C dx fs)) (cl:Cls K C) (ha:fR K (.ref C) "__class__" = some (some (.builtin "object.__class__")))
   (hn:W.specialIn K (.builtin "object.__class__") "__get__" = some (some (.builtin "getset_descriptor.__get__"))) (htk:W.takesIn K (.builtin "object.__class__")=some true)
   (hm:W.mroIn K C (.type "object")=some true):rO K H (.ref a) (.ref C)
theorem Hx (I:Inv X π σ H s)(rx:RelV x u)(ty:rO X.K H x t)(e:t9 X.K t c=some b)(h:∀tk,Q (.bool b) { s with toks:=tk }):
  cb (cw X.prog X.w) A (call (.builtin "isinstance") [u,c]) Q E s:=by
 cases ty with
 |non=>cases(show u=fT from rx);exact hW W.kitx_none I.kIn lx e (λz=>nomatch z) h
 |bl y=>cases(show u=qf y from rx);exact hW W.kitx_bool I.kIn lx e (λz=>nomatch z) h
 |int i=>obtain⟨t,q⟩:=(show ∃t,u=rL i t from rx);cases q;exact hW W.kitx_int I.kIn lx e (λz=>nomatch z) h
 |str y=>obtain⟨t,q⟩:=(show ∃t,u=ly y t from rx);cases q;exact hW W.kitx_str I.kIn lx e (λz=>nomatch z) h
 |flt y=>obtain⟨t,q⟩:=(show ∃t,u=uu y t from rx);cases q;exact hW W.kitx_float I.kIn lx e (λz=>nomatch z) h
 | @lst a xs ea=>
  cases(show u=c9 a from rx);obtain⟨_,_,n,_,h1⟩:=(show dH X.prog X.w H s.heap a (.lst xs) from I.hok a _ ea);exact hW W.kitx_list I.kIn ⟨_,h1,rfl⟩ e (λz=>nomatch z) h
 | @frz a ob xs ea=>
  cases(show u=c9 a from rx);obtain⟨_,_,_,n,_,h1⟩:=(show dH X.prog X.w H s.heap a (.frz ob<|.lst xs) from I.hok a _ ea);exact hW W.kitx_list I.kIn ⟨_,h1,rfl⟩ e (λz=>nomatch z) h
 | @tup a xs ea=>
  cases(show u=c9 a from rx);obtain⟨_,_,_,p⟩:=(show dH X.prog X.w H s.heap a (.tup xs) from I.hok a _ ea);obtain⟨o,h1,h2,_⟩:=p;exact hW W.kitx_tuple I.kIn ⟨o,h1,h2⟩ e (λz=>nomatch z) h
 | @dK a ι ea=>
  cases(show u=c9 a from rx);obtain⟨_,_,vs,_,p⟩:=(show dH X.prog X.w H s.heap a (.dK ι) from ea.ok I.hok);refine JK p λo es ep h1 h2 _=>?_;exact hW W.kitx_dict I.kIn ⟨o,h1,h2.1⟩ e (λz=>nomatch z) h
 | @dT a T ι ea=>
  cases(show u=c9 a from rx);obtain⟨_,_,xs,_,o,es,ep,h1,h2,_⟩:=(show dH X.prog X.w H s.heap a (.dT T ι) from I.hok a _ ea);exact hW W.kitx_dict I.kIn ⟨o,h1,h2.1⟩ e (λz=>nomatch z) h
 | @ins a C dx fs ea cl ha hn htk hm=>
  cases(show u=c9 a from rx);obtain⟨mA,O,_⟩:=tH I.hok ea;obtain⟨od,J,_⟩:=O.look;exact hW (W.kitx_own (cl.get _) cl.hd ha hn htk hm) I.kIn J e (λz=>nomatch z) h
end
structure fZ (k:Nat)(A:dy):Prop where
 hd:A.handled=none
 dp:A.depth+3*k+5<recursionLimit
 un:A.units+16*k+200<uj
 gd:A.guards=some []
theorem fZ.mono (r:fZ k A)(h:j<=k):fZ j A:=⟨r.hd,by have:=r.dp;lia,by have:=r.un;lia,r.gd⟩
theorem fZ.deeper (r:fZ (k+1) A)(env:Env):fZ k (A.deeper env):=
 ⟨r.hd,by have:=r.dp;show A.depth+1+3*k+5<_;lia,by have:=r.un;show A.units+3+16*k+200<_;lia,r.gd⟩
theorem CK {A:dy}:(A.under<|.builtin "type.__call__" ⟨.ref C::us,kw⟩).depth=A.depth+1:=by
 first|rfl|simp[tq,Code.weight,Code.isCreation,Code.isGuard,Code.isCaller,Code.frames,tw,guardIds]
theorem BW {A:dy}:(A.under<|.builtin "type.__call__" ⟨.ref C::us,kw⟩).units=A.units+1:=by
 first|rfl|simp[tq,Code.cUnits,Code.frames,tw]
theorem fZ.make (r:fZ (k+1) A)(C:Addr)(us:List ay)(kw:List (Str×ay)):fZ k (A.under<|.builtin "type.__call__" ⟨.ref C::us,kw⟩):=
 ⟨r.hd,by have:=r.dp;rw[CK];lia,by have:=r.un;rw[BW];lia,r.gd⟩
theorem fZ.depth (r:fZ k A):A.depth<recursionLimit:=by have:=r.dp;lia
theorem fZ.units (r:fZ k A):A.units+64<uj:=by have:=r.un;lia
def Jz:TA:=λ_ H Q=>Q [] H
def DP (ta:TE)(tr:TA):TA:=λσ H Q=>ta σ H λx H1=>tr σ H1 λxs H2=>Q (x::xs) H2
section
theorem bG:PA X [] Jz:=λ_ _ _ _ H Q I h=>Calls.spliced_nil ⟨[],H,I,.nil,h⟩
theorem aP (ha:PE X e te)(hr:PA X es t)(hs:ax (e::es) X.env=(false,eval e X.env)::ax es X.env:=by rfl):PA X (e::es) (DP te t):=by
 intro pos π s σ H Q I h;rw[hs];show cb _ _ (spliced ((false,eval e X.env)::gX pos (ax es X.env))) _ _ s;refine so<|thn (ha π s σ H _ I h) λu s1 hE=>xq2 hE λx H1 I1 r1 q1=>?_;exact thn (hr pos π s1 σ H1 _ I1 q1) λus s2 hE=>xq2 hE λxs H2 I2 r2 q2=>⟨x::xs,H2,I2,.cons r1 r2,q2⟩
def Wk (t:TA):TE:=λσ H Q=>t σ H λxs H1=>xs.length<=aT/\∀p,H1 p=none->Q (.ref p) (upd H1 p<|.tup xs)
def We (t:TA):TE:=λσ H Q=>t σ H λxs H1=>xs.length<=aT/\∀p,H1 p=none->Q (.ref p) (upd H1 p<|.lst xs)
theorem rD (h:PA X es t):PE X (.Tuple es x1 pos) (Wk t):=by
 intro π s σ H Q I hq;refine wpAny_Tuple_spliced<|thn (h pos π s σ H _ I hq) λus s1 ⟨xs,H1,I1,r,z,q⟩=>⟨by rw[← r.length];exact z,?_⟩;have hf:H1 s1.heap.objs.size=none:=I1.hok.fresh<|aI _;refine⟨.ref s1.heap.objs.size,upd H1 s1.heap.objs.size<|.tup xs,I1.laid (t':=s1.toks) (λb u e=>ag _ e) (aI _) ?_,rfl,q _ hf⟩;exact⟨z,us,r,⟨_,bq _ rfl,rfl,_,rfl,rfl⟩⟩
theorem BZ (h:PA X es t):PE X (.List es pos) (We t):=by
 intro π s σ H Q I hq;refine wpAny_List_spliced<|thn (h pos π s σ H _ I hq) λus s1 ⟨xs,H1,I1,r,z,q⟩=>⟨by rw[← r.length];exact z,?_⟩;have hf:H1 s1.heap.objs.size=none:=I1.hok.fresh<|aI _;refine⟨.ref s1.heap.objs.size,upd H1 s1.heap.objs.size<|.lst xs,I1.laid (t':=s1.toks) (λb u e=>ag _ e) (aI _) ?_,rfl,q _ hf⟩;exact⟨z,us,0,r,bq _ rfl⟩
end
abbrev Sp:=List V->Hp->VK->XK->Prop
abbrev CXT:=List Env->Hp->aS->XK->Zv
structure Bp (P:bb)(w:cp)(K:aw)(mg:Zs)(base:Heap)(A:dy)(outer:List Env)(s:aS)(H:Hp):Prop where
 frames:A.frames=some outer
 mod:Mod K mg base
 bs:∀b o,base.get? b=some o->s.heap.get? b=some o/\H b=none
 bsz:base.objs.size<=s.heap.objs.size
 sO:s.heap.FunFrames base outer
 frf:∀b∈frs outer,H b=none
 hok:HOk P w H s.heap
 bare:nK s.gens
def CE (outer:List Env)(P:bb)(w:cp)(H:Hp)(s:aS)(Q:VK)(u:ay)(s':aS):Prop:=
 ∃v H',s'.os=s.os/\nK s'.gens/\Un (frs outer) [] H H' s.heap s'.heap/\HOk P w H' s'.heap/\RelV v u/\Q v H'
def CR (CX:CXT)(outer:List Env)(P:bb)(w:cp)(H:Hp)(s:aS)(Q:VK)(E:XK)(r:Result)(s':aS):Prop:=
 match r with
 | .ok (.ret u)=>CE outer P w H s Q u s'
 | .ok _=>False
 | .error e=>CX outer H s E e s'
structure b8 (P:bb)(w:cp)(K:aw)(mg:Zs)(base:Heap)(CX:CXT)(k:Nat)(f:Addr)(fd:de)(ps:List Str)(sp:Sp):Prop where
 len:∀vs H Q E,sp vs H Q E->vs.length=ps.length
 run:∀(A:dy) (outer:List Env) (s:aS) (H:Hp) (args:Args) (us:List ay) (vs:List V) (Q:VK) (E:XK),fZ k A->Bp P w K mg base A outer s H->uS s fd args (ps.zip us)->Vals vs us->sp vs H Q E->
  nN (cw P w) A (.call (.ref f) args) (CR CX outer P w H s Q E) s
theorem b8.mono {P:bb}{w:cp}{K:aw}{mg:Zs}{base:Heap}{CX:CXT}{j k:Nat}{f:Addr}{fd:de}{ps:List Str}{sp:Sp}(F:b8 P w K mg base CX j f fd ps sp)(h:j<=k):
  b8 P w K mg base CX k f fd ps sp:=⟨F.len,λA outer s H args us vs Q E hr=>F.run A outer s H args us vs Q E<|hr.mono h⟩
theorem b8.imp {P:bb}{w:cp}{K:aw}{mg:Zs}{base:Heap}{CX:CXT}{k:Nat}{f:Addr}{fd:de}{ps:List Str}{sp sp':Sp}(F:b8 P w K mg base CX k f fd ps sp)
  (h:∀vs H Q E,sp' vs H Q E->sp vs H Q E):b8 P w K mg base CX k f fd ps sp':=
 ⟨λvs H Q E q=>F.len vs H Q E<|h _ _ _ _ q,λA outer s H args us vs Q E hr he hb hv hs=>F.run A outer s H args us vs Q E hr he hb hv<|h _ _ _ _ hs⟩
theorem Bp.make {P:bb}{w:cp}{K:aw}{mg:Zs}{base:Heap}{A:dy}{outer:List Env}{s:aS}{H:Hp}(e:Bp P w K mg base A outer s H)(C:Addr)(us:List ay)(kw:List (Str×ay)):
  Bp P w K mg base (A.under<|.builtin "type.__call__" ⟨.ref C::us,kw⟩) outer s H:=⟨by first|exact e.frames|(simpa[tq,Code.envs,tw,pushEnvs] using e.frames),e.mod,e.bs,e.bsz,e.sO,e.frf,e.hok,e.bare⟩
section
theorem Inv.env0 (I:Inv X π σ H s):Bp X.prog X.w X.K X.mg X.base X.A X.stack s H:=
 ⟨I.ok.frames,I.ok.mod,I.bs,cn I.ok.bsz I.sz,I.stack,I.Dn,I.hok,I.bare⟩
theorem Inv.after (I:Inv X π σ H s)(h:CE X.stack X.prog X.w H s Q u s'):EP X π σ Q u s':=by
 refine QJ h λv H' os bare un hok r q=>?_;obtain⟨hh,g,d,t,os'⟩:=s';obtain rfl:os'=s.os:=os;exact⟨v,H',I.call (h':=hh) (g':=g) (d':=d) (t':=t) (ch:=[]) un hok bare λb z=>absurd z (by simp),r,q⟩
end
def Qy (sp:Sp)(dvs:List V)(E:XK)(t:TA):TE:=λσ H Q=>t σ H λvs H1=>sp (vs++dvs) H1 Q E
def Uz (C:Addr)(sp:Sp)(dvs:List V)(E:XK)(t:TA):TE:=λσ H Q=>t σ H λvs H1=>∀x dx,H1 x=none->H1 dx=none->dx≠x->
 sp (.ref x::(vs++dvs)) (upd (upd H1 dx<|.own x) x<|.ins C dx []) (λv H2=>v=.non/\Q (.ref x) H2) E
def Binds (K:aw)(fd:de)(ps:List Str)(ds:List ay):Prop:=
 ∀(s:aS) (us:List ay),K.In s.heap->(us++ds).length=ps.length->uS s fd ⟨us,[]⟩ (ps.zip<|us++ds)
theorem Binds.all {K:aw}{fd:de}{ps:List Str}(h:∀us:List ay,us.length=ps.length->ua fd ⟨us,[]⟩=pure (ps.zip us)):Binds K fd ps []:=λs us _ hl=>by
 rw[dA] at hl ⊢;exact .of_eq<|h us hl
def Passes (CX:CXT)(X:Cx)(E:XK):Prop:=∀(π:Zo) (σ:St) (H:Hp) (s:aS) (e:ay) (s':aS),Inv X π σ H s->CX X.stack H s E e s'->X.xe e s'
section
variable {X:Cx}{CX:CXT}{k:Nat}{f C:Addr}{fd:de}{ps:List Str}{sp:Sp}{dvs:List V}{ds:List ay}{E:XK}{x m:Str}{p pos apos:Pos}{e o:Expr}{es:List Expr}{ta:TE}{t:TA}
theorem Br (F:b8 X.prog X.w X.K X.mg X.base CX k f fd ps sp)(hr:fZ k X.A)(hb:Binds X.K fd ps ds)(hd:Vals dvs ds)(hx:Passes CX X E)
  (I:Inv X π σ H s) (r:Vals vs us) (h:sp (vs++dvs) H Q E):cb (cw X.prog X.w) X.A (call (.ref f) us) (EP X π σ Q) X.xe s:=by
 have r2:Vals (vs++dvs) (us++ds):=r.append hd;have hl:(us++ds).length=ps.length:=by rw[← r2.length];exact F.len _ _ _ _ h
 refine wpAny_call<|kH (F.run X.A X.stack s H ⟨us,[]⟩ (us++ds) (vs++dvs) Q E hr I.env0 (hb s us I.kIn hl) r2 h) λr s' hq=>?_;cases r with
 |error e=>exact hx π σ H s e s' I hq
 |ok fl=>
  cases fl with
  |ret u=>exact I.after hq
  |next=>exact gS hq
  |brk=>exact gS hq
  |cont=>exact gS hq
theorem pW (F:b8 X.prog X.w X.K X.mg X.base CX k f fd ps sp)(hr:fZ k X.A)(hg:Gl X x)(hm:X.mg x=some (.ref f))(hk:kC X.K (.ref f)=true)(hb:Binds X.K fd ps ds)(hd:Vals dvs ds)(hx:Passes CX X E)
  (ha:PA X (e::es) t) (hdb:(x==("__debug__":Str))=false:=by decide) (he:ax (e::es) X.env=(false,eval e X.env)::ax es X.env:=by rfl) (θ:(gX pos<|ax es X.env).any (·.1)=false:=by rfl):
  PE X (.Call (.Name x p) (e::es) [] pos) (Qy sp dvs E t):=by
 intro π s σ H Q I h;refine f7<|xx I hg hm ?_ hdb;refine tz (h₀:=X.base) I.ok.mod.kin hk (thn (ha pos π s σ H _ I h) λus s1 hE=>xq2 hE λvs H1 I1 r q=>⟨I1.kIn,?_⟩) he θ;exact Br F hr hb hd hx I1 r q
structure Mk (K:aw)(C f:Addr):Prop where
 makes:sk K C=true
 init:fR K (.ref C) "__init__" = some (some (.ref f))
 fn:W.isFn K (.ref f)=true
 kp:kC K (.ref C)=true
theorem Lx (M:Mk X.K C f)(F:b8 X.prog X.w X.K X.mg X.base CX k f fd ps sp)(hr:fZ (k+1) X.A)(hb:Binds X.K fd ps ds)(hd:Vals dvs ds)
  (hx:Passes CX X E) (I:Inv X π σ H s) (r:Vals vs us)
  (h:∀x dx,H x=none->H dx=none->dx≠x->sp (.ref x::(vs++dvs)) (upd (upd H dx<|.own x) x<|.ins C dx []) (λv H2=>v=.non/\Q (.ref x) H2) E):
  cb (cw X.prog X.w) X.A (call (.ref C) us) (EP X π σ Q) X.xe s:=by
 have hq:=h (s.heap.objs.size+1) s.heap.objs.size (I.hok.fresh<|rg _) (I.hok.fresh<|aI _)<|b0<|i6 _;have I2:=Inv.made (C:=C) I;have r2:Vals (V.ref (s.heap.objs.size+1)::(vs++dvs)) (c9 (s.heap.objs.size+1)::(us++ds)):=.cons rfl<|r.append hd;have hl:(c9 (s.heap.objs.size+1)::us++ds).length=ps.length:=by
  have e:=r2.length;rw[F.len _ _ _ _ hq] at e;exact e.symm
 refine wpAny_call (Jh (f:=f) I.kIn M.makes M.init (beq_iff_eq.mp M.fn) (kH (F.run _ X.stack _ _ ⟨c9 (s.heap.objs.size+1)::us,[]⟩ (c9 (s.heap.objs.size+1)::(us++ds)) _ _ E (hr.make C us [])
  (I2.env0.make C us []) (hb _ (c9 (s.heap.objs.size+1)::us) I2.kIn hl) r2 hq) λr s' hq'=>?_))
 cases r with
 |error e=>exact hx π σ _ _ e s' I2 hq'
 |ok fl=>
  cases fl with
  |ret u=>
   refine rZ (I2.after hq') λv H' I3 rv ev q3=>?_;subst ev;exact⟨rv,⟨V.ref<|s.heap.objs.size+1,H',I3,rfl,q3⟩⟩
  |next=>exact gS hq'
  |brk=>exact gS hq'
  |cont=>exact gS hq'
theorem DR (M:Mk X.K C f)(F:b8 X.prog X.w X.K X.mg X.base CX k f fd ps sp)(hr:fZ (k+1) X.A)(hg:Gl X x)(hm:X.mg x=some (.ref C))(hb:Binds X.K fd ps ds)(hd:Vals dvs ds)(hx:Passes CX X E)
  (ha:PA X (e::es) t) (hdb:(x==("__debug__":Str))=false:=by decide) (he:ax (e::es) X.env=(false,eval e X.env)::ax es X.env:=by rfl) (θ:(gX pos<|ax es X.env).any (·.1)=false:=by rfl):
  PE X (.Call (.Name x p) (e::es) [] pos) (Uz C sp dvs E t):=by
 intro π s σ H Q I h;refine f7<|xx I hg hm ?_ hdb;refine tz (h₀:=X.base) I.ok.mod.kin M.kp (thn (ha pos π s σ H _ I h) λus s1 hE=>xq2 hE λvs H1 I1 r q=>⟨I1.kIn,?_⟩) he θ;exact Lx M F hr hb hd hx I1 r q
end
section
end
structure aX (N P:List Str)(sc:mo):Prop where
 kind:sc.kind=.function
 co:sc.isCoroutine=false
 gen:sc.isGenerator=false
 nd:N.Nodup
 pre:N.take P.length=P
 par:∀x∈P,sc.names.lookup x=some .local\/sc.names.lookup x=some .cell
 nofree:∀y∈sc.names,y.2≠.free
theorem vY {ng:Str->Option nS}{x:Str}:∀{binds:List (Str×ay)} {m:Zs},(∀v,(x,v)∉binds)->bindL ng binds m x=m x
 |[],_,_=>rfl
 |(n,v)::r,m,h=>by
  unfold bindL;rw[vY λw hw=>h w<|ah _ hw];split
  ·have:x≠n:=by rintro rfl;exact h v aE
   simp[this]
  ·rfl
theorem vZ {ng:Str->Option nS}{x:Str}:∀{binds:List (Str×ay)} {m:Zs},(∀v,(x,v)∉binds)->bindC ng binds m x=m x
 |[],_,_=>rfl
 |(n,v)::r,m,h=>by
  unfold bindC;rw[vZ λw hw=>h w<|ah _ hw];split
  ·rfl
  ·have:x≠n:=by rintro rfl;exact h v aE
   simp[this]
theorem wu {ng:Str->Option nS}{x:Str}{v:ay}:∀{P:List Str} {vs:List ay} {i:Nat} {m:Zs},P.Nodup->P[i]? = some x->vs[i]? = some v->ng x=some .local->
  bindL ng (P.zip vs) m x=some v
 |[],_,_,_,_,h,_,_=>by simp at h
 |_::_,[],_,_,_,_,h,_=>by simp at h
 |p::P,w::vs,0,m,nd,h1,h2,hk=>by
  simp at h1 h2;subst h1;subst h2;show bindL ng ((p,w)::P.zip vs) m p=_;unfold bindL;rw[vY λv hv=>(ij.mp nd).1 (oQ hv).1,if_pos hk]
  simp
 |p::P,w::vs,i+1,m,nd,h1,h2,hk=>by
  show bindL ng ((p,w)::P.zip vs) m x=_;unfold bindL;exact wu (i:=i) (ij.mp nd).2 (by simpa using h1) (by simpa using h2) hk
theorem wA {ng:Str->Option nS}{x:Str}{v:ay}:∀{P:List Str} {vs:List ay} {i:Nat} {m:Zs},P.Nodup->P[i]? = some x->vs[i]? = some v->ng x≠some .local->
  bindC ng (P.zip vs) m x=some v
 |[],_,_,_,_,h,_,_=>by simp at h
 |_::_,[],_,_,_,_,h,_=>by simp at h
 |p::P,w::vs,0,m,nd,h1,h2,hk=>by
  simp at h1 h2;subst h1;subst h2;show bindC ng ((p,w)::P.zip vs) m p=_;unfold bindC;rw[vZ λv hv=>(ij.mp nd).1 (oQ hv).1,if_neg hk]
  simp
 |p::P,w::vs,i+1,m,nd,h1,h2,hk=>by
  show bindC ng ((p,w)::P.zip vs) m x=_;unfold bindC;exact wA (i:=i) (ij.mp nd).2 (by simpa using h1) (by simpa using h2) hk
noncomputable def start (N:List Str)(vs:List V):St:=vs.map some++eD (N.length-vs.length) none
noncomputable def uR (CX:CXT)(P:bb)(w:cp)(K:aw)(mg:Zs)(base:Heap)(N:List Str)(qual:Str)(scope:mo)(f:Addr)(cd:ay)(A:dy)(outer:List Env)(s:aS)(H:Hp)(E:XK):Cx where
 prog:=P
 w:=w
 K:=K
 mg:=mg
 base:=base
 A:=A.deeper<|qB qual scope s.heap.objs.size f cd
 N:=N
 s₀:=s
 H₀:=H
 env:=qB qual scope s.heap.objs.size f cd
 outer:=outer
 stack:=qB qual scope s.heap.objs.size f cd::outer
 ex:=[]
 calm:=true
 fn:=λ_=>true
 pn:=[]
 xe:=λe s'=>cb (cw P w) (A.deeper<|qB qual scope s.heap.objs.size f cd) (leaving (qB qual scope s.heap.objs.size f cd) e) (λ_ s''=>CX outer H s E e s'') (λe' s''=>CX outer H s E e' s'') s'
theorem zb {sc:mo}(h:sc.names.lookup x=some .cell):∃c,(cellsFrom n sc.names []).lookup x=some c:=by
 have q:=W.cellsFrom_some sc.names n []<|.inl h;exact Option.isSome_iff_exists.mp q
theorem HX {CX:CXT}{P:bb}{w:cp}{K:aw}{mg:Zs}{base:Heap}{N ps:List Str}{qual:Str}{scope:mo}{f:Addr}{cd:ay}{A:dy}{outer:List Env}{s s1:aS}{H:Hp}{E:XK}{us:List ay}{vs:List V}
  (S:aX N ps scope) (hd:A.handled=none) (e0:Bp P w K mg base A outer s H) (hl:vs.length=ps.length) (r:Vals vs us)
  (x:InCallC s s.heap.objs.size (bindL (qB qual scope s.heap.objs.size f cd).kindOf (ps.zip us) λ_=>none) (cellsFrom (s.heap.objs.size+1) scope.names []) (bindC (qB qual scope s.heap.objs.size f cd).kindOf (ps.zip us) λ_=>none) s1):
  Inv (uR CX P w K mg base N qual scope f cd A outer s H E) [] (start N vs) H s1:=by
 have θ:ps.length<=N.length:=by have:=congrArg rh S.pre;rw[kU] at this;lia
 obtain⟨h1,tk,rfl,hk⟩:=x.done;have noA:∀b:Addr,b∉(uR CX P w K mg base N qual scope f cd A outer s H E).ex:=λb z=>absurd (show b∈([]:List Addr) from z) (by simp);refine⟨⟨e0.mod,S.kind,rfl,rfl,aI _,λy z c h1 h2=>?_,λy hy=>?_,λy c _ h=>?_,λ_=>hd,Around.frames_deeper e0.frames,.inr ⟨rfl,rfl⟩,λb z=>absurd z<|noA b,e0.bs,e0.bsz,λb _ _=>noA b,λb z=>absurd z<|noA b,e0.sO,e0.frf⟩,
  rfl,e0.bare,Un.kept hk,⟨_,x.toInCall.ns,λi y v h1 h2 h3=>?_⟩,λy c h=>⟨_,x.cell y c h⟩,e0.hok.fresh<|aI _,λy c h=>?_,λp hp=>absurd (show p∈([]:Zo) from hp) (by simp),e0.hok.kept hk,?_⟩
 ·exact name_of_addr x.apart (hJ h1)<|hJ h2
 ·have hy:scope.names.lookup y=some .cell\/scope.names.lookup y=some .free:=hy;rcases hy with hy|hy
  ·exact zb hy
  ·exact absurd rfl<|S.nofree _<|hJ hy
 ·exact tm<|x.above y c<|hJ h
 ·have hi:i<vs.length:=by
   unfold start at h2;by_cases hi:i<vs.length
   ·exact hi
   ·rw[bp<|by simpa using hi] at h2;rw[c8] at h2;split at h2<;>cases h2
  have ha:vs[i]? = some v:=by
   unfold start at h2;rw[bE (by simpa using hi),bX] at h2;cases e:vs[i]? with
   |none=>rw[e] at h2;cases h2
   |some a=>rw[e] at h2;cases h2;rfl
  obtain⟨u,hu,rv⟩:=r.get ha;have hp:ps[i]? = some y:=by
   rw[← S.pre,List.getElem?_take_of_lt<|by lia];exact h1
  have ndP:ps.Nodup:=by rw[← S.pre];exact S.nd.sublist<|List.take_sublist _ _
  refine⟨u,rv,?_⟩;rcases S.par y (gL hp) with k|k
  ·exact .inl ⟨k,wu ndP hp hu k⟩
  ·obtain⟨c,e⟩:=zb (n:=s.heap.objs.size+1) k;refine .inr ⟨.inl k,c,e,?_⟩;have q:=x.cell y c e;rw[wA ndP hp hu (by show scope.names.lookup y≠_;rw[k];decide)] at q;exact q
 ·exact e0.hok.fresh<|tm<|x.above y c<|hJ h
 ·unfold start;show _=N.length;rw[be,dQ,ff]
  lia
theorem T4 {CX:CXT}{P:bb}{w:cp}{K:aw}{mg:Zs}{base:Heap}{k:Nat}{f:Addr}{name qual:Str}{params:Arguments}{body:List Stmt}{scope:mo}{dV kV doc pm cdv ct oc:ay}{an od:Option Addr}
  {osl:Array (Option ay)} {N ps:List Str} {sp:Sp} (lk:K.lookup f=some ⟨oc,od,.func<|oT name qual params body scope dV kV doc pm an cdv ct,osl⟩) (hcd:ub K cdv qual=true) (S:aX N ps scope)
  (len:∀vs H Q E,sp vs H Q E->vs.length=ps.length)
  (hbody:∀(A:dy) (outer:List Env) (s:aS) (H:Hp) (vs:List V) (Q:VK) (E:XK),fZ k (A.deeper<|qB qual scope s.heap.objs.size f cdv)->sp vs H Q E->
   ∃t,PSs (uR CX P w K mg base N qual scope f cdv A outer s H E) body t/\t { nx:=λ_ H'=>Q .non H',rt:=Q } (start N vs) H):
  b8 P w K mg base CX (k+1) f (oT name qual params body scope dV kV doc pm an cdv ct) ps sp:=by
 refine⟨len,λA outer s H args us vs Q E hr e0 hb r hsp=>?_⟩;have hl:=len _ _ _ _ hsp;have KX:K.In s.heap:=e0.mod.kin.keeps λb o e=>(e0.bs b o e).1;have lim:s.heap.NoLimit:=e0.mod.nolimit.keeps λb o e=>(e0.bs b o e).1;have hkind:∀y∈ps.zip us,scope.names.lookup y.1=some .local\/(scope.names.lookup y.1=some .cell/\((cellsFrom (s.heap.objs.size+1) scope.names []).lookup y.1).isSome=true):=λ⟨n,v⟩ hy=>by
  rcases S.par n (oQ hy).1 with q|q
  ·exact .inl q
  ·exact .inr ⟨q,W.cellsFrom_some _ _ _<|.inl q⟩
 refine codeAny_call_function hr.depth (KX _ _ lk) rfl S.co S.gen rfl (W.codeRec_of KX hcd)<|hb _ _ _ _ ?_;refine wpAny_newFunctionEnv_cells S.kind hkind λenv he s1 x=>?_;subst he;refine⟨lim.keeps x.toInCall.keep,codeAny_func ?_⟩;obtain⟨t,ht,hq⟩:=hbody A outer s H vs Q E (hr.deeper _) hsp;have I:Inv (uR CX P w K mg base N qual scope f cdv A outer s H E) [] (start N vs) H s1:=HX S hr.hd e0 hl r x;refine iF (ht [] s1 (start N vs) H _ I hq) (λfl s' hs=>?_) λe s' hs=>hs;have fin:∀{σ':St} {H':Hp} {v:V} {u:ay},Inv (uR CX P w K mg base N qual scope f cdv A outer s H E) [] σ' H' s'->RelV v u->Q v H'->CE outer P w H s Q u s':=
  λ{σ' H' v u} J rv q=>⟨v,H',J.os,J.bare,J.base,J.hok,rv,q⟩
 cases fl with
 |ret u=>
  refine JK hs λv σ' H' J rv q=>?_;exact fin J rv q
 |next=>
  obtain⟨σ',H',J,q⟩:=hs;exact fin (v:=V.non) (u:=fT) J rfl q
 |brk=>
  obtain⟨_,_,_,q⟩:=hs;exact gS q
 |cont=>
  obtain⟨_,_,_,q⟩:=hs;exact gS q
section
variable {X:Cx}{x:Str}{p pos:Pos}{e:Expr}{es:List Expr}{t:TA}{id T:String}{r:List V->Hp->VK->Prop}
def tCB (r:List V->Hp->VK->Prop)(t:TA):TE:=λσ H Q=>t σ H λvs H1=>r vs H1 Q
theorem iM (hc:gm X (.builtin id) r)(hg:Gl X x)(hm:X.mg x=none)(hv:b9 x=some (.builtin id))(ha:PA X (e::es) t)(hn:x≠"__name__":=by decide)(hdb:(x==("__debug__":Str))=false:=by decide)
  (he:ax (e::es) X.env=(false,eval e X.env)::ax es X.env:=by rfl) (θ:(gX pos<|ax es X.env).any (·.1)=false:=by rfl):PE X (.Call (.Name x p) (e::es) [] pos) (tCB r t):=by
 intro π s σ H Q I h;refine f7<|rM I hg hm hv ?_ hn hdb;exact PyProof.Rows.callWith_builtin1 (thn (ha pos π s σ H _ I h) λus s1 hE=>xq2 hE λvs H1 I1 r1 q1=>hc π s1 σ H1 vs us Q I1 r1 q1) he θ
theorem oE (hc:gm X (.type T) r)(hg:Gl X x)(hm:X.mg x=none)(hv:b9 x=some (.type T))(ha:PA X (e::es) t)(hn:x≠"__name__":=by decide)(hdb:(x==("__debug__":Str))=false:=by decide)
  (he:ax (e::es) X.env=(false,eval e X.env)::ax es X.env:=by rfl) (θ:(gX pos<|ax es X.env).any (·.1)=false:=by rfl):PE X (.Call (.Name x p) (e::es) [] pos) (tCB r t):=by
 intro π s σ H Q I h;refine f7<|rM I hg hm hv ?_ hn hdb;exact fw (thn (ha pos π s σ H _ I h) λus s1 hE=>xq2 hE λvs H1 I1 r1 q1=>hc π s1 σ H1 vs us Q I1 r1 q1) he θ
end
end L2
namespace HT
open PySem PyProof.Rows
theorem UJ (A:dy)(s:aS)(a:Int)(t:Tok)(c:Int)(u:Tok):∃e,sP A s (.int a t) (.int c u) e/\(e=true↔a=c):=
 ⟨(a==c),sv a t c u,by simp⟩
theorem Uq (A:dy)(s:aS)(a:Int)(t:Tok)(c:Int)(u:Tok)(prog:bb)(w:cp)(E:Zv)(Q:Zv)(h:Q (.bool<|decide<|a<c) s):
  cb (cw prog w) A (richCompare .Lt (.int a t)<|.int c u) Q E s:=
 (PyProof.Rows.lt_int h:cb (cw prog w) A (cy .Lt (.int a t)<|.int c u) Q E s)
section
open PySem.SeqAt
open PySem.AutoSeq1 (wpAny_loadPart')
open PySem.MeetsSeq PySem.MeetsSeq2 PySem.MeetsSeq3
end
section
variable {prog:bb}{w:cp}{A:dy}{E:Zv}{s:aS}
theorem Qe (ht:IsTup s.heap t vs.toArray)(hb:IsTup s.heap b ws.toArray)(hv:vs≠[])
  (h1:ws=[]->Q (.ref t) s) (h2:ws≠[]->Q (.ref s.heap.objs.size) { s with heap:=s.heap.push { cls:=.type "tuple",data:=.seq (vs++ws).toArray } })
  (hsz:vs.length+ws.length<=aT):cb (cw prog w) A (fm .Add (.ref t)<|.ref b) Q E s:=by
 obtain⟨⟨cls,dd,data,sl⟩,ho,hc,n,hd⟩:=id ht;obtain⟨⟨cls2,dd2,data2,sl2⟩,ho2,hc2,n2,hd2⟩:=id hb;simp only at hc hd hc2 hd2;subst hc hd hc2 hd2;have e:vs.toArray++ws.toArray=(vs++ws).toArray:=by simp
 by_cases hw:ws=[]
 ·exact o3 ⟨_,ho,rfl⟩ ⟨_,ho2,rfl⟩ oj sx kv ki (jv _ _)
   (tuple_addW1 t b vs.toArray ws.toArray n n2 dd dd2 sl sl2 (by simpa using hv) (by simp[hw])) ⟨ho,ho2,h1 hw⟩
 ·refine o3 ⟨_,ho,rfl⟩ ⟨_,ho2,rfl⟩ oj sx kv ki (jv _ _)
   (tuple_addW2 t b vs.toArray ws.toArray n n2 dd dd2 sl sl2 (by simpa using hv) (by simpa using hw) (by rw[a8,a8];exact hsz)) ⟨ho,ho2,?_⟩
  rw[e];exact h2 hw
noncomputable def sIx (n d:Nat):Option Int->Nat
 |none=>d
 |some v=>if v<0 then(v+(n:Int)).toNat else min v.toNat n
theorem RP (n d:Nat)(hd:d<=n)(o:Option Int):sIx n d o<=n:=by
 cases o with
 |none=>exact hd
 |some v=>
  show(if v<0 then(v+(n:Int)).toNat else min v.toNat n)<=n;by_cases hv:v<0
  ·rw[if_pos hv];lia
  ·rw[if_neg hv];exact Nat.min_le_right _ _
theorem Dp (v:Int)(n d:Nat):(if v<0 then max (v+(n:Int)) 0 else min v (n:Int))=((sIx n d (some v):Nat):Int):=by
 show(if v<0 then max (v+(n:Int)) 0 else min v (n:Int))=(((if v<0 then(v+(n:Int)).toNat else min v.toNat n):Nat):Int);by_cases hv:v<0
 ·simp only[if_pos hv];lia
 ·simp only[if_neg hv];lia
theorem CN (lo hi:Option Int)(n:Nat):iX lo hi 1 (n:Int)=(((sIx n 0 lo:Nat):Int),((sIx n n hi:Nat):Int)):=by
 have h1:¬((1:Int)<0):=by lia
 unfold iX;simp only[h1,if_false];refine Prod.ext ?_ ?_
 ·cases lo with
  |none=>rfl
  |some v=>exact Dp v n 0
 ·cases hi with
  |none=>rfl
  |some v=>exact Dp v n n
theorem Bh (i j:Nat):gE (i:Int) (j:Int) 1=j-i:=by
 unfold gE;have h1:(1:Int)>0:=by lia
 simp only[h1,if_true,Int.ediv_one];split<;>lia
theorem uF (p:qE v o)(h:Q o s):cb (cw prog w) A (Builtin.Slice.slicePartIndex v) Q E s:=by
 cases p with
 |none=>exact slicePart_none h
 |int i t=>exact slicePart_int h
theorem j5 {sl:Addr}{vl vu:ay}{lo hi:Option Int}{n:Nat}{Q:Int×Int×Nat->aS->Prop}(hs:s.heap.IsSliceOf sl vl vu .none)(pl:qE vl lo)(pu:qE vu hi)
  (h:Q (((sIx n 0 lo:Nat):Int),1,sIx n n hi-sIx n 0 lo) s):cb (cw prog w) A (mw (.ref sl)<|pure (n:Int)) Q E s:=by
 obtain⟨os,hos,hcs,hds⟩:=id hs;unfold mw Builtin.Slice.sliceFields;refine af<|af<|l8 hos hds (x:=vl) rfl<|af<|l8 hos hds (x:=vu) rfl<|af<|l8 hos hds (x:=.none) rfl<|bg ?_;refine af<|slicePart_none ?_;show cb _ _ (if((1:Int)==0)=true then _ else _) _ _ s;rw[if_neg<|by decide];refine af<|uF pl<|af<|uF pu<|af<|bg ?_;show cb _ _ (match iX lo hi 1 (n:Int) with|(lo,hi)=>pure (lo,(1:Int),gE lo hi 1)) _ _ s;rw[CN lo hi n];show cb _ _ (pure (((sIx n 0 lo:Nat):Int),(1:Int),gE ((sIx n 0 lo:Nat):Int) ((sIx n n hi:Nat):Int) 1)) _ _ s;rw[Bh];exact bg h
theorem Jv (xs:Array ay)(i k:Nat):((eJ k).filterMap λ(m:Nat)=>xs[((i:Int)+(m:Int)*1).toNat]?).toArray=((xs.toList.drop i).take k).toArray:=by
 have e:(λ(m:Nat)=>xs[((i:Int)+(m:Int)*1).toNat]?)=λm=>xs[i+m]?:=by
  funext m
  have:((i:Int)+(m:Int)*1).toNat=i+m:=by lia
  rw[this]
 rw[e]
 have:=pick_run xs i k
 rw[List.filterMap_map] at this;have e2:((λx=>xs[x]?)∘λx=>i+x)=λm=>xs[i+m]?:=rfl;rw[e2] at this;rw[this]
theorem qt {t sl:Addr}{items:Array ay}{vl vu:ay}{lo hi:Option Int}{Q:Zv}(ht:IsTup s.heap t items)(hs:s.heap.IsSliceOf sl vl vu .none)(pl:qE vl lo)(pu:qE vu hi)
  (hw:¬(sIx items.size 0 lo=0/\sIx items.size items.size hi=items.size))
  (h:Q (.ref s.heap.objs.size) { s with heap:=s.heap.push { cls:=.type "tuple",data:=.seq ((items.toList.drop<|sIx items.size 0 lo).take<|sIx items.size items.size hi-sIx items.size 0 lo).toArray } })
  (hsz:items.size<=aT):cb (cw prog w) A (qV (.ref t)<|.ref sl) Q E s:=by
 have htake:sizeOk (.seq ((items.toList.drop<|sIx items.size 0 lo).take<|sIx items.size items.size hi-sIx items.size 0 lo).toArray):=by
  show((items.toList.drop<|sIx items.size 0 lo).take<|sIx items.size items.size hi-sIx items.size 0 lo).toArray.size<=aT;rw[a8,kU,i7,lP]
  lia
 have hj:sIx items.size items.size hi<=items.size:=RP _ _ (aI _) hi;obtain⟨os,hos,hcs,hds⟩:=id hs;have hTs:s.TypeIs (.ref sl) "slice":=⟨os,hos,hcs⟩;unfold qV
 try with_reducible refine la ?_
 first|refine af (bg ?_)|skip
 refine af<|wpAny_sequenceKey ht.typeIs (by decide) ?_;refine af (wpAny_callSpecial?_slot (name:=ae "__getitem__") ht.typeIs dc
  (oe dc ht.typeIs entry_tuple_getitem ?_<|args_tuple_getitem _ _))
 show cb _ _ (iO (.ref t) >>= _) _ _ s;refine af<|tupleItemsOf_ ht ?_;refine af<|pb hTs ?_;rw[if_pos<|by decide];refine af<|j5 hs pl pu ?_;have hno:¬((((sIx items.size 0 lo:Nat):Int)==0&&(1:Int)==1&&(sIx items.size items.size hi-sIx items.size 0 lo)==items.size)=true):=by
  intro q;rw[i8,i8] at q;have q1:((sIx items.size 0 lo:Nat):Int)=0:=eq_of_beq q.1.1;have q2:sIx items.size items.size hi-sIx items.size 0 lo=items.size:=eq_of_beq q.2;exact hw ⟨by lia,by lia⟩
 show cb _ _ (if(((sIx items.size 0 lo:Nat):Int)==0&&(1:Int)==1&&(sIx items.size items.size hi-sIx items.size 0 lo)==items.size)=true then _ else _) _ _ s;rw[if_neg hno,Jv]
 first
  |exact af (m:=gT _) (iL (bg ⟨_,rfl,bg h⟩) htake)
  |exact af (m:=gT _) (iL (af<|bg<|bg ⟨_,rfl,bg h⟩) htake)
  |exact af (af (m:=gT _)<|iL (bg<|bg ⟨_,rfl,bg h⟩) htake)
  |exact af (af (m:=gT _)<|iL (bg ⟨_,rfl,bg h⟩) htake)
end
end HT
namespace L2
open PySem PySem.Spec PyProof.Rows
abbrev TO:=St->Hp->(Option Int->Hp->Prop)->Prop
def PO (X:Cx)(e:Option Expr)(t:TO):Prop:=
 ∀(π:Zo) (s:aS) (σ:St) (H:Hp) (Q:Option Int->Hp->Prop),Inv X π σ H s->t σ H Q->
  cb (cw X.prog X.w) X.A (evalPart e X.env) (λu s'=>∃o H',Inv X π σ H' s'/\qE u o/\Q o H') X.xe s
def Mu:TO:=λ_ H Q=>Q none H
def IV (t:TE):TO:=λσ H Q=>t σ H λx H1=>∃i,x=.int i/\Q (some i) H1
section
variable {X:Cx}{e:Expr}{te:TE}{lo hi:Option Expr}{tl th:TO}{pos p2:Pos}
theorem Ni:PO X none Mu:=by
 intro π s σ H Q I h;rw[evalPart_none];exact bg ⟨none,H,I,.none,h⟩
theorem yc (h:PE X e te):PO X (some e) (IV te):=by
 intro π s σ H Q I hw;rw[evalPart_some];refine thn (h π s σ H _ I hw) λu s1 hE=>xq2 hE λx H1 I1 r1 q1=>?_;obtain⟨i,rfl,q⟩:=q1;obtain⟨t,rfl⟩:=r1;exact⟨some i,H1,I1,.int i t,q⟩
def SlR (X:Cx)(r:V->Option Int->Option Int->Hp->VK->Prop):Prop:=
 ∀(π:Zo) (s:aS) (σ:St) (H:Hp) (x:V) (v vl vu:ay) (lo hi:Option Int) (sl:Addr) (Q:VK),Inv X π σ H s->RelV x v->s.heap.IsSliceOf sl vl vu .none->qE vl lo->qE vu hi->r x lo hi H Q->
  ∃T id,typeLookup (.type T) "__getitem__" = pure (some<|.builtin id)/\s.TypeIs v T/\cb (cw X.prog X.w) X.A (qV v<|.ref sl) (EP X π σ Q) X.xe s
def tSl (r:V->Option Int->Option Int->Hp->VK->Prop)(te:TE)(tl th:TO):TE:=λσ H Q=>te σ H λx H1=>tl σ H1 λl H2=>th σ H2 λu H3=>r x l u H3 Q
theorem u6 (hr:SlR X r)(he:PE X e te)(hl:PO X lo tl)(hu:PO X hi th):PE X (.Subscript e (.Slice lo hi none p2) pos) (tSl r te tl th):=by
 intro π s σ H Q I h;refine Subscript_<|thn (he π s σ H _ I h) λv s1 hE=>xq2 hE λx H1 I1 r1 q1=>?_;refine wpAny_Slice<|thn (hl π s1 σ H1 _ I1 q1) λvl s2 ⟨l,H2,I2,pl,q2⟩=>thn (hu π s2 σ H2 _ I2 q2) λvu s3 hE=>?_;refine uE hE λu H3 I3 pu q3=>?_;rw[evalPart_none];refine bg ?_;have I4:Inv X π σ H3 { s3 with heap:=s3.heap.push { cls:=.type "slice",data:=.fields #[vl,vu,.none] } }:=I3.kept (t':=s3.toks) λb ob q=>ag _ q;refine uE (hr π { s3 with heap:=s3.heap.push { cls:=.type "slice",data:=.fields #[vl,vu,.none] } } σ H3 x v vl vu l u s3.heap.objs.size Q I4 r1 (Heap.IsSliceOf.new ..) pl pu q3) λT id hT ht hg=>?_;show cb (cw X.prog X.w) X.A (subscriptTail e (.Slice lo hi none p2) v<|.ref s3.heap.objs.size) (EP X π σ Q) X.xe { s3 with heap:=s3.heap.push { cls:=.type "slice",data:=.fields #[vl,vu,.none] } };exact tail_any (ops:=[.ref s3.heap.objs.size,v]) ht hT hg<|by with_unfolding_all rfl
def yX (xs:List V)(lo hi:Option Int):List V:=(xs.drop<|HT.sIx xs.length 0 lo).take<|HT.sIx xs.length xs.length hi-HT.sIx xs.length 0 lo
theorem sH (xs:List V)(lo hi:Option Int):(yX xs lo hi).length<=xs.length:=by
 unfold yX;rw[kU,i7]
 lia
def VF (K:aw):V->Option Int->Option Int->Hp->VK->Prop:=λx lo hi H Q=>∃a xs,x=.ref a/\SqT K H a xs/\
 ¬(HT.sIx xs.length 0 lo=0/\HT.sIx xs.length xs.length hi=xs.length)/\∀p,H p=none->Q (.ref p) (upd H p<|.tup<|yX xs lo hi)
theorem Mr:SlR X (VF X.K):=by
 intro π s σ H x v vl vu lo hi sl Q I rx hs pl pu h;obtain⟨a,xs,rfl,hx,hw,q⟩:=h;cases rx;obtain⟨χ,r,ht,hz⟩:=I.tuple hx;have η:χ.toArray.size=xs.length:=by rw[a8];exact r.length.symm
 refine⟨"tuple",_,dc.lookup,ht.typeIs,?_⟩;refine HT.qt ht hs pl pu (by rw[η];exact hw) ?_ (by rw[η];exact hz);rw[η];refine⟨.ref s.heap.objs.size,_,I.laid (t':=s.toks) (o:=.tup<|yX xs lo hi) (λb ob q=>ag _ q) (aI _) ?_,rfl,q _<|I.hok.fresh<|aI _⟩;exact⟨cn (sH xs lo hi) hz,_,(r.drop<|HT.sIx xs.length 0 lo).take<|HT.sIx xs.length xs.length hi-HT.sIx xs.length 0 lo,yt.new _ _⟩
def Ul (K:aw):R2:=λx y H Q=>∃a b xs ys,x=.ref a/\y=.ref b/\SqT K H a xs/\SqT K H b ys/\xs≠[]/\xs.length+ys.length<=aT/\
 (ys=[]->Q (.ref a) H)/\(ys≠[]->∀p,H p=none->Q (.ref p) (upd H p<|.tup<|xs++ys))
theorem Vals.xH (r:Vals xs us):us=[]↔xs=[]:=by
 cases r with
 |nil=>simp
 |cons _ _=>simp
theorem M3:OpR X (fm .Add) (Ul X.K):=by
 intro π s σ H x y v u Q I rx ry h;obtain⟨a,b,xs,ys,rfl,rfl,ha,hb,hx,hz,q1,q2⟩:=h;cases rx;cases ry;obtain⟨χ,r1,p1,_⟩:=I.tuple ha;obtain⟨its2,r2,p2,_⟩:=I.tuple hb;refine HT.Qe p1 p2 (λz=>hx<|r1.xH.mp z) (λz=>⟨.ref a,H,I,rfl,q1<|r2.xH.mp z⟩) (λz=>?_) (by rw[← r1.length,← r2.length];exact hz);refine⟨.ref s.heap.objs.size,_,I.laid (t':=s.toks) (o:=.tup<|xs++ys) (λb ob q=>ag _ q) (aI _) ?_,rfl,q2 (λw=>z<|r2.xH.mpr w) _<|I.hok.fresh<|aI _⟩;exact⟨by rw[be];exact hz,_,r1.append r2,yt.new _ _⟩
end
noncomputable def ixN (n:Nat)(i:Int):Option Nat:=if 0<=i then(if i<n then some i.toNat else none) else if -(n:Int)<=i then some (i+n).toNat else none
def atI {α:Type}(xs:List α)(i:Int):Option α:=(ixN xs.length i).bind λj=>xs[j]?
theorem MJ (h:ixN n i=some j):seqIndex? i n=some j/\j<n/\-(n:Int)<=i/\i<n:=by
 unfold ixN at h;by_cases h0:0<=i
 ·rw[if_pos h0] at h;by_cases h1:i<n
  ·rw[if_pos h1] at h;have e:i.toNat=j:=cx h;exact⟨by rw[seqIndex_of h0 h1,e],by lia,by lia,h1⟩
  ·rw[if_neg h1] at h;cases h
 ·rw[if_neg h0] at h;by_cases h1:-(n:Int)<=i
  ·rw[if_pos h1] at h;have e:(i+n).toNat=j:=cx h;exact⟨by rw[seqIndex_neg (by lia) h1,e],by lia,h1,by lia⟩
  ·rw[if_neg h1] at h;cases h
theorem yQ (h:atI xs i=some v):∃j,seqIndex? i xs.length=some j/\xs[j]? = some v/\j<xs.length/\-(xs.length:Int)<=i/\i<xs.length:=by
 unfold atI at h;cases e:ixN xs.length i with
 |none=>rw[e] at h;cases h
 |some j=>
  rw[e] at h;obtain⟨h1,h2,h3,h4⟩:=MJ e;exact⟨j,h1,h,h2,h3,h4⟩
def Ea (b:Expr):Prop:=∀o i,subscripted b false o i=operate [o,i] (qV o i)
def IxR (X:Cx)(r:R2):Prop:=
 ∀(value slice:Expr) (π:Zo) (s:aS) (σ:St) (H:Hp) (x y:V) (v u:ay) (Q:VK),Inv X π σ H s->RelV x v->RelV y u->r x y H Q->
  subscripted slice false v u=operate [v,u] (qV v u)->cb (cw X.prog X.w) X.A (subscriptTail value slice v u) (EP X π σ Q) X.xe s
def MtR (X:Cx)(id:String)(r:V->List V->Hp->VK->Prop):Prop:=
 ∀(π:Zo) (s:aS) (σ:St) (H:Hp) (x:V) (xs:List V) (v:ay) (us:List ay) (Q:VK),Inv X π σ H s->RelV x v->Vals xs us->r x xs H Q->
  cb (cw X.prog X.w) X.A (call (.builtin id) (v::us)) (EP X π σ Q) X.xe s
section
variable {X:Cx}{a b:Expr}{ta tb:TE}{pos:Pos}
theorem Ed (hr:IxR X r)(ha:PE X a ta)(hb:PE X b tb)(hs:Ea b):PE X (.Subscript a b pos) (tOp r ta tb):=by
 intro π s σ H Q I h;exact Subscript_<|Ng ha hb I h λv u s2 x y H2 I2 rx ry q=>hr a b π s2 σ H2 x y v u Q I2 rx ry q<|hs _ _
def VN (K:aw):R2:=λx y H Q=>∃p xs i v,x=.ref p/\y=.int i/\SqL K H p xs/\atI xs i=some v/\Q v H
def VM (K:aw):R2:=λx y H Q=>∃p xs i v,x=.ref p/\y=.int i/\SqT K H p xs/\atI xs i=some v/\Q v H
def VJ:R2:=λx y H Q=>∃z i c,x=.str z/\y=.int i/\z.length<=aT/\atI z.cps.toList i=some c/\Q (.str ⟨#[c]⟩) H
theorem PQ:IxR X (VN X.K):=by
 intro value slice π s σ H x y v u Q I rx ry h hs;obtain⟨p,xs,i,z,rfl,rfl,hq,he,q⟩:=h;cases rx;obtain⟨t,rfl⟩:=ry;obtain⟨χ,r,pl,hz⟩:=I.list hq;refine wy (yQ he) λj h1 h2 h3 h4 h5=>?_;obtain⟨w,ew,rw'⟩:=r.get h2;have hl:=r.length;have hn:=uy;have fin:EP X π σ Q w s:=⟨z,H,I,rw',q⟩;by_cases h0:0<=i
 ·have hj:i.toNat=j:=by
   rw[seqIndex_of h0 h5] at h1;exact cx h1
  exact item_listR pl.isList h0 (by lia) (by rw[hj];simpa using ew) fin hs
 ·have hj:(i+(χ.toArray.size:Int)).toNat=j:=by
   rw[seqIndex_neg (by lia) h4] at h1;rw[a8,← hl];exact cx h1
  exact subscriptTail_builtinR (x:=w) pl.isList.typeIs slot_list_getitem.lookup
   (wpAny_getItem_list_neg (Q:=λr s'=>r=w/\EP X π σ Q r s') pl.isList (by lia) (by rw[a8]<;>lia) (by lia) (by rw[hj];simpa using ew) ⟨rfl,fin⟩) hs
theorem S7:IxR X (VM X.K):=by
 intro value slice π s σ H x y v u Q I rx ry h hs;obtain⟨p,xs,i,z,rfl,rfl,hq,he,q⟩:=h;cases rx;obtain⟨t,rfl⟩:=ry;obtain⟨χ,r,pl,hz⟩:=I.tuple hq;refine wy (yQ he) λj h1 h2 h3 h4 h5=>?_;obtain⟨w,ew,rw'⟩:=r.get h2;have hl:=r.length;have hn:=uy;have fin:EP X π σ Q w s:=⟨z,H,I,rw',q⟩;exact subscriptTail_builtinR (x:=w) pl.typeIs slot_tuple_getitem.lookup
  (getItem_tuple (j:=j) (Q:=λr s'=>r=w/\EP X π σ Q r s') pl (by lia) (by lia) (by rw[a8,← hl];exact h1) (by simpa using ew) ⟨rfl,fin⟩) hs
theorem R8:IxR X VJ:=by
 intro value slice π s σ H x y v u Q I rx ry h hs;obtain⟨z,i,c,rfl,rfl,hz,he,q⟩:=h;obtain⟨t,rfl⟩:=rx;obtain⟨t',rfl⟩:=ry;refine wy (yQ he) λj h1 h2 h3 h4 h5=>?_;have hl:z.cps.toList.length=z.length:=by simp[Str.length]
 rw[hl] at h1 h4 h5;have hn:=uy;exact tail_any (mT s z t) slot_str_getitem.lookup (getItem_str (c:=c) (by
  have e1:decide (i < -(2^63:Int))=false:=decide_eq_false (by lia);have e2:decide (i≥2^63)=false:=decide_eq_false (by lia);rw[e1,e2,Bool.or_false]) (by rw[h1];simpa using h2) ⟨.str ⟨#[c]⟩,H,I.tok _,⟨_,rfl⟩,q⟩) hs
theorem yS (lo hi:Option Int)(n:Nat):(ky lo hi none n).1=((HT.sIx n 0 lo:Nat):Int)/\(ky lo hi none n).2.1=((HT.sIx n n hi:Nat):Int)/\(ky lo hi none n).2.2=1:=by
 refine⟨?_,?_,rfl⟩
 ·cases lo with
  |none=>simp[ky,HT.sIx]
  |some i=>
   simp only[ky,HT.sIx,Option.getD_none,show(1:Int)>0 by decide,if_true];by_cases h:i<0
   ·simp only[h,if_true]<;>lia
   ·simp only[h,if_false]<;>lia
 ·cases hi with
  |none=>simp[ky,HT.sIx]
  |some i=>
   simp only[ky,HT.sIx,Option.getD_none,show(1:Int)>0 by decide,if_true];by_cases h:i<0
   ·simp only[h,if_true]<;>lia
   ·simp only[h,if_false]<;>lia
theorem vO (χ:List ay)(lo hi:Option Int):slicePick χ.toArray lo hi none=((χ.drop<|HT.sIx χ.length 0 lo).take<|HT.sIx χ.length χ.length hi-HT.sIx χ.length 0 lo).toArray:=by
 obtain⟨h1,h2,h3⟩:=yS lo hi χ.toArray.size;unfold slicePick;rw[h1,h2,h3];simp only[sliceRange_one,pick_run,a8]<;>rfl
def Vy (K:aw):V->Option Int->Option Int->Hp->VK->Prop:=λx lo hi H Q=>∃a xs,x=.ref a/\SqL K H a xs/\∀p,H p=none->Q (.ref p) (upd H p<|.lst<|yX xs lo hi)
theorem NP:SlR X (Vy X.K):=by
 intro π s σ H x v vl vu lo hi sl Q I rx hs pl pu h;obtain⟨a,xs,rfl,hx,q⟩:=h;cases rx;obtain⟨χ,r,ht,hz⟩:=I.list hx;have η:=r.length;refine⟨"list",_,slot_list_getitem.lookup,ht.isList.typeIs,?_⟩;refine wpAny_getItem_list_slice ht.isList hs pl pu .none (by simp) ?_ (by rw[a8]<;>lia);rw[vO,← η];refine⟨.ref s.heap.objs.size,_,I.laid (t':=s.toks) (o:=.lst<|yX xs lo hi) (λb ob q=>ag _ q) (aI _) ?_,rfl,q _<|I.hok.fresh<|aI _⟩;exact⟨cn (sH xs lo hi) hz,_,0,(r.drop<|HT.sIx xs.length 0 lo).take<|HT.sIx xs.length xs.length hi-HT.sIx xs.length 0 lo,bq _ rfl⟩
def o6:V->Bool
 | .non=>true
 | .bl _=>true
 | .int _=>true
 | .str _=>true
 |_=>false
def eqV:V->V->Bool
 | .non,.non=>true
 | .bl a,.bl b=>a==b
 | .bl a,.int b=>(if a then 1 else 0)==b
 | .int a,.bl b=>a==(if b then 1 else 0)
 | .int a,.int b=>a==b
 | .str a,.str b=>a==b
 |_,_=>false
theorem Tq (ry:RelV y u)(rx:RelV x v)(fy:o6 y=true)(fx:o6 x=true):sP A s u v (eqV y x):=by
 cases y with
 |non=>
  cases ry;cases x with
  |non=>cases rx;exact uk _
  |bl b=>cases rx;exact SeqAt.EqAt.none_bool b
  |int b=>obtain⟨t,rfl⟩:=rx;exact SeqAt.EqAt.none_int b t
  |str b=>obtain⟨t,rfl⟩:=rx;exact SeqAt.EqAt.none_str b t
  |_=>exact absurd (show false=true from fx) av
 |bl a=>
  cases ry;cases x with
  |non=>cases rx;exact SeqAt.EqAt.bool_none a
  |bl b=>cases rx;exact SeqAt.EqAt.bool_bool a b
  |int b=>obtain⟨t,rfl⟩:=rx;exact SeqAt.EqAt.bool_int a b t
  |str b=>obtain⟨t,rfl⟩:=rx;exact SeqAt.EqAt.bool_str a b t
  |_=>exact absurd (show false=true from fx) av
 |int a=>
  obtain⟨t',rfl⟩:=ry;cases x with
  |non=>cases rx;exact SeqAt.EqAt.int_none a t'
  |bl b=>cases rx;exact SeqAt.EqAt.int_bool a t' b
  |int b=>obtain⟨t,rfl⟩:=rx;exact sv a t' b t
  |str b=>obtain⟨t,rfl⟩:=rx;exact rS a t' b t
  |_=>exact absurd (show false=true from fx) av
 |str a=>
  obtain⟨t',rfl⟩:=ry;cases x with
  |non=>cases rx;exact SeqAt.EqAt.str_none a t'
  |bl b=>cases rx;exact SeqAt.EqAt.str_bool a t' b
  |int b=>obtain⟨t,rfl⟩:=rx;exact rV a t' b t
  |str b=>obtain⟨t,rfl⟩:=rx;exact SeqAt.EqAt.str_str a t' b t
  |_=>exact absurd (show false=true from fx) av
 |_=>exact absurd (show false=true from fy) av
def eqU (x:V)(u:ay):Bool:=match u with
 | .none=>eqV .non x
 | .bool b=>eqV (.bl b) x
 | .int i _=>eqV (.int i) x
 | .str z _=>eqV (.str z) x
 |_=>false
theorem Ii (r:RelV y u)(f:o6 y=true):eqU x u=eqV y x:=by
 cases y with
 |non=>cases r;rfl
 |bl b=>cases r;rfl
 |int i=>obtain⟨t,rfl⟩:=r;rfl
 |str z=>obtain⟨t,rfl⟩:=r;rfl
 |_=>exact absurd (show false=true from f) av
theorem qy:∀{xs:List V} {us:List ay},Vals xs us->xs.all o6=true->us.any (eqU x)=xs.any λy=>eqV y x
 |_,_,.nil,_=>rfl
 |y::xs,u::us,.cons r t,f=>by
  rw[nE,i8] at f;rw[sA,sA,Ii r f.1,qy t f.2]
theorem m9 (rx:RelV x v)(fx:o6 x=true):∀{xs:List V} {us:List ay},Vals xs us->xs.all o6=true->∀u∈us,sP A s u v (eqU x u)
 |_,_,.nil,_=>λu hu=>by cases hu
 |y::xs,u::us,.cons r t,f=>λu' hu=>by
  rw[nE,i8] at f;rcases bo.mp hu with rfl|hu
  ·rw[Ii r f.1];exact Tq r rx f.1 fx
  ·exact m9 rx fx t f.2 u' hu
def inV (x:V)(xs:List V):Bool:=xs.any λy=>eqV y x
def rIn (K:aw)(neg:Bool):R2:=λx y H Q=>∃p xs,y=.ref p/\(SqL K H p xs\/SqT K H p xs)/\o6 x=true/\xs.all o6=true/\Q (.bl<|if neg then !inV x xs else inV x xs) H
theorem wN:OpR X (cy .In) (rIn X.K false):=by
 intro π s σ H x y v u Q I rx ry h;obtain⟨p,xs,rfl,hq,fx,fs,q⟩:=h;cases ry;rcases hq with hq|hq
 ·obtain⟨χ,r,pl,hz⟩:=I.list hq;refine SeqAt.in_listAt (eqU x) pl.isList (λw hw=>m9 rx fx r fs w<|by simpa using hw) ⟨.bl _,H,I,rfl,?_⟩;rw[show χ.toArray.any (eqU x)=χ.any (eqU x) by simp,qy r fs];exact q
 ·obtain⟨χ,r,pl,hz⟩:=I.tuple hq;refine SeqAt.in_tupleAt (eqU x) pl (λw hw=>m9 rx fx r fs w<|by simpa using hw) ⟨.bl _,H,I,rfl,?_⟩;rw[show χ.toArray.any (eqU x)=χ.any (eqU x) by simp,qy r fs];exact q
theorem pN:OpR X (cy .NotIn) (rIn X.K true):=by
 intro π s σ H x y v u Q I rx ry h;obtain⟨p,xs,rfl,hq,fx,fs,q⟩:=h;cases ry;rcases hq with hq|hq
 ·obtain⟨χ,r,pl,hz⟩:=I.list hq;refine SeqAt.notIn_listAt (eqU x) pl.isList (λw hw=>m9 rx fx r fs w<|by simpa using hw) ⟨.bl _,H,I,rfl,?_⟩;rw[show χ.toArray.any (eqU x)=χ.any (eqU x) by simp,qy r fs];exact q
 ·obtain⟨χ,r,pl,hz⟩:=I.tuple hq;refine SeqAt.notIn_tupleAt (eqU x) pl (λw hw=>m9 rx fx r fs w<|by simpa using hw) ⟨.bl _,H,I,rfl,?_⟩;rw[show χ.toArray.any (eqU x)=χ.any (eqU x) by simp,qy r fs];exact q
theorem lN:gm X (.builtin "len") (λxs H Q=>∃p ys,xs=[.ref p]/\(SqL X.K H p ys\/SqT X.K H p ys)/\Q (.int ys.length) H):=by
 intro π s σ H xs us Q I r h;obtain⟨p,ys,rfl,hq,q⟩:=h;obtain⟨u,rfl,rx⟩:=vals1 r;cases rx;have hn:=uy;rcases hq with hq|hq
 ·obtain⟨χ,r',pl,hz⟩:=I.list hq;have η:=r'.length;exact Calls.call_len_list pl.isList (by simp only[a8]<;>lia) ⟨.int ys.length,H,I.tok _,⟨s.toks+1,by rw[a8,η]⟩,q⟩
 ·obtain⟨χ,r',pl,hz⟩:=I.tuple hq;have η:=r'.length;exact len_tuple pl (by simp only[a8]<;>lia) ⟨.int ys.length,H,I.tok _,⟨s.toks+1,by rw[a8,η]⟩,q⟩
theorem jg:gm X (.builtin "len") (λxs H Q=>∃z,xs=[.str z]/\z.length<=aT/\Q (.int z.length) H):=by
 intro π s σ H xs us Q I r h;obtain⟨z,rfl,hz,q⟩:=h;obtain⟨u,rfl,t,rfl⟩:=vals1 r;have hn:=uy;exact len_str (by lia) ⟨.int z.length,H,I.tok _,⟨_,rfl⟩,q⟩
theorem oW:gm X (.type "tuple") (λxs H Q=>∃p ys,xs=[.ref p]/\((SqL X.K H p ys/\∀l,H l=none->Q (.ref l) (upd H l<|.tup ys))\/(SqT X.K H p ys/\Q (.ref p) H))):=by
 intro π s σ H xs us Q I r h;obtain⟨p,ys,rfl,h⟩:=h;obtain⟨u,rfl,rx⟩:=vals1 r;cases rx;rcases h with⟨hq,q⟩|⟨hq,q⟩
 ·obtain⟨χ,r',pl,hz⟩:=I.list hq;have η:=r'.length;refine call_tuple_list pl.isList (λh' kp=>?_) (by simp only[a8]<;>lia);have I1:Inv X π σ H { s with heap:=h' }:=I.kept (t':=s.toks) kp;have I2:Inv X π σ (upd H h'.objs.size<|.tup ys) { s with heap:=h'.push { cls:=.type "tuple",data:=.seq χ.toArray } }:=
   I1.laid (t':=s.toks) (λb o e=>ag _ e) (aI _) (show dH X.prog X.w _ _ _ (.tup ys) from⟨hz,χ,r',yt.new _ _⟩)
  exact⟨.ref h'.objs.size,_,I2,rfl,q _<|I1.hok.fresh<|aI _⟩
 ·obtain⟨χ,r',pl,hz⟩:=I.tuple hq;exact call_tuple_same pl ⟨.ref p,H,I,rfl,q⟩
def tyV (K:aw)(T:String)(x:V)(H:Hp):Prop:=match x with
 | .str _=>T = "str"
 | .int _=>T = "int"
 | .ref p=>(T = "list"/\∃xs,SqL K H p xs)\/(T = "tuple"/\∃o,K.lookup p=some o/\o.cls=.type "tuple"/\o.dict=none) ∨
   (T = "dict"/\((∃ι,Rd H p<|.dK ι)\/∃T ι,Rd H p<|.dT T ι))\/(T = "set"/\∃S n,H p=some (.set S n))
 |_=>False
theorem JL (I:Inv X π σ H s)(r:RelV x v)(ty:tyV X.K T x H):
  s.TypeIs v T/\∀a,v=.ref a->∃ob,s.heap.get? a=some ob/\ob.dict=none:=by
 cases x with
 |str z=>
  obtain⟨t,rfl⟩:=r;cases(show T = "str" from ty);exact⟨mT s z t,λ_ e=>nomatch e⟩
 |int i=>
  obtain⟨t,rfl⟩:=r;cases(show T = "int" from ty);exact⟨typeIs_int s i t,λ_ e=>nomatch e⟩
 |ref p=>
  cases r;rcases ty with⟨rfl,xs,hq⟩|⟨rfl,o,hk,hc,hd⟩|⟨rfl,hk⟩|⟨rfl,S,n,hk⟩
  ·obtain⟨χ,_,pl,_⟩:=I.list hq;refine⟨pl.isList.typeIs,λa e=>?_⟩;cases e;refine rZ pl λo n e c hd _=>?_;exact⟨o,e,hd⟩
  ·refine⟨⟨o,I.kIn p o hk,hc⟩,λa e=>?_⟩;cases e;exact⟨o,I.kIn _ o hk,hd⟩
  ·have z:∃o,s.heap.get? p=some o/\o.ExactDict:=by
    rcases hk with⟨ι,hk⟩|⟨_,ι,hk⟩
    ·obtain⟨_,_,_,_,o,_,_,e,ex,_⟩:=(show dH X.prog X.w H s.heap p (.dK ι) from hk.ok I.hok);exact⟨o,e,ex⟩
    ·obtain⟨_,_,_,_,o,_,_,e,ex,_⟩:=(show dH X.prog X.w H s.heap p (.dT _ ι) from hk.ok I.hok);exact⟨o,e,ex⟩
   obtain⟨o,e,ex⟩:=z;refine⟨⟨o,e,ex.1⟩,λa e2=>?_⟩;cases e2;exact⟨o,e,ex.2.1⟩
  ·refine Vj (I.hok p _ hk) λo _ _ _ e ex _=>?_;refine⟨⟨o,e,ex.1⟩,λa e2=>?_⟩;cases e2;exact⟨o,e,ex.2.1⟩
 |_=>exact gS ty
def Wb (K:aw)(T:String)(r:V->List V->Hp->VK->Prop)(to:TE):TE:=λσ H Q=>to σ H λx H1=>tyV K T x H1/\r x [] H1 Q
def tBM (K:aw)(T:String)(r:V->List V->Hp->VK->Prop)(to:TE)(t:TA):TE:=λσ H Q=>to σ H λx H1=>tyV K T x H1/\t σ H1 λxs H2=>r x xs H2 Q
variable {o e:Expr}{es:List Expr}{to:TE}{t:TA}{name:Str}{apos ρ:Pos}{T id:String}{r:V->List V->Hp->VK->Prop}
theorem Mp (pa:PlainAttrs T)(slot:Slot T name id)(hty:typeOf (.builtin id)=pure (.type "method_descriptor"))(hm:MtR X id r)(ho:PE X o to)
  (ν:hG o name X.env (eval o X.env)=eval o X.env:=by rfl) (ω:(apos.endLine==ρ.line)=true:=by rfl):PE X (.Call (.Attribute o name apos) [] [] ρ) (Wb X.K T r to):=by
 intro π s σ H Q I h;refine wpAny_Call_method0_late ν ω<|thn (ho π s σ H _ I h) λv s1 hE=>?_;refine rZ hE λx H1 I1 r1 ty q1=>?_;obtain⟨h1,h2⟩:=JL I1 r1 ty;exact⟨T,id,pa,slot,hty,h1,h2,oC rfl<|PySem.evalArgs_none<|hm π s1 σ H1 x [] v [] Q I1 r1 .nil q1⟩
theorem wH (pa:PlainAttrs T)(slot:Slot T name id)(hty:typeOf (.builtin id)=pure (.type "method_descriptor"))(hm:MtR X id r)(ho:PE X o to)(ha:PA X (e::es) t)
  (ν:hG o name X.env (eval o X.env)=eval o X.env:=by rfl)
  (ζ:((gX ρ<|ax (e::es) X.env).all (λx=>!x.1)&&(sC ρ<|l9 [] X.env).all (λx=>x.1.isSome)
   && decide ((e::es).length+([]:List rj).length+(if([]:List rj).isEmpty then 0 else 1)<30))=true:=by rfl)
  (ω:(apos.endLine==ρ.line)=true:=by rfl) (hs:ax (e::es) X.env=(false,eval e X.env)::ax es X.env:=by rfl) (hplain:(gX ρ<|ax es X.env).any (·.1)=false:=by rfl):
  PE X (.Call (.Attribute o name apos) (e::es) [] ρ) (tBM X.K T r to t):=by
 intro π s σ H Q I h;refine wpAny_Call_method_late ν ζ ω rfl<|thn (ho π s σ H _ I h) λv s1 hE=>?_;refine rZ hE λx H1 I1 r1 ty q1=>?_;obtain⟨h1,h2⟩:=JL I1 r1 ty;refine⟨T,id,pa,slot,hty,h1,h2,?_⟩;have hA:=ha ρ π s1 σ H1 _ I1 q1;rw[hs] at hA ⊢;refine oC (by show(false||(gX ρ<|ax es X.env).any (·.1))=false;rw[hplain]<;>rfl)<|Calls.evalArgs_plain ?_;exact thn hA λus s2 hE=>xq2 hE λvs H2 I2 r2 q2=>hm π s2 σ H2 x vs v us Q I2 r1 r2 q2
end
def MtM (X:Cx)(id:String)(r:V->List V->Hp->VK->Prop):Prop:=
 ∀(π:Zo) (s:aS) (σ:St) (H:Hp) (x:V) (xs:List V) (v:ay) (us:List ay) (Q:VK),Inv X π σ H s->RelV x v->Vals xs us->r x xs H Q->
  cb (cw X.prog X.w) X.A (call (.builtin id) (v::us)) (EP X π σ Q) X.xe s
theorem Vals.one:∀{x:V} {us:List ay},Vals [x] us->∃u,us=[u]/\RelV x u
 |_,_,.cons r .nil=>⟨_,rfl,r⟩
theorem Vals.zero:∀{us:List ay},Vals [] us->us=[]
 |_,.nil=>rfl
theorem Vals.dropLast (h:Vals xs us):Vals xs.dropLast us.dropLast:=by
 induction h with
 |nil=>exact .nil
 |cons r t ih=>
  cases t with
  |nil=>exact .nil
  |cons q t'=>exact .cons r ih
theorem Vals.reverse (h:Vals xs us):Vals xs.reverse us.reverse:=by
 induction h with
 |nil=>exact .nil
 |cons r t ih=>rw[kA,kA];exact Vals.append ih<|.cons r .nil
theorem Bb (l:List α):l.eraseIdx (l.length-1)=l.dropLast:=by
 induction l with
 |nil=>rfl
 |cons a r ih=>
  cases r with
  |nil=>rfl
  |cons b r=>
   have e:(a::b::r).length-1=((b::r).length-1)+1:=by
    have h1:(a::b::r).length=r.length+2:=rfl;have h2:(b::r).length=r.length+1:=rfl
    lia
   rw[e,List.eraseIdx_cons_succ,ih]
   all_goals rfl
section
variable {X:Cx}{π:Zo}{σ:St}{H:Hp}{s:aS}{l b:Addr}{xs ys zs:List V}
theorem Inv.Sw {χ its':List ay}(I:Inv X π σ H s)(hH:H l=some (.lst xs))
  (e:s.heap.get? l=some { cls:=.type "list",data:=.seq χ.toArray n }) (hf:f χ.toArray=its'.toArray) (hv:Vals ys its') (hz:ys.length<=aT):
  Inv X π σ (upd H l<|.lst ys) { s with heap:=s.heap.update l<|sR f,toks:=t' }:=by
 have q:=PySem.IsL.update e f;rw[hf] at q;refine I.write (x:=l) (e:=l) (by rw[hH];exact trivial) (.inl rfl) (λb' u hb hu=>(dP s.heap (sR f)<|kR hb).trans hu) ⟨_,q⟩ ?_;exact⟨hz,its',_,hv,q⟩
theorem Inv.Om (I:Inv X π σ H s)(hH:H l=some (.lst xs)):xs.length<=aT/\∃(χ:List ay) (n:Nat),Vals xs χ/\xs.length=χ.length/\s.heap.get? l=some { cls:=.type "list",data:=.seq χ.toArray n }:=by
 obtain⟨z,χ,n,r,e⟩:=I.hok l _ hH;exact⟨z,χ,n,r,r.length,e⟩
theorem K7 (h:n<=aT):jI n=false:=by
 unfold jI;exact decide_eq_false<|by lia
end
section
variable {X:Cx}
def Nf:V->List V->Hp->VK->Prop:=λx vs H Q=>∃l xs y,x=.ref l/\vs=[y]/\H l=some (.lst xs)/\xs.length<aT/\Q .non (upd H l<|.lst<|xs++[y])
theorem ou:MtM X "list.append" Nf:=by
 intro π s σ H x vs v us Q I rx rv h;obtain⟨l,xs,y,rfl,rfl,hH,hz,q⟩:=h;cases rx;obtain⟨u,rfl,ru⟩:=rv.one;obtain⟨z,χ,n,r,hl,e⟩:=I.Om hH;refine sT F.slot_list_append ⟨_,e,rfl⟩ F.entry_list_append (F.args_list_append_2 _ _) (PySem.list_append l χ.toArray n u (by rw[a8];lia)) ⟨e,?_⟩;refine⟨.non,_,I.Sw (its':=χ++[u]) hH e (by simp) (r.append<|.cons ru .nil) ?_,rfl,q⟩;rw[be,gc]
 lia
def Mw:V->List V->Hp->VK->Prop:=λx vs H Q=>∃l b xs zs,x=.ref l/\vs=[.ref b]/\H l=some (.lst xs)/\H b=some (.lst zs)/\xs.length+zs.length<=aT/\Q .non (upd H l<|.lst<|xs++zs)
theorem Hs:MtM X "list.extend" Mw:=by
 intro π s σ H x vs v us Q I rx rv h;obtain⟨l,b,xs,zs,rfl,rfl,hH,hB,hz,q⟩:=h;cases rx;obtain⟨u,rfl,ru⟩:=rv.one;cases ru;obtain⟨z,χ,n,r,hl,e⟩:=I.Om hH;obtain⟨z2,its2,n2,r2,hl2,e2⟩:=I.Om hB;have hsz:χ.toArray.size+its2.toArray.size<=aT:=by rw[a8,a8];lia
 have hlong:¬(!χ.toArray.isEmpty&&jI (χ.toArray.size+its2.toArray.size))=true:=by
  rw[K7 hsz,Bool.and_false];exact av
 refine sT F.slot_list_extend ⟨_,e,rfl⟩ F.entry_list_extend (F.args_list_extend_2 _ _)
  (AutoSeq1.list_extend_list_list_0 l χ.toArray n b its2.toArray n2 hlong (by rw[a8];lia)<|by lia) ⟨e,e2,?_⟩
 refine⟨.non,_,I.Sw (its':=χ++its2) hH e (by simp) (r.append r2) ?_,rfl,q⟩;rw[be]
 lia
def VH:V->List V->Hp->VK->Prop:=λx vs H Q=>∃l xs y,x=.ref l/\vs=[]/\H l=some (.lst xs)/\xs[xs.length-1]? = some y/\Q y (upd H l<|.lst xs.dropLast)
theorem Mf:MtM X "list.pop" VH:=by
 intro π s σ H x vs v us Q I rx rv h;obtain⟨l,xs,y,rfl,rfl,hH,hy,q⟩:=h;cases rx;have hus:=rv.zero;subst hus;obtain⟨z,χ,n,r,hl,e⟩:=I.Om hH;obtain⟨u,hu,ru⟩:=r.get hy;have hy':χ.toArray[χ.toArray.size-1]? = some u:=by
  show χ.toArray[χ.length-1]? = some u;rw[← pd,← hl];exact hu
 refine sT F.slot_list_pop ⟨_,e,rfl⟩ F.entry_list_pop (F.args_list_pop_1 _) (MeetsSeq.list_pop_last l χ.toArray n u hy' (by rw[a8];lia)) ⟨e,?_⟩;refine⟨y,_,I.Sw (its':=χ.dropLast) hH e ?_ r.dropLast ?_,ru,q⟩
 ·show χ.toArray.eraseIdxIfInBounds (χ.toArray.size-1)=χ.dropLast.toArray;rw[a8,List.eraseIdxIfInBounds_toArray,Bb]
 ·rw[List.length_dropLast]
  lia
end
section
variable {prog:bb}{w:cp}{A:dy}{E:Zv}{s:aS}
end
section
end
end L2
namespace Att
open PySem PySem.W PySem.Calls PyProof.Rows
theorem sX:∀(ns:List Int) (vs:List ay),WellAll P h vs (ns.map WData.int)->IntsAre vs ns:=by
 intro ns;induction ns with
 |nil=>
  intro vs w;rw[pe] at w;cases w;exact .nil
 |cons n ns ih=>
  intro vs w;rw[cE] at w;cases w with
  |cons a b=>
   cases a;exact .cons _ _<|ih _ b
theorem GZ {l:OpenLaw}(hn:l.most=some n){P:Params}{h:Heap}{args:List WData}{vals:List ay}
  (hpre:l.row.toRowW.claim.pre args=true) (hwl:WellAll P h vals args):
  ∃a vs ns,vals=[c9 a]/\args=[WData.list<|ns.map WData.int]/\h.get? a=some { cls:=.type "list",data:=.seq vs.toArray }/\IntsAre vs ns/\ns.length<=n:=by
 have hsh:WShape.hasAll [] args [.list .int]=true:=(pre_splitW hpre).1;have hc:l.pre.holds [] { args:=args }=true:=(pre_splitW hpre).2;obtain⟨d,r,rfl,h1,h2⟩:=hasAllW_cons hsh;obtain rfl:=hasAllW_nil h2;obtain⟨xs,rfl,h3⟩:=hasW_list h1;obtain⟨ns,rfl⟩:=items_int h3;have η:ns.length<=n:=by
  unfold OpenLaw.pre at hc;have h4:(WTm.not<|.lt (.lit<|.int (n:Int))<|.len<|.arg 0).holds [] { args:=[.list<|ns.map .int] }=true:=by
   have h4:=(holds_andW hc).1;rw[hn] at h4;exact h4
  have h5:=condW_of h4<|w_not<|w_lt w_lit<|w_len_list<|w_arg rfl;rw[dQ] at h5;refine Nat.le_of_not_lt λq=>?_;have q':(n:Int)<((ns.length:Nat):Int):=by lia
  first
   |(rw[decide_eq_true q'] at h5;exact absurd h5<|by decide)
   |(simp at h5;lia)
 cases hwl with
 |cons w1 w2=>
  cases w2;cases w1 with
  |list ho hall=>exact⟨_,_,ns,rfl,rfl,ho,sX ns _ hall,η⟩
theorem GX (l:OpenLaw)(args:List WData):l.row.toRowW.claim.post args (.bool true) args=true:=
 postW_of (r:=l.row.toRowW) (X:=(true==true))
  (show WShape.has [] (.bool true) .bool=true by first|rfl|decide|simp[WShape.has,WShape.arms,WShape.armsAll])
  (show(WTm.eq .res<|.lit<|.bool true).value [] { args:=args,res:=some<|.bool true,after:=args }=some (.bool<|true==true) from w_eq_bool (w_res rfl) w_lit) rfl
theorem zA {l:OpenLaw}{d:DefRec}
  (hn:l.most=some n) (hdf:d.params.defaults=[])
  (call:∀(w:cp) (s₀ s₁:aS) (mg mb:Zs) (fa:Addr) (o:Obj) (pm cd doc:ay) (a:Addr) (vs:List ay) (ns:List Int),
   Ground q loose [] XP w s₀ mg mb s₁.heap->YP w s₁.heap->
   s₁.heap.get? fa=some o->o.data=.func (docDef d.name d.params d.body d.scope pm cd doc)->s₁.heap.CodeRec cd d.name->mg d.name=some (.ref fa)->
   s₁.heap.get? a=some { cls:=.type "list",data:=.seq vs.toArray }->IntsAre vs ns->ns.length<=n->s₁.gens=#[]->
   nN (cw l.prog w) td (.call (.ref fa) ⟨[.ref a],[]⟩) (λr s'=>r=.ok (.ret<|.bool true)/\OldK s₁.heap s'.heap/\s'.os=s₁.os/\nK s'.gens) s₁):
  WalkO q loose XP YP l.row.toRowW d [] (λf vs=>va f vs):=by
 intro w s₀ s₁ mg mb G Y fa o pm cd doc dV kV ho hd hcd hD hmg hg args vals as hpre hlay hrd hwl hlo;obtain rfl:dV=.none:=Dflts.none hD hdf;obtain rfl:kV=.none:=Dflts.noKw hD;obtain⟨a,vs,ns,rfl,rfl,hobj,hints,η⟩:=GZ hn hpre hwl;refine enter_call<|kH (call w s₀ s₁ mg mb fa o pm cd doc a vs ns G Y ho (fd_plain hd) hcd hmg hobj hints η hg) λr s' hq=>?_;obtain⟨rfl,h2,h3,h4⟩:=hq;exact⟨.inl ⟨.bool true,.bool true,[],rfl,λ_=>rfl,.bool true,GX l _,λ_=>⟨List.Pairwise.nil,λ_ hm=>(nomatch hm)⟩⟩,h2,h3,h4⟩
section
variable {prog:bb}{w:cp}{A:dy}{E:Zv}{s:aS}{K:Frag}
end
end Att
namespace L2
open PySem PySem.Spec PyProof.Rows
theorem wQ:∀{vs:List ay} {ns:List Int},IntsAre vs ns->Vals (ns.map V.int) vs
 |_,_,.nil=>.nil
 |_,_,.cons n t h=>.cons ⟨t,rfl⟩<|wQ h
def Only (H:Hp):Prop:=∀b,H b=none\/∃o xs,H b=some (.frz o<|.lst xs)
theorem Js {K:aw}{s₁:aS}{vs:List ay}{ns:List Int}
  (KX:K.In s₁.heap) (hns:s₁.heap.Ns br mg) (hb:s₁.heap.Ns builtinsNs mb) (hbb:∀x:Str,x≠"__name__"->mb x=b9 x) (hlim:s₁.heap.NoLimit) (hg:s₁.gens=#[])
  (ha:s₁.heap.get? a=some { cls:=.type "list",data:=.seq vs.toArray }) (hi:IntsAre vs ns) (hl:ns.length<=aT) (hr:fZ k td)
  (F:∀base:Heap,K.In base->base.Ns br mg->b8 P w K mg base CX k fa fd [x] sp) (hbind:∀(s:aS) (u:ay),uS s fd ⟨[u],[]⟩ [(x,u)])
  (hsp:∀H:Hp,Only H->SqL K H a (ns.map V.int)->sp [.ref a] H (λv _=>v=.bl true) λ_ _ _=>False)
  (hCX:∀H e s',CX [] H s₁ (λ_ _ _=>False) e s'->False):
  nN (cw P w) td (.call (.ref fa) ⟨[.ref a],[]⟩) (λr s'=>r=.ok (.ret<|.bool true)/\OldK s₁.heap s'.heap/\s'.os=s₁.os/\nK s'.gens) s₁:=by
 have rv:=wQ hi;have lenV:=hi.length;have core:∀H:Hp,Only H->SqL K H a (ns.map V.int)->HOk P w H s₁.heap->(∀b,H b≠none->b=a)->(H a≠none->K.lookup a=none)->
   nN (cw P w) td (.call (.ref fa) ⟨[.ref a],[]⟩) (λr s'=>r=.ok (.ret<|.bool true)/\OldK s₁.heap s'.heap/\s'.os=s₁.os/\nK s'.gens) s₁:=by
  intro H hO hS hok hA hK;have base_of:∀{b:Addr} {o:Obj},s₁.heap.get? b=some o->H b=none->(yh s₁.heap H).get? b=some o:=λe n=>Mg e n;have noA:∀{b:Addr} {o:Obj} {es:Array DictEntry} {ep:Nat},s₁.heap.get? b=some o->o.data=.dict es ep->H b=none:=λ{b o es ep} e d=>by
   cases q:H b with
   |none=>rfl
   |some u=>
    have e':b=a:=hA b (by rw[q];simp);subst e';rw[ha] at e;cases e;have d':Data.seq vs.toArray _=Data.dict es ep:=d;cases d'
  have nsK:∀{b:Addr} {m:Zs},s₁.heap.Ns b m->(yh s₁.heap H).Ns b m:=λ{b m} ⟨o,es,ep,e,d,r⟩=>⟨o,es,ep,base_of e<|noA e d,d,r⟩;have hKb:K.In (yh s₁.heap H):=λb o e=>base_of (KX b o e) (by
   cases q:H b with
   |none=>rfl
   |some u=>
    have e':b=a:=hA b (by rw[q];simp);subst e';rw[hK (by rw[q];simp)] at e;cases e)
  have hM:Mod K mg (yh s₁.heap H):=⟨hKb,nsK hns,⟨mb,nsK hb,hbb⟩,let⟨mc,h1,h2⟩:=hlim;⟨mc,nsK h1,h2⟩⟩;have e0:Bp P w K mg (yh s₁.heap H) td [] s₁ H:=⟨rfl,hM,λb o e=>O6 e,Nat.le_of_eq<|HF _ _,trivial,λb hb=>absurd (show b∈([]:List Addr) from hb) (by simp),hok,.of_eq hg⟩;refine kH ((F _ hKb<|nsK hns).run td [] s₁ H ⟨[.ref a],[]⟩ [.ref a] [.ref a] _ _ hr e0 (hbind s₁<|.ref a) (.cons rfl .nil)<|hsp H hO hS) λr s' h=>?_;cases r with
  |error e=>exact(hCX H e s' h).elim
  |ok fl=>
   cases fl with
   |next=>exact gS h
   |brk=>exact gS h
   |cont=>exact gS h
   |ret u=>
    refine QJ h λv H' os bare un hok' r' q=>?_;have q':v=.bl true:=q;subst q';obtain rfl:u=qf true:=r';refine⟨rfl,OldK.of_keep λb o e=>?_,os,bare⟩;cases q:H b with
    |none=>exact un.keep b o e q (by intro z;exact absurd (show b∈([]:List Addr) from z) (by simp)) (by simp)
    |some u=>
     rcases hO b with z|⟨ob,xs,z⟩
     ·rw[q] at z;cases z
     ·have z2:=un.frzs b ob _ z;obtain⟨e1,_⟩:=hok b _ z;obtain⟨e2,_⟩:=hok' b _ z2;rw[e] at e1;cases e1;exact e2
 cases hk:K.lookup a with
 |some o=>
  have e:=KX a o hk;rw[ha] at e;cases e;refine core (λ_=>none) (λ_=>.inl rfl) (.inr ⟨_,vs.toArray,_,hk,rfl,rfl,rfl,by rw[a8,lenV];exact hl,by simpa using rv⟩) (λb u z=>by have z':(none:Option HO)=some u:=z;cases z') (λb z=>absurd rfl z) λz=>absurd rfl z
 |none=>
  refine core (λb=>if b=a then some (.frz { cls:=.type "list",data:=.seq vs.toArray }<|.lst<|ns.map V.int) else none) (λb=>?_) (.inl<|.inr ⟨{ cls:=.type "list",data:=.seq vs.toArray },if_pos rfl⟩) (λb u z=>?_) (λb z=>?_) λ_=>hk
  ·by_cases hb:b=a
   ·exact .inr ⟨_,_,if_pos hb⟩
   ·exact .inl<|if_neg hb
  ·by_cases hb:b=a
   ·have z':=(if_pos hb).symm.trans z;cases z';subst hb;exact⟨ha,by rw[dQ];exact hl,vs,_,rv,ha⟩
   ·have z':=(if_neg hb).symm.trans z;cases z'
  ·by_cases hb:b=a
   ·exact hb
   ·exact absurd (if_neg hb) z
theorem Ol {l:W.OpenLaw}{n k:Nat}{q:bb}{loose:List Str}{XP:(Zs)->Heap->Prop}{YP:cp->Heap->Prop}{d:DefRec}{K:Params->aw}{CX:cp->CXT}{sp:cp->Sp}{x:Str}
  (hn:l.most=some n) (hn2:n<=aT) (hdf:d.params.defaults=[]) (hr:fZ k td)
  (hY:∀(w:cp) (h:Heap),YP w h->(K w.params).In h)
  (F:∀(w:cp) (mg:Zs) (fa:Addr) (h:Heap),(K w.params).In h->h.Ns br mg->mg d.name=some (.ref fa)->
   ∃fd:de,(∀(s:aS) (u:ay),uS s fd ⟨[u],[]⟩ [(x,u)])/\
    ∀base:Heap,(K w.params).In base->base.Ns br mg->b8 l.prog w (K w.params) mg base (CX w) k fa fd [x] (sp w))
  (hsp:∀(w:cp) (H:Hp) (a:Addr) (ns:List Int),ns.length<=n->Only H->SqL (K w.params) H a (ns.map V.int)->sp w [.ref a] H (λv _=>v=.bl true) λ_ _ _=>False)
  (hCX:∀(w:cp) (H:Hp) (s:aS) (e:ay) (s':aS),CX w [] H s (λ_ _ _=>False) e s'->False):
  W.WalkO q loose XP YP l.row.toRowW d [] (λf vs=>va f vs):=by
 refine Att.zA hn hdf λw s₀ s₁ mg mb fa o pm cd doc a vs ns G Y ho hd hcd hmg hobj hints η hg=>?_;have KX:=hY w _ Y;obtain⟨fd,hb,hF⟩:=F w mg fa _ KX G.T.g hmg;exact Js KX G.T.g G.T.b G.T.builtins G.T.nolimit hg hobj hints (cn η hn2) hr hF hb (λH hO hS=>hsp w H a ns η hO hS) λH e s'=>hCX w H s₁ e s'
noncomputable def iD (s:Stmt):Arguments:=match s with
 | .FunctionDef _ a _ _ _ _ _ _ _ _=>a
 |_=>{ posonlyargs:=[],args:=[],vararg:=none,kwonlyargs:=[],kw_defaults:=[],kwarg:=none,defaults:=[] }
def fM (s:Stmt):List Stmt:=match s with
 | .FunctionDef _ _ b _ _ _ _ _ _ _=>b
 |_=>[]
noncomputable def aC (s:Stmt):mo:=match s with
 | .FunctionDef _ _ _ _ _ _ sc _ _ _=>sc
 |_=>{ kind:=.function,names:=[],isGenerator:=false,isCoroutine:=false }
abbrev E0:XK:=λ_ _ _=>False
structure Fun (K:aw)(x qual:Str)(st:Stmt)(f:Addr)(fd:de):Prop where
 ex:∃(oc:ay) (od:Option Addr) (kV doc pm:ay) (an:Option Addr) (cdv ct:ay) (osl:Array (Option ay)),
  fd=oT x qual (iD st) (fM st) (aC st) .none kV doc pm an cdv ct/\K.lookup f=some ⟨oc,od,.func fd,osl⟩/\ub K cdv qual=true
 kp:kC K (.ref f)=true
section
variable {P:bb}{w:cp}{K:aw}{mg:Zs}{base:Heap}
theorem Fun.binds {x qual:Str}{st:Stmt}{f:Addr}{fd:de}{ps:List Str}(F:Fun K x qual st f fd)
  (h:∀(kV doc pm:ay) (an:Option Addr) (cdv ct:ay) (us:List ay),us.length=ps.length->ua (oT x qual (iD st) (fM st) (aC st) .none kV doc pm an cdv ct) ⟨us,[]⟩=pure (ps.zip us)):Binds K fd ps []:=by
 obtain⟨oc,od,kV,doc,pm,an,cdv,ct,osl,rfl,lk,hcd⟩:=F.ex;exact .all<|h kV doc pm an cdv ct
theorem JD {x qual:Str}{st:Stmt}{f:Addr}{oc:ay}{od an:Option Addr}{osl:Array (Option ay)}{kV doc pm cdv ct:ay}(l:K.lookup f=some ⟨oc,od,.func<|oT x qual (iD st) (fM st) (aC st) .none kV doc pm an cdv ct,osl⟩)
  (c:ub K cdv qual=true) (k:kC K (.ref f)=true):Fun K x qual st f (oT x qual (iD st) (fM st) (aC st) .none kV doc pm an cdv ct):=⟨⟨oc,od,kV,doc,pm,an,cdv,ct,osl,rfl,l,c⟩,k⟩
end
section
end
def aD (H H':Hp):Prop:=∀b o,H b=some o->H' b=some o
theorem aD.refl (H:Hp):aD H H:=λ_ _ h=>h
theorem aD.trans (a:aD H H1)(b:aD H1 H2):aD H H2:=λc o h=>b c o<|a c o h
theorem aD.free (e:aD H H'){l:Addr}(h:H' l=Option.none):H l=Option.none:=by
 cases q:H l with
 |none=>rfl
 |some o=>
  rw[e l o q] at h;cases h
end L2
set_option maxHeartbeats 4000000
namespace Hd
open PySem PySem.Spec PyProof.Rows L2
abbrev St:=L2.St
theorem BR (h:n<2^k)(hk:0<k):n.log2<k:=by
 by_cases z:n=0
 ·rw[z];exact hk
 ·exact(Nat.log2_lt z).mpr h
@[irreducible] def lmM:Nat:=2^60000
@[irreducible] def lmD:Nat:=2^8900
theorem Ij:lmM=2^60000:=by unfold lmM;rfl
theorem Ca:lmD=2^8900:=by unfold lmD;rfl
theorem bits_le (h:i.natAbs<lmM):fF i<=60000:=by
 unfold fF;split
 ·exact eW _
 ·rw[Ij] at h;exact BR (k:=60000) h<|by decide
def Ub (_ j:Int):Prop:=j≠0/\j.natAbs<lmD
def J5 (i j:Int):Prop:=i.natAbs<lmM/\j.natAbs<lmM
theorem J5.ok (h:J5 i j):IntMulOk i j:=by
 have h1:=bits_le h.1;have h2:=bits_le h.2;have hb:bitsLine=134217728:=rfl;have z:pf (fF i+fF j)=false:=by
  unfold pf;refine decide_eq_false ?_
  lia
 unfold IntMulOk;rw[z]
 simp
section
theorem Oq {i:Int}(h:i.natAbs<2^62):fF i<=64:=by
 unfold fF;split
 ·exact eW _
 ·have:=BR h (by decide)
  omega
theorem Qg:OpR X (fm .Mult) (rI (λ_ j=>j.natAbs<2^62) λi j=>.int<|i*j):=opI λ_ _ _ _ _ _ _ hc q=>mul_int q<|IntMulOk.of_right<|Oq hc
theorem J9:OpR X (fm .FloorDiv) (rI Ub λi j=>.int<|i.fdiv j):=
 opI λ_ _ _ _ _ _ _ hc q=>floordiv_int hc.1 q<|.inl<|PyProof.noPylong_of_log2<|a9 (BR (k:=8900) (Ca▸hc.2)<|by decide)<|by decide
theorem N7:OpR X (fm .Mult) (rI J5 λi j=>.int<|i*j):=opI λ_ _ _ _ _ _ _ hc q=>mul_int q hc.ok
end
mutual
inductive DV (K:aw)(H:Hp):V->om->Prop where
 |non:DV K H .non .none
 |bl (b:Bool):DV K H (.bl b) (.bool b)
 |int (i:Int):DV K H (.int i) (.int i)
 |str (x:Str):DV K H (.str x) (.str x)
 |tup {a:Addr} {xs:List V} {ds:List om}:SqT K H a xs->DVs K H xs ds->DV K H (.ref a) (.tuple ds)
 |lst {a:Addr} {xs:List V} {ds:List om}:SqL K H a xs->DVs K H xs ds->DV K H (.ref a) (.list ds)
inductive DVs (K:aw)(H:Hp):List V->List om->Prop where
 |nil:DVs K H [] []
 |cons {v:V} {vs:List V} {d:om} {ds:List om}:DV K H v d->DVs K H vs ds->DVs K H (v::vs) (d::ds)
end
section
mutual
theorem DV.reads (I:Inv X π σ H s):∀{v:V} {d:om} {u:ay},DV X.K H v d->RelV v u->∃as,Reads s.heap u d as
 |_,_,u,.non,r=>by cases(show u=fT from r);exact⟨_,.none⟩
 |_,_,u,.bl b,r=>by cases(show u=qf b from r);exact⟨_,.bool b⟩
 |_,_,u,.int i,r=>by obtain⟨t,e⟩:=(show ∃t,u=rL i t from r);subst e;exact⟨_,.int i t⟩
 |_,_,u,.str x,r=>by obtain⟨t,e⟩:=(show ∃t,u=ly x t from r);subst e;exact⟨_,.str x t⟩
 |_,_,u,.tup (a:=a) h hs,r=>by
  cases(show u=c9 a from r);obtain⟨χ,rv,⟨o,ho,hc,n,hd⟩,_⟩:=I.tuple h;obtain⟨as,ra⟩:=DVs.reads I hs rv;exact⟨as,.tuple ho hc hd<|by simpa using ra⟩
 |_,_,u,.lst (a:=a) h hs,r=>by
  cases(show u=c9 a from r);obtain⟨χ,rv,⟨o,n,ho,hc,_,hd⟩,_⟩:=I.list h;obtain⟨as,ra⟩:=DVs.reads I hs rv;exact⟨a::as,.list ho hc hd<|by simpa using ra⟩
theorem DVs.reads (I:Inv X π σ H s):∀{vs:List V} {ds:List om} {us:List ay},DVs X.K H vs ds->Vals vs us->∃as,ReadsAll s.heap us ds as
 |_,_,_,.nil,.nil=>⟨[],.nil⟩
 |_,_,_,.cons h hs,.cons r rs=>by
  obtain⟨as,ra⟩:=DV.reads I h r;obtain⟨bs,rb⟩:=DVs.reads I hs rs;exact⟨as++bs,.cons ra rb⟩
end
end
section
def VG (K:aw):R2:=λx y H Q=>∃d e,DV K H x d/\DV K H y e/\gp d=true/\gp e=true/\Q (.bl<|iN d e) H
def V0 (K:aw):R2:=λx y H Q=>∃d e,DV K H x d/\DV K H y e/\gp d=true/\gp e=true/\Q (.bl<|!PyData.eqv d e) H
theorem Rm (hu:X.A.units+64<uj):OpR X (cy .Eq) (VG X.K):=by
 intro π s σ H x y v u Q I rx ry h;refine wV h λd e hd he sd se q=>?_;obtain⟨as,ra⟩:=hd.reads I rx;obtain⟨bs,rb⟩:=he.reads I ry;exact eq_dataH ra rb sd se hu<|bV I q rfl
theorem Ru (hu:X.A.units+64<uj):OpR X (cy .NotEq) (V0 X.K):=by
 intro π s σ H x y v u Q I rx ry h;refine wV h λd e hd he sd se q=>?_;obtain⟨as,ra⟩:=hd.reads I rx;obtain⟨bs,rb⟩:=he.reads I ry;exact ne_dataH ra rb sd se hu<|bV I q rfl
end
section
noncomputable def TJ:V->Option ay
 | .ty n=>some<|.type n
 | .ref a=>some<|.ref a
 |_=>none
theorem Mm (e:TJ c=some cv)(r:RelV c u):u=cv:=by
 cases c with
 |ty n=>cases e;exact r
 |ref a=>cases e;exact r
 |_=>cases e
end
section
end
def Tr (B:Heap)(e:Addr)(o:Obj)(us:Array ay)(fl:ay)(h:Heap):Prop:=
 1<us.size/\∃T q ts,h.get? e=some { o with data:=.fields (us.setIfInBounds 1<|.ref T) }/\B.get? T=none/\T≠e/\h.get? T=some q/\q.data=.fields ts/\ts[3]? = some fl
def Fy (B:Heap)(l:List Env)(e:Addr)(o:Obj)(us:Array ay)(fl:ay)(h:Heap):Prop:=B.StaysIn h/\B.get? e=none/\h.FunFrames B l/\Tr B e o us fl h
section
variable {M:Model}{A:dy}{E:Zv}{s:aS}{B:Heap}{env:Env}{l:List Env}{L e:Addr}{o:Obj}{us vs:Array ay}{Q:Unit->aS->Prop}{fl:ay}
theorem RM {head:ay}{nx:Bool}(hA:A.frames=some (env::l))(hf:env.frame=some L)(hl:s.heap.FunFrames B (env::l))(he:s.heap.get? e=some { o with data:=.fields us })(hz:1<us.size)(kb:B.StaysIn s.heap)(hn:B.get? e=none)
  (q:∀h',Fy B (env::l) e o us (rawInt L) h'->s.heap.UpToSlots h'->Q () { s with heap:=h' }):
  cb M A (do let a←frameOf env;let pl←entryPlaceOf L nx;let b←rk head a .none (rawInt L) .none pl;setField (.ref e) 1 b) Q E s:=by
 have ne:e∉(env::l).filterMap (·.frame):=λz=>by
  obtain⟨_,x,hx,nf⟩:=hl.mem z;rw[he] at hx;cases hx;exact nf us rfl
 refine af<|wpAny_frameOf_fun hA hl hf λh1 k1=>af<|wpAny_entryPlaceOf λpl hp=>?_;unfold rk newFields;refine af<|iL ?_<|hp.sizeOk5 _ _ _ _ _;have e1:=(k1.2.1 e ne).trans he;have b1:B.StaysIn h1:=λb x hb=>(k1.2.1 b λz=>by rw[(hl.mem z).1] at hb;cases hb).trans (kb b x hb);refine qS (ag _ e1) rfl hz<|q _ ?_ ?_
 all_goals
  have te:h1.objs.size≠e:=kF<|a7 e1
 ·refine⟨λb x hb=>?_,hn,hl.of_keeps λb x hb nf=>?_,hz,h1.objs.size,_,_,kK _ (ag _ e1) rfl,b1.fresh,te,(dP _ _ te.symm).trans<|bq h1 rfl,rfl,?_⟩
  ·exact(dP _ _ λz=>by rw[z,hb] at hn;cases hn).trans (ag _<|b1 b x hb)
  ·obtain⟨sl,z⟩:=k1.2.2 b x hb;exact⟨_,(dP _ _ λw=>by rw[← w,he] at hb;cases hb;exact nf us rfl).trans (ag _ z),rfl⟩
  ·rcases hp with rfl|⟨_,_,_,_,_,_,_,rfl⟩<;>simp
 ·intro b x hb nf;obtain⟨sl,z⟩:=k1.2.2 b x hb;exact⟨sl,(dP _ _ λw=>by rw[← w,he] at hb;cases hb;exact nf us rfl).trans (ag _ z)⟩
theorem V5 {a b:ay}:(us.setIfInBounds 1 a).setIfInBounds 1 b=us.setIfInBounds 1 b:=by simp
theorem JN {x:ay}(g:Fy B l e o us fl s.heap):∀T q ts,s.heap.get? T=some q->q.data=.fields ts->ts[3]? = some fl->B.get? T=none->T≠e->s.heap.get? e=some { o with data:=.fields (us.setIfInBounds 1<|.ref T) }->
  Fy B l e o us x (s.heap.update T<|nV (·.setIfInBounds 3 x))/\s.heap.UpToSlots (s.heap.update T<|nV (·.setIfInBounds 3 x)):=by
 intro T q ts hT hd h3 hb ne he;have ot:∀b,b≠T->(s.heap.update T<|nV (·.setIfInBounds 3 x)).get? b=s.heap.get? b:=λb z=>dP _ _ z.symm;have nr:∀b y,s.heap.get? b=some y->(∀vs,y.data≠.fields vs)->b≠T:=λb y z nf w=>by rw[w,hT] at z;cases z;exact nf ts hd
 obtain⟨g1,g2,g3,gz,_⟩:=g;refine⟨⟨λb y z=>(ot b λw=>by rw[w,hb] at z;cases z).trans (g1 b y z),g2,g3.of_keeps λb y z nf=>⟨y,(ot b<|nr b y z nf).trans z,rfl⟩,gz,T,_,_,(ot e ne.symm).trans he,hb,ne,kK _ hT<|Obj.isFreed_of_fields<|Obj.data_mapFields hd _,Obj.data_mapFields hd _,?_⟩,λb y z nf=>⟨y.slots,(ot b<|nr b y z nf).trans z⟩⟩
 have:=(fS.mp h3).1
 simp[this]
theorem MN (g:Fy B l e o us fl s.heap)(q:∀h',Fy B l e o us .none h'->s.heap.UpToSlots h'->Q () { s with heap:=h' }):cb M A (setFlight (.ref e) none) Q E s:=by
 obtain⟨_,_,_,z,T,y,ts,he,hb,ne,hT,hd,h3⟩:=id g;unfold setFlight;refine af<|l8 he rfl (x:=.ref T) (by simp[z]) ?_;rw[if_pos<|show(c9 T != fT)=true from by simp]
 have:=JN (x:=.none) g T y ts hT hd h3 hb ne he
 exact qS hT hd (fS.mp h3).1<|q _ this.1 this.2
theorem Pg (hA:A.frames=some (env::l))(hf:env.frame=some L)(g:Fy B (env::l) e o us .none s.heap)(q:∀h',Fy B (env::l) e o us (rawInt L) h'->s.heap.UpToSlots h'->Q () { s with heap:=h' }):cb M A (noteFrame (.ref e) env) Q E s:=by
 obtain⟨_,_,_,z,T,y,ts,he,hb,ne,hT,hd,h3⟩:=id g;unfold noteFrame;simp only[hf];refine af<|l8 he rfl (x:=.ref T) (by simp[z]) ?_;rw[if_pos<|show(c9 T != fT)=true from by simp];refine af<|l8 hT hd h3 ?_;rw[if_neg<|show ¬((fT==rawInt L)=true) from by simp[rawInt]];obtain⟨g',u'⟩:=JN (x:=.none) g T y ts hT hd h3 hb ne he;refine af<|qS hT hd (fS.mp h3).1 ?_;have he':=(dP s.heap (nV (·.setIfInBounds 3 fT)) ne).trans he;refine RM (us:=us.setIfInBounds 1<|.ref T) hA hf g'.2.2.1 he' (by simpa using z) g'.1 g.2.1 λh2 g2 u2=>q h2 ?_<|u'.trans u2;obtain⟨a,b,c,z',T',r⟩:=g2;rw[V5] at r;exact⟨a,b,c,z,T',r⟩
theorem Fy.tail (g:Fy B (env::l) e o us fl h):Fy B l e o us fl h:=let⟨a,b,⟨_,_,c⟩,d⟩:=g;⟨a,b,c,d⟩
theorem Kd (hA:A.frames=some (env::l))(hf:env.frame=some L)(g:Fy B (env::l) e o us .none s.heap)(q:∀h',Fy B l e o us .none h'->s.heap.UpToSlots h'->Q () { s with heap:=h' }):cb M A (leaving env<|.ref e) Q E s:=by
 unfold leaving;exact af<|Pg hA hf g λh1 g1 u1=>MN g1 λh2 g2 u2=>q h2 g2.tail<|u1.trans u2
end
structure Fly (P:bb)(w:cp)(outer:List Env)(H:Hp)(s:aS)(e:ay)(s':aS)(ea:Addr)(ob:Obj)(us:Array ay)(B:Heap)(H':Hp):Prop where
 is:e=.ref ea
 os:s'.os=s.os
 bare:nK s'.gens
 fly:Fy B outer ea ob us .none s'.heap
 ctx:us[2]? = some .none
 keep:∀b o,s.heap.get? b=some o->H b=none->b∉frs outer->B.get? b=some o
 slot:∀b o,s.heap.get? b=some o->b∈frs outer->∃sl,s'.heap.get? b=some { o with slots:=sl }
 free:∀b o,s.heap.get? b=some o->H b=none->H' b=none
 there:∀b o,s.heap.get? b=some o->b∉frs outer->∃o',B.get? b=some o'
 tups:∀b xs,H b=some (.tup xs)->H' b=some (.tup xs)
 frzs:∀b o u,H b=some (.frz o u)->H' b=some (.frz o u)
 tbls:∀b ps,H b=some (.tbl ps)->∃more,H' b=some (.tbl (ps++more))
 hok:HOk P w H' B
 new:s.heap.get? ea=none
 nin:H' ea=none
def CX1 (P:bb)(w:cp):CXT:=λouter H s E e s'=>∃ea ob us B H',Fly P w outer H s e s' ea ob us B H'/\E ob.cls ob.dict H'
theorem LC {env:Env}{l:List Env}{L b:Addr}(hf:env.frame=some L)(h:b∈frs (env::l)):b=L\/b∈frs l:=by
 unfold frs at h;rw[ja,hf] at h;rcases bo.mp h with z|z
 ·exact .inl z
 ·exact .inr z
theorem Kl {env:Env}{l:List Env}{b:Addr}(h:b∈frs l):b∈frs (env::l):=by
 unfold frs at h ⊢;obtain⟨e,he,hf⟩:=kg.mp h;exact kg.mpr ⟨e,ah _ he,hf⟩
section
variable {P:bb}{w:cp}{K:aw}{mg:Zs}{base:Heap}{N:List Str}{qual:Str}{scope:mo}{f:Addr}{cd:ay}{A:dy}{outer:List Env}{s:aS}{H:Hp}{E:XK}
theorem aQ:Passes (CX1 P w) (uR (CX1 P w) P w K mg base N qual scope f cd A outer s H E) E:=by
 intro π σ H1 s1 e s' I h;obtain⟨ea,ob,us,B,H',F,hw⟩:=h;obtain rfl:=F.is;have nfr:∀b o,s.heap.get? b=some o->b∉frs outer->b∉frs (uR (CX1 P w) P w K mg base N qual scope f cd A outer s H E).stack:=λb o q nb hb=>by
  rcases LC (L:=s.heap.objs.size) rfl hb with z|z
  ·exact absurd (a7 q) (by rw[z];exact eL _)
  ·exact nb z
 have nx:∀b:Addr,b∉(uR (CX1 P w) P w K mg base N qual scope f cd A outer s H E).ex:=λb z=>absurd (show b∈([]:List Addr) from z) (by simp);refine Kd (B:=B) (l:=outer) (L:=s.heap.objs.size) I.ok.frames rfl F.fly λh2 x1 x2=>?_;refine⟨ea,ob,us,B,H',⟨rfl,F.os.trans I.os,F.bare,x1,F.ctx,λb o q n nb=>?_,λb o q hb=>?_,λb o q n=>?_,λb o q nb=>?_,λb xs q=>F.tups b xs<|I.base.tups b xs q,λb o u q=>F.frzs b o u<|I.base.frzs b o u q,λb ps q=>?_,F.hok,?_,F.nin⟩,hw⟩
 ·exact F.keep b o (I.base.keep b o q n nb<|nx b) (I.base.free b o q n<|nx b)<|nfr b o q nb
 ·obtain⟨sl,e1⟩:=I.base.slot b o q (I.ok.frf b hb) hb<|nx b;obtain⟨_,o',ho',hnf⟩:=I.ok.sO.mem hb;have eo:o=o':=cx<|q.symm.trans ho';obtain⟨sl1,e2⟩:=F.slot b _ e1<|Kl hb;obtain⟨sl2,e3⟩:=x2 b _ e2 λv z=>hnf v (by rw[← eo];exact z);exact⟨sl2,e3⟩
 ·obtain⟨o',e1⟩:=I.base.there b o q<|nx b;exact F.free b o' e1<|I.base.free b o q n<|nx b
 ·obtain⟨o',e1⟩:=I.base.there b o q<|nx b;exact F.there b o' e1<|nfr b o q nb
 ·obtain⟨m1,e1⟩:=I.base.tbls b ps q;obtain⟨m2,e2⟩:=F.tbls b _ e1;exact⟨m1++m2,by rw[e2,r9]⟩
 ·cases q:s.heap.get? ea with
  |none=>rfl
  |some o=>
   obtain⟨o',e1⟩:=I.base.there ea o q<|nx ea;rw[F.new] at e1;cases e1
end
theorem oZ {P:bb}{w:cp}{X:Cx}:Passes (CX1 P w) X E0:=λ_ _ _ _ _ _ _ ⟨_,_,_,_,_,_,z⟩=>z.elim
def Ua (ea:Addr)(cls:ay)(h:Heap):Prop:=∃o,h.get? ea=some o/\o.cls=cls/\∃vs,o.data=.fields vs
section
variable {X:Cx}{π:Zo}{σ:St}{H H':Hp}{s s':aS}{e:ay}{ea:Addr}{ob:Obj}{us:Array ay}{B:Heap}
end
section
variable {X:Cx}{π:Zo}{σ:St}{H H':Hp}{s s':aS}{e:ay}{ea:Addr}{ob:Obj}{us:Array ay}{B:Heap}
end
section
variable {X:Cx}{k:Nat}{f:Addr}{fd:de}{ps:List Str}{sp:Sp}{x:Str}{p pos pos':Pos}{e:Expr}{es:List Expr}{t:TA}
end
section
variable {X:Cx}{x:Str}{e₀:Expr}{np ρ pos:Pos}{te:TE}{C:Addr}{bmB:List ay}{B newId initId:String}
end
structure Fn (P:bb)(w:cp)(K:aw)(mg:Zs)(base:Heap)(k:Nat)(x:Str)(ps:List Str)(sp:Sp):Prop where
 ex:∃f fd,b8 P w K mg base (CX1 P w) k f fd ps sp/\Binds K fd ps []/\kC K (.ref f)=true/\mg x=some (.ref f)
section
theorem oX (F:Fn X.prog X.w X.K X.mg X.base k x ps sp)(hr:fZ j X.A)(ha:PA X (e::es) t)(hk:k<=j:=by decide)(hg:Gl X x:=by rfl)
  (hdb:(x==("__debug__":Str))=false:=by decide) (he:ax (e::es) X.env=(false,eval e X.env)::ax es X.env:=by rfl) (θ:(gX pos<|ax es X.env).any (·.1)=false:=by rfl):
  PE X (.Call (.Name x p) (e::es) [] pos) (Qy sp [] E0 t):=by
 refine rZ F.ex λf fd G b kp m=>?_;exact pW G (hr.mono hk) hg m kp b .nil oZ ha hdb he θ
end
section
variable {P:bb}{w:cp}{K:aw}{mg:Zs}{base:Heap}
theorem fD {x qual:Str}{st:Stmt}{f:Addr}{fd:de}{N ps:List Str}{k:Nat}{sp:Sp}(F:Fun K x qual st f fd)(S:aX N ps (aC st))(len:∀vs H Q E,sp vs H Q E->vs.length=ps.length)
  (hbody:∀(cdv:ay) (A:dy) (outer:List Env) (s:aS) (H:Hp) (vs:List V) (Q:VK) (E:XK),fZ k (A.deeper<|qB qual (aC st) s.heap.objs.size f cdv)->sp vs H Q E->
   ∃t,PSs (uR (CX1 P w) P w K mg base N qual (aC st) f cdv A outer s H E) (fM st) t/\t { nx:=λ_ H'=>Q .non H',rt:=Q } (start N vs) H):b8 P w K mg base (CX1 P w) (k+1) f fd ps sp:=by
 obtain⟨oc,od,kV,doc,pm,an,cdv,ct,osl,rfl,lk,hcd⟩:=F.ex;refine T4 lk hcd S len λA outer s H vs Q E hr hsp=>?_;obtain⟨t,h,q⟩:=hbody cdv A outer s H vs Q E hr hsp;exact⟨t,h,q⟩
end
structure Df (K:aw)(mg:Zs)(x:Str)(st:Stmt)(ps:List Str):Prop where
 ex:∃f fd,Fun K x x st f fd/\Binds K fd ps []/\mg x=some (.ref f)
theorem Df.fn {P:bb}{w:cp}{K:aw}{mg:Zs}{base:Heap}{x:Str}{st:Stmt}{ps:List Str}{k:Nat}{sp:Sp}(D:Df K mg x st ps)
  (h:∀f fd,Fun K x x st f fd->b8 P w K mg base (CX1 P w) k f fd ps sp):Fn P w K mg base k x ps sp:=by
 refine uE D.ex λf fd F b m=>?_;exact⟨f,fd,h f fd F,b,F.kp,m⟩
section
variable {prog:bb}{w:cp}{A:dy}{E:Zv}{h:Heap}{g:Array kB}{d:Drawn}{t:Nat}{os:OsState}{a C:Addr}{o:Obj}{K:aw}
end
section
variable {X:Cx}
end
end Hd
namespace L2
open PySem PySem.Spec PyProof.Rows
section
variable {κ:Type}[DecidableEq κ]
theorem KV.length (r:KV ι vs):ι.length=vs.length:=nI r
end
section
theorem U6 (ok:HOk P w H h)(e:Rd H a u):dH P w H h a u:=e.ok ok
theorem Vm (ok:HOk P w H h)(e:Rd H a (.dK ι)):ι.length<=aT/\(a==qh)=false/\∃vs,KV ι vs/\h.DictOf (qF P w) a vs:=
 show dH P w H h a (.dK ι) from U6 ok e
end
section
variable {X:Cx}{π:Zo}{σ:St}{H:Hp}{s:aS}{a:Addr}{y v:V}{u r:ay}{o:Option V}{A:dy}{E:Zv}
end
section
theorem Ui (I:Inv X π σ H s)(e:Rd H a (.dK ι))(h:∀t s',Inv X π σ H s'->Q (.int ι.length t) s'):cb (cw X.prog X.w) A (call (.builtin "len") [.ref a]) Q E s:=by
 obtain⟨z,hd,vs,rel,dd⟩:=Vm I.hok e;refine call_len_dict hd dd (by rw[← rel.length];rw[sizeLine_eq] at z;lia) ?_;rw[← rel.length];exact h _ _<|I.tok _
end
section
end
section
end
section
end
section
end
section
end
section
end
section
end
section
variable {κ:Type}[DecidableEq κ]
end
end L2
namespace Hd
open PySem PySem.Spec PyProof.Rows L2
theorem bJ (h:H p=none)(o:HO):aD H (upd H p o):=λb u q=>by
 rw[aM<|ir q h];exact q
section
theorem bI (h:PE X e T)(k:∀σ H Q,T' σ H Q->T σ H Q):PE X e T':=λπ s σ H Q I q=>h π s σ H Q I<|k σ H Q q
def clA (t:TA):TA:=λσ H Q=>∃R,t σ H R/\∀xs H1,R xs H1->Q xs H1
theorem Qv (h:PA X es t):PA X es (clA t):=λpos π s σ H Q I ⟨R,hR,k⟩=>thn (h pos π s σ H R I hR) λ_ _ hE=>xq2 hE λvs H1 I1 r q=>⟨vs,H1,I1,r,k _ _ q⟩
def Vq (t:TA):TE:=λσ H Q=>t σ H λxs H1=>xs.length<=aT/\∀p H',aD H1 H'->H' p=some (.tup xs)->Q (.ref p) H'
theorem Ew (h:PA X es t):PE X (.Tuple es x1 pos) (Vq t):=
 bI (rD<|Qv h) λ_ _ _ q=>⟨_,q,λ_ _ ⟨z,k⟩=>⟨z,λp hp=>k p _ (bJ hp _) aH⟩⟩
end
abbrev cC (X:Cx)(N':List Str)(scope:mo)(cl:List (Str×Addr))(C:Addr)(sE:aS)(HE:Hp)(fp:List Addr)(π:Zo):Cx:=
 { X with N:=N',s₀:=sE,H₀:=HE,env:=compEnvC scope cl C X.env,outer:=X.stack,ex:=fp,fn:=λ_=>false,pn:=X.pn++π,xe:=λ_ _=>False }
structure CSc (sc scope:mo)(caps:List Str):Prop where
 kind:scope.kind=.function
 nocell:∀y∈scope.names,y.2≠.cell
 loc:∀y∈scope.names,y.2=.local->scope.names.lookup y.1=some .local
 free:∀y∈scope.names,y.2=.free->sc.names.lookup y.1=some .cell\/sc.names.lookup y.1=some .free
 caps:∀x∈caps,scope.names.lookup x=some .free/\(sc.names.lookup x=some .cell\/sc.names.lookup x=some .free)
theorem mem_of_lookup:∀{l:List (Str×β)} {x:Str} {k:β},l.lookup x=some k->(x,k)∈l
 |[],_,_,h=>by simp at h
 |(n,k')::r,x,k,h=>by
  rw[cc] at h;split at h
  ·rename_i e;have e':x=n:=by simpa using e
   cases h;rw[e'];exact aE
  ·exact ah _<|mem_of_lookup h
theorem pO {env:Env}:∀{names:List (Str×nS)} {x:Str},names.lookup x=some .free->
  (names.map λ(n,k)=>if(k==dS&&env.scope.kind==.function&&env.kindOf n==some .cell) then(n,hU) else(n,k)).lookup x=some .cell ∨
  (names.map λ(n,k)=>if(k==dS&&env.scope.kind==.function&&env.kindOf n==some .cell) then(n,hU) else(n,k)).lookup x=some .free
 |[],_,h=>by simp at h
 |(n,k)::r,x,h=>by
  have ih:=@pO env r x;show fA x ((if(k==dS&&env.scope.kind==.function&&env.kindOf n==some .cell)=true then(n,hU) else(n,k))::_)=_\/fA x ((if(k==dS&&env.scope.kind==.function&&env.kindOf n==some .cell)=true then(n,hU) else(n,k))::_)=_;cases hx:x==n with
  |true=>
   simp only[cc,hx] at h;cases h;by_cases hc:(dS==dS&&env.scope.kind==.function&&env.kindOf n==some .cell)=true
   ·rw[if_pos hc];simp only[cc,hx];exact .inl trivial
   ·rw[if_neg hc];simp only[cc,hx];exact .inr trivial
  |false=>
   simp only[cc,hx] at h;by_cases hc:(k==dS&&env.scope.kind==.function&&env.kindOf n==some .cell)=true
   ·rw[if_pos hc];simp only[cc,hx];exact ih h
   ·rw[if_neg hc];simp only[cc,hx];exact ih h
theorem uf {env:Env}:∀{names:List (Str×nS)} {x:Str},(∀y∈names,y.2≠.cell)->
  ((names.map λ(n,k)=>if(k==dS&&env.scope.kind==.function&&env.kindOf n==some .cell) then(n,hU) else(n,k)).lookup x=some .cell ∨
  (names.map λ(n,k)=>if(k==dS&&env.scope.kind==.function&&env.kindOf n==some .cell) then(n,hU) else(n,k)).lookup x=some .free)->names.lookup x=some .free
 |[],_,_,h=>by simp at h
 |(n,k)::r,x,hn,h=>by
  have ih:=@uf env r x λy hy=>hn y<|ah _ hy;have h':fA x ((if(k==dS&&env.scope.kind==.function&&env.kindOf n==some .cell)=true then(n,hU) else(n,k))::_)=some .cell\/fA x ((if(k==dS&&env.scope.kind==.function&&env.kindOf n==some .cell)=true then(n,hU) else(n,k))::_)=some .free:=h;have hk:k≠.cell:=hn (n,k) aE;by_cases hc:(k==dS&&env.scope.kind==.function&&env.kindOf n==some .cell)=true
  ·rw[if_pos hc] at h';have kf:k=.free:=by
    simp only[i8,beq_iff_eq] at hc;exact hc.1.1
   subst kf;cases hx:x==n with
   |true=>simp only[cc,hx]
   |false=>
    simp only[cc,hx] at h' ⊢;exact ih h'
  ·rw[if_neg hc] at h';cases hx:x==n with
   |true=>
    simp only[cc,hx] at h' ⊢;rcases h' with z|z
    ·exact absurd (cx z) hk
    ·exact z
   |false=>
    simp only[cc,hx] at h' ⊢;exact ih h'
theorem pq:∀(names:List (Str×nS)) (acc:List (Str×Addr)),(∀y∈names,y.2=.free->∃c,env.cells.lookup y.1=some c)->
  ∃cl,(forIn names acc λ(y:Str×nS) (cs:List (Str×Addr))=>(if y.2==.free then do let c←cellOf env y.1;pure (ma ((y.1,c)::cs)) else pure (ma cs):Sem (ForInStep<|List<|Str×Addr)))=pure cl/\
   (∀x c,cl.lookup x=some c->acc.lookup x=some c\/env.cells.lookup x=some c)/\(∀x c,acc.lookup x=some c->∃c',cl.lookup x=some c')/\∀y∈names,y.2=.free->∃c,cl.lookup y.1=some c
 |[],acc,_=>⟨acc,rfl,λ_ _ e=>.inl e,λ_ c e=>⟨c,e⟩,λ_ z=>nomatch z⟩
 |(n,k)::r,acc,h=>by
  have hr:∀y∈r,y.2=.free->∃c,env.cells.lookup y.1=some c:=λy hy=>h y<|ah _ hy;by_cases hk:(k==dS)=true
  ·obtain⟨c,hc⟩:=h (n,k) aE (by simpa using hk);refine o4 (pq r ((n,c)::acc) hr) λcl e h1 h2 h3=>?_;refine⟨cl,?_,λx d q=>?_,λx d q=>?_,λy hy q=>?_⟩
   ·have ec:cellOf env n=pure c:=by unfold cellOf;rw[show env.cells.lookup n=some c from hc]
    rw[List.forIn_cons];simp only[hk,if_true,ec,pure_bind];exact e
   ·rcases h1 x d q with z|z
    ·rw[cc] at z;split at z
     ·rename_i e1;have e1':x=n:=by simpa using e1
      cases z;rw[e1'];exact .inr hc
     ·exact .inl z
    ·exact .inr z
   ·by_cases e1:(x==n)=true
    ·exact h2 x c<|by rw[cc,e1]
    ·exact h2 x d (by rw[cc];simp only[Bool.not_eq_true] at e1;rw[e1];exact q)
   ·rcases bo.mp hy with z|z
    ·subst z;exact h2 n c (by rw[cc];simp)
    ·exact h3 y z q
  ·refine o4 (pq r acc hr) λcl e h1 h2 h3=>?_;refine⟨cl,?_,h1,h2,λy hy q=>?_⟩
   ·rw[List.forIn_cons];simp only[hk,if_false,pure_bind,mE];exact e
   ·rcases bo.mp hy with z|z
    ·subst z;exact absurd (show(k==dS)=true by simpa using q) hk
    ·exact h3 y z q
theorem sG (h:∀y∈scope.names,y.2=.free->∃c,env.cells.lookup y.1=some c):
  ∃cl,closureFor scope env=pure cl/\(∀x c,cl.lookup x=some c->env.cells.lookup x=some c)/\∀y∈scope.names,y.2=.free->∃c,cl.lookup y.1=some c:=by
 refine o4 (pq scope.names [] h) λcl e h1 _ h3=>?_;refine⟨cl,?_,λx c q=>(h1 x c q).elim (λz=>by simp at z) id,h3⟩;unfold closureFor;simp only[bind_pure];refine Eq.trans ?_ e;rfl
section
variable {X:Cx}{π:Zo}{σ:St}{HE:Hp}{sE:aS}{N':List Str}{scope sc:mo}{cl:List (Str×Addr)}{fp:List Addr}{caps:List Str}
theorem Mv (I:Inv X π σ HE sE)(S:CSc sc scope caps)(hfp:∀b∈fp,sV X π HE b/\b<sE.heap.objs.size)
  (hc1:∀x c,cl.lookup x=some c->X.env.cells.lookup x=some c) (hc2:∀y∈scope.names,y.2=.free->∃c,cl.lookup y.1=some c):
  (cC X N' scope cl sE.heap.objs.size sE HE fp π).Ok where
 mod:=I.ok.mod
 kind:=S.kind
 glob:=I.ok.glob
 blt:=I.ok.blt
 above:=aI _
 inj:=λx y c h1 h2=>I.ok.inj x y c (hc1 x c h1)<|hc1 y c h2
 has:=λx h=>hc2 (x,.free) (mem_of_lookup<|uf S.nocell h) rfl
 cab:=λx c h=>nomatch h
 hd:=I.ok.hd
 frames:=I.ok.frames
 stk:=.inl rfl
 exf:=λb hb=>⟨b0 (hfp b hb).2,λx c h=>(hfp b hb).1.2.2.2.2.1 x c<|hc1 x c h⟩
 bs:=I.bs
 bsz:=cn I.ok.bsz I.sz
 noex:=λb o e hb=>by
  rcases(hfp b hb).1.2.2.2.1 with z|z
  ·exact I.ok.noex b o e z
  ·exact absurd (a9 (a7 e)<|cn I.ok.bsz z)<|eL _
 exfs:=λb hb hz=>by
  rcases bo.mp (I.yG b hz) with z|z
  ·exact(hfp b hb).1.2.1 z
  ·exact(hfp b hb).1.2.2.1 z
 sO:=I.stack
 frf:=I.Dn
theorem Li {cap:List Nat}{h':Heap}(I:Inv X π σ HE sE)(S:CSc sc scope caps)(hsc:X.env.scope=sc)(hfp:∀b∈fp,sV X π HE b/\b<sE.heap.objs.size)
  (hc1:∀x c,cl.lookup x=some c->X.env.cells.lookup x=some c) (hc2:∀y∈scope.names,y.2=.free->∃c,cl.lookup y.1=some c)
  (hN:N'.drop k=caps) (hk:k<=N'.length) (hcap:h8 (λj x=>X.N[j]? = some x) cap caps) {m:Zs}
  (kp:∀b o,sE.heap.get? b=some o->h'.get? b=some o) (hns:h'.Ns sE.heap.objs.size m) (tk:Nat):
  Inv (cC X N' scope cl sE.heap.objs.size sE HE fp π) [] (eD k none++cap.map λj=>(σ[j]?).join) HE { sE with heap:=h',toks:=tk } where
 ok:=Mv I S hfp hc1 hc2
 os:=rfl
 bare:=I.bare
 base:=Un.kept kp
 loc:=by
  refine⟨m,hns,λi x v e1 e2 e3=>?_⟩;have hik:k<=i:=by
   by_cases z:k<=i
   ·exact z
   ·rw[bE (by simp;lia),c8] at e2;rw[if_pos<|by lia] at e2;cases e2
  obtain⟨j',rfl⟩:∃j',i=k+j':=⟨i-k,by lia⟩;rw[bp (by simp),ff,nX,bX] at e2;have hx:caps[j']? = some x:=by rw[← hN,gu];exact e1
  have:∀{l:List Nat} {l':List Str} {i:Nat},h8 (λj x=>X.N[j]? = some x) l l'->l'[i]? = some x->∃j,l[i]? = some j/\X.N[j]? = some x:=by
   intro l l' i p;induction p generalizing i with
   |nil=>intro z;simp at z
   |cons a _ ih=>
    intro z;cases i with
    |zero=>simp at z;subst z;exact⟨_,rfl,a⟩
    |succ i=>exact ih (by simpa using z)
  obtain⟨j,hj,hNj⟩:=this hcap hx;rw[hj] at e2;have e2':σ[j]? = some (some v):=by
   cases q:σ[j]? with
   |none=>rw[fN,q] at e2;cases e2
   |some o=>
    rw[fN,q] at e2
    have:o=some v:=cx e2
    rw[this]
  obtain⟨hxf,hxo⟩:=S.caps x<|gL hx;rw[← hsc] at hxo;obtain⟨m0,_,hl⟩:=I.loc;obtain⟨u,r,L⟩:=hl j x v hNj e2'<|hxo.elim (λz=>.inr<|.inl z) λz=>.inr<|.inr z;refine⟨u,r,.inr ⟨pO hxf,?_⟩⟩;rcases L with⟨z,_⟩|⟨_,c,hc,hcell⟩
  ·have z':X.env.scope.names.lookup x=some .local:=z;rcases hxo with q|q<;>rw[z'] at q<;>cases q
  ·obtain⟨c',hc'⟩:=hc2 (x,.free) (mem_of_lookup hxf) rfl;have e:=hc1 x c' hc';rw[hc] at e;cases e;obtain⟨o,ho,hd⟩:=hcell;exact⟨c,hc',o,kp c o ho,hd⟩
 cell:=λx c e=>by
  obtain⟨v,o,ho,hd⟩:=I.cell x c<|hc1 x c e;exact⟨v,o,kp c o ho,hd⟩
 free:=I.hok.fresh<|aI _
 freeC:=λx c e=>I.freeC x c<|hc1 x c e
 pin:=λp hp=>by
  rw[dA] at hp;refine Ff (I.pin p hp) λe n ne nf d=>?_;refine⟨kp _ _ e,n,b0<|a7 e,λz=>?_,d⟩;rcases bo.mp (I.yG p.1 z) with q|q
  ·exact ne q
  ·exact nf q
 hok:=I.hok.kept kp
 len:=by
  show(eD k none++cap.map λj=>(σ[j]?).join).length=N'.length
  have:=hcap.length
  rw[← hN,i7] at this
  simp
  lia
theorem comp_back (I:Inv X π σ HE sE)(hfp:∀b∈fp,sV X π HE b/\b<sE.heap.objs.size)
  (I':Inv (cC X N' scope cl sE.heap.objs.size sE HE fp π) p' σ' H' s'):Inv X π σ H' s':=
 I.call' (ch:=fp) I'.os I'.base I'.hok I'.bare λb hb=>⟨(hfp b hb).1.2.2.2.1,(hfp b hb).1.2.1,(hfp b hb).1.2.2.2.2.1,(hfp b hb).1.2.2.2.2.2⟩
end
theorem zg (I:Inv X π σ HE sE)(I':Inv X π σ' H' s')(hn:H' sE.heap.objs.size=none)
  (hs:mB sE.heap.objs.size s'.heap h'):Inv X π σ' H' { s' with heap:=h' }:=by
 refine I'.turned (t':=s'.toks) (λb o hb e=>(hs.2 b hb).trans e) hn (kF I.lt) (.inr I.sz) (λx c e z=>?_) λp hp z=>?_
 ·obtain⟨v,q⟩:=I.cell x c e;exact absurd q.lt (by rw[z];exact eL _)
 ·exact absurd (a7 (I.pin p hp).1) (by rw[z];exact eL _)
def Ik (X:Cx)(ifs:List Expr)(t:TT):Prop:=
 ∀(π:Zo) (s:aS) (σ:St) (H:Hp) (Q:Bool->Hp->Prop),Inv X π σ H s->t σ H Q->
  cb (cw X.prog X.w) X.A (forIn ifs true λc r=>if r=true then do let ok←isTrue c X.env (eval c X.env);pure (ma ok) else pure (ma r)) (TP X π σ Q) X.xe s
def RT:TT:=λ_ H Q=>Q true H
theorem Dt:Ik X [] RT:=λ_ _ _ H _ I q=>wpAny_tests_nil ⟨H,I,q⟩
def cSt (k:Nat)(cap:List Nat)(σ:St):St:=eD k none++cap.map λj=>(σ[j]?).join
def Ve (J:It)(k:Nat)(cap:List Nat)(g:TG)(tt:TT)(te:TE)(σ:St)(H1:Hp)(l:Addr)(Q:VK):Prop:=
 ∃W:Nat->Nat->List V->Hp->Prop,(∃m,W 0 m []<|upd H1 l<|.lst [])/\∀i m ys H,W i m ys H->
  (J.stop i H/\Q (.ref l) H)\/(J.go i H/\∀x H',J.yld i H x H'->g x (cSt k cap σ) H' λσ2 H3=>σ2.drop k=(cSt k cap σ).drop k/\tt σ2 H3 λb H4=>
   if b=true then te σ2 H4 λy H5=>H5 l=some (.lst ys)/\ys.length<aT/\∃m',m'<m/\W (i+1) m' (ys++[y]) (upd H5 l<|.lst<|ys++[y])
   else ∃m',m'<m/\W (i+1) m' ys H4)
def zr (k:Nat)(cap:List Nat)(wi:TI)(g:TG)(tt:TT)(te:TE):TE:=λσ H Q=>wi σ H λJ H1=>∀l,H1 l=none->Ve J k cap g tt te σ H1 l Q
section
theorem An (hcalm:X.calm=true)(S:CSc sc scope caps)(hsc:X.env.scope=sc)(hN:N'.drop k=caps)(hk:k<=N'.length)(hcap:h8 (λj x=>X.N[j]? = some x) cap caps)
  (hi:PI Calm X tg iter wi) (hg:∀cl C sE HE fp π,PG (cC X N' scope cl C sE HE fp π) tg g) (ht:∀cl C sE HE fp π,Ik (cC X N' scope cl C sE HE fp π) ifs tt) (he:∀cl C sE HE fp π,PE (cC X N' scope cl C sE HE fp π) elt te)
  (I:Inv X π σ H s) (h:zr k cap wi g tt te σ H Q) {cl:List (Str×Addr)} (hc1:∀x c,cl.lookup x=some c->X.env.cells.lookup x=some c) (hc2:∀y∈scope.names,y.2=.free->∃c,cl.lookup y.1=some c)
  {RR:ay->Addr->Result->aS->Prop}
  (hRR:∀l sE HE H' s' m,Inv X π σ HE sE->Inv X π σ H' s'->H' sE.heap.objs.size=none->s'.heap.Ns sE.heap.objs.size m->Q (.ref l) H'->RR (.ref l) sE.heap.objs.size (.ok .next) s'):
  cb (cw X.prog X.w) X.A (eval iter X.env) (λxv s₁=>cb (cw X.prog X.w) X.A (pyIter xv) (λit s₂=>cb (cw X.prog X.w) X.A (newList []) (λacc s₃=>
   cb (cw X.prog X.w) X.A (newFunctionEnv scope X.env.globals cl [] X.env.qual none .none<|some X.env) (λcenv s₄=>
    nN (cw X.prog X.w) X.A (.compStart (.ListComp elt [⟨tg,iter,ifs,0⟩] scope pos) 0 it acc { cenv with scope:=relabel scope X.env }) (RR acc cenv.locals) s₄) X.xe s₃) X.xe s₂) X.xe s₁) X.xe s:=by
 refine thn (hi π s σ H _ I h) λv s1 h1=>thn h1 λitv s2 h2=>?_;obtain⟨it,fp,tn,J,H1,e,I1,T,st1,f1,q1⟩:=h2;subst e;refine wpAny_newList ?_;have hfree:H1 s2.heap.objs.size=none:=I1.hok.fresh<|aI _;have fpl:∀b∈fp,b<s2.heap.objs.size:=λb hb=>by
  obtain⟨o,e,_⟩:=T.obj _ _ st1 b hb;exact a7 e
 generalize hE:({ s2 with heap:=s2.heap.push { cls:=.type "list",data:=.seq ([]:List ay).toArray } }:aS)=sE;have k2:∀b o,s2.heap.get? b=some o->sE.heap.get? b=some o:=λb o e=>by rw[← hE];exact ag _ e
 have szE:s2.heap.objs.size<sE.heap.objs.size:=by rw[← hE];show _<(s2.heap.push _).objs.size;rw[kD];exact i6 _
 have IE:Inv X π σ (upd H1 s2.heap.objs.size<|.lst []) sE:=by
  rw[← hE];refine I1.laid (t':=s2.toks) (λb o e=>ag _ e) (aI _) ?_;exact⟨eW _,[],0,.nil,bq _ rfl⟩
 have fE:∀b∈fp,sV X π (upd H1 s2.heap.objs.size<|.lst []) b/\b<sE.heap.objs.size:=λb hb=>
  ⟨⟨by rw[aM<|b0<|fpl b hb];exact(f1 b hb).1,(f1 b hb).2⟩,Nat.lt_trans (fpl b hb) szE⟩
 obtain⟨W,⟨m0,w0⟩,turn⟩:=q1 _ hfree;generalize hl:s2.heap.objs.size=l at *;clear hl;generalize hHE:upd H1 l (.lst [])=HE at *;refine wpAny_newFunctionEnv S.nocell (by intro y hy;simp at hy) (λh₁ hns₁ hsb₁=>?_) S.kind;have kE:∀b o,sE.heap.get? b=some o->h₁.get? b=some o:=λb o e=>(hsb₁.2 b<|b0<|a7 e).trans<|ag _ e;have I0:=Li (k:=k) (cap:=cap) (N':=N') IE S hsc fE hc1 hc2 hN hk hcap kE hns₁<|sE.toks+([]:List (Str×ay)).length;have st0:tn 0 h₁:=T.keep _ _ _ st1 λb hb o e=>kE b o<|k2 b o e;have hX:∀{H':Hp},(∀b∈fp,H' b=none)->∀b∈fp,sV (cC X N' scope cl sE.heap.objs.size sE HE fp π) [] H' b:=λhn b hb=>
  ⟨hn b hb,(I0.ok.exf b hb).1,I0.ok.exfs b hb,.inl hb,(I0.ok.exf b hb).2,λp hp=>by
   rw[dA] at hp;exact(fE b hb).1.2.2.2.2.2 p hp⟩
 have loop:∀s₃:aS,s₃={ sE with heap:=h₁,toks:=sE.toks+([]:List (Str×ay)).length }->
   nN (cw X.prog X.w) X.A (.compLoop (.ListComp elt [⟨tg,iter,ifs,0⟩] scope pos) 0 (.ref it) (.ref l)<|compEnvC scope cl sE.heap.objs.size X.env) (RR (.ref l) sE.heap.objs.size) s₃:=by
  rintro s₃ rfl;refine codeAny_loop rfl (λn s'=>∃i ys H',Inv (cC X N' scope cl sE.heap.objs.size sE HE fp π) [] (cSt k cap σ) H' s'/\tn i s'.heap/\(∀b∈fp,H' b=none)/\W i n ys H') (λn s3 hI=>?_) m0
   ⟨0,[],HE,I0,st0,λb hb=>(fE b hb).1.1,w0⟩
  refine K6 hI λi ys H3 I3 st3 fr3 w3=>?_;show cb _ X.A ((compTurn (.ListComp elt [⟨tg,iter,ifs,0⟩] scope pos) 0 (.ref it) (.ref l)<|compEnvC scope cl sE.heap.objs.size X.env).onRaise (λx=>do noteFrame x (compEnvC scope cl sE.heap.objs.size X.env);theTreesLotGoes x)) _ _ s3;refine wpAny_noted ?_;rw[compTurn_list];refine af<|wpAny_standAt<|af ?_;rcases turn i n ys H3 w3 with⟨stop,qn⟩|⟨go,step⟩
  ·refine iF (T.done (cC X N' scope cl sE.heap.objs.size sE HE fp π) rfl rfl rfl hcalm i [] s3 _ H3 (λ_ _=>False) I3 (hX fr3) st3 stop) (λr s4 ⟨hr,I4⟩=>?_) λ_ _ z=>z.elim;subst hr;obtain⟨m4,hn4,_⟩:=I4.loc;exact bg<|hRR l sE HE H3 s4 m4 IE (comp_back IE fE I4) I4.free hn4 qn
  ·refine iF (T.item (cC X N' scope cl sE.heap.objs.size sE HE fp π) rfl rfl rfl hcalm i [] s3 _ H3 (λ_ _=>False) I3 (hX fr3) st3 go) (λr s4 ⟨u,hr,h4⟩=>?_) λ_ _ z=>z.elim;subst hr;refine af<|iF h4 (λ_ s5 ⟨x,H5,I5,r5,y5,st5,fr5⟩=>?_) λ_ _ z=>z.elim;have I5':=I5.pinned (hX fr5)<|T.obj _ _ st5;refine af<|iF (hg _ _ _ _ _ _ _ s5 _ H5 x u _ I5' r5<|step x H5 y5) (λ_ s6 ⟨σ6,H6,I6,q6⟩=>?_) λ_ _ z=>z.elim;obtain⟨d6,q6⟩:=q6;have weak:∀{H7 s7},Inv (cC X N' scope cl sE.heap.objs.size sE HE fp π) ([]++o9 fp s5.heap) σ6 H7 s7->Inv (cC X N' scope cl sE.heap.objs.size sE HE fp π) ([]++o9 fp s5.heap) (cSt k cap σ) H7 s7:=λ{H7 s7} I7=>by
    refine I7.weak (I0.len.trans I7.len.symm) λj v e=>?_;by_cases z:k<=j
    ·obtain⟨j',rfl⟩:∃j',j=k+j':=⟨j-k,by lia⟩;rw[← gu] at e ⊢;rw[d6];exact e
    ·unfold cSt at e;rw[bE (by simp;lia),c8,if_pos<|by lia] at e;cases e
   have again:∀{H7:Hp} {s7:aS} {zs:List V},Inv (cC X N' scope cl sE.heap.objs.size sE HE fp π) ([]++o9 fp s5.heap) σ6 H7 s7->(∃m',m'<n/\W (i+1) m' zs H7)->
     ∃m,m<n/\∃i ys H',Inv (cC X N' scope cl sE.heap.objs.size sE HE fp π) [] (cSt k cap σ) H' s7/\tn i s7.heap/\(∀b∈fp,H' b=none)/\W i m ys H':=λ{H7 s7 zs} I7 ⟨m',hm,w7⟩=>by
    refine⟨m',hm,i+1,zs,H7,(weak I7).pR,T.keep _ _ _ st5 λb hb o e=>(I7.pin (b,o)<|cK _<|cK _<|lr hb e).1,λb hb=>?_,w7⟩;obtain⟨o,e,d⟩:=T.obj _ _ st5 b hb;exact(I7.pin (b,o)<|cK _<|cK _<|lr hb e).2.1
   refine af<|iF (ht _ _ _ _ _ _ _ s6 σ6 H6 _ I6 q6) (λb s7 ⟨H7,I7,q7⟩=>?_) λ_ _ z=>z.elim;cases b with
   |false=>
    rw[if_neg av] at q7;exact bg ⟨rfl,again I7 q7⟩
   |true=>
    rw[if_pos rfl] at q7;refine af<|af<|iF (he _ _ _ _ _ _ _ s7 σ6 H7 _ I7 q7) (λyv s8 ⟨y,H8,I8,r8,hl8,hz8,q8⟩=>?_) λ_ _ z=>z.elim;refine af (iF (ou (X:=cC X N' scope cl sE.heap.objs.size sE HE fp π) _ s8 σ6 H8 (.ref l) [y] (.ref l) [yv] (λ_ H9=>H9=upd H8 l (.lst<|ys++[y])) I8 rfl (.cons r8 .nil) ⟨l,ys,y,rfl,rfl,hl8,hz8,rfl⟩)
     (λ_ s9 ⟨_,H9,I9,_,e9⟩=>?_) λ_ _ z=>z.elim)
    subst e9;exact bg<|bg ⟨rfl,again I9 q8⟩
 exact codeAny_compStart_list (loop _ rfl)<|T.self _ 0 _ _ _ st0<|loop _ rfl
theorem Dk (sc:mo)(N' caps:List Str)(k:Nat)(cap:List Nat)(hcalm:X.calm=true)(S:CSc sc scope caps)(hcap:h8 (λj x=>X.N[j]? = some x) cap caps)
  (hi:PI Calm X tg iter wi) (hg:∀cl C sE HE fp π,PG (cC X N' scope cl C sE HE fp π) tg g) (ht:∀cl C sE HE fp π,Ik (cC X N' scope cl C sE HE fp π) ifs tt) (he:∀cl C sE HE fp π,PE (cC X N' scope cl C sE HE fp π) elt te)
  (hsc:X.env.scope=sc:=by rfl) (hN:N'.drop k=caps:=by rfl) (hk:k<=N'.length:=by decide) (hs:∀x,eT iter X.env x=pure x:=by intro _;rfl):
  PE X (.ListComp elt [⟨tg,iter,ifs,0⟩] scope pos) (zr k cap wi g tt te):=by
 intro π s σ H Q I h;obtain⟨cl,hcl,hc1,hc2⟩:=sG (scope:=scope) (env:=X.env) λy hy e=>I.ok.has y.1 (by
  have z:=S.free y hy e;rw[← hsc] at z;exact z)
 rw[eval_ListComp];refine nh (use:=none) rfl hs hcl S.kind S.loc<|An (RR:=λacc C=>compPost (cw X.prog X.w) X.A X.xe none (EP X π σ Q) acc C) hcalm S hsc hN hk hcap hi hg ht he I h hc1 hc2 ?_;intro l sE HE H' s' m IE I' hn hns q;exact⟨m,hns,λh' hs'=>⟨.ref l,H',zg IE I' hn hs',rfl,q⟩⟩
theorem Cd (sc:mo)(N' caps:List Str)(k:Nat)(cap:List Nat)(hnd:X.N.Nodup)(hi':X.N[i]? = some y)(hy:Loc X.env.scope y)(hcalm:X.calm=true)(S:CSc sc scope caps)(hcap:h8 (λj x=>X.N[j]? = some x) cap caps)
  (hi:PI Calm X tg iter wi) (hg:∀cl C sE HE fp π,PG (cC X N' scope cl C sE HE fp π) tg g) (ht:∀cl C sE HE fp π,Ik (cC X N' scope cl C sE HE fp π) ifs tt) (he:∀cl C sE HE fp π,PE (cC X N' scope cl C sE HE fp π) elt te)
  (ψ:iS (.ListComp elt [⟨tg,iter,ifs,0⟩] scope pos) (some<|.Name y py) spos.line X.env=pure true:=by rfl)
  (hsc:X.env.scope=sc:=by rfl) (hN:N'.drop k=caps:=by rfl) (hk:k<=N'.length:=by decide) (hs:∀x,eT iter X.env x=pure x:=by intro _;rfl)
  (hf:X.fn y=true\/X.env.scope.names.lookup y=some .local:=by first|exact .inl rfl|exact .inr rfl|assumption):
  PS X (.Assign [.Name y py] (.ListComp elt [⟨tg,iter,ifs,0⟩] scope pos) spos) (Pn (zr k cap wi g tt te)<|xg i):=by
 intro π s σ H D I h;obtain⟨cl,hcl,hc1,hc2⟩:=sG (scope:=scope) (env:=X.env) λy hy e=>I.ok.has y.1 (by
  have z:=S.free y hy e;rw[← hsc] at z;exact z)
 rw[exec_Assign_Name_used _ _ _ _ ψ];refine af<|wpAny_standAt<|af ?_;show cb _ X.A (do let _←comprehension (.ListComp elt [⟨tg,iter,ifs,0⟩] scope pos) scope X.env _ (newList []) false (eval iter X.env) (some<|u7 (.Name y py) X.env)) _ _ s;refine af (iF (nh (use:=some<|u7 (.Name y py) X.env) (Q:=λ_ s'=>SP X π D .next s') rfl hs hcl S.kind S.loc
  (An (RR:=λacc C=>compPost (cw X.prog X.w) X.A X.xe (some<|u7 (.Name y py) X.env) (λ_ s'=>SP X π D .next s') acc C) hcalm S hsc hN hk hcap hi hg ht he I h hc1 hc2 ?_)) (λ_ s' hq=>bg<|bg hq) λ_ _ e=>e)
 intro l sE HE H' s' m IE I' hn hns q;show cb _ X.A (u7 (.Name y py) X.env<|.ref l) _ _ _;refine wpAny_assign_Name<|wz I' hnd hi' hy (v:=.ref l) rfl (λs2 I2 hb=>?_) hf;obtain⟨a,hsb,ha⟩:=hb;have hne:sE.heap.objs.size≠a:=λz=>by
  rcases ha with e|e
  ·exact absurd IE.lt (by rw[← e,← z];exact eL _)
  ·obtain⟨v,q⟩:=IE.cell y a e;exact absurd q.lt (by rw[z];exact eL _)
 exact⟨m,hns.sameBut hsb hne,λh' hs'=>⟨_,H',zg IE I2 hn hs',q⟩⟩
end
inductive TyK (K:aw)(H:Hp):V->ay->Prop where
 |of {v:V} {t:ay}:rO K H v t->TyK K H v t
 |tup {a:Addr} {xs:List V}:SqT K H a xs->TyK K H (.ref a) (.type "tuple")
 |lst {a:Addr} {xs:List V}:SqL K H a xs->TyK K H (.ref a) (.type "list")
section
def Vk (K:aw):List V->Hp->VK->Prop:=λxs H Q=>∃x c t cv b,xs=[x,c]/\TJ c=some cv/\TyK K H x t/\t9 K t cv=some b/\Q (.bl b) H
theorem xn:gm X (.builtin "isinstance") (Vk X.K):=by
 intro π s σ H xs us Q I r h;obtain⟨x,c,t,cv,b,rfl,rc,ty,e,q⟩:=h;obtain⟨u,w',rfl,ru,rw'⟩:=vals2 r;have z:=Mm rc rw';subst z;cases ty with
 |of ty=>exact Hx I ru ty e λtk=>⟨.bl b,H,I.tok _,rfl,q⟩
 | @tup a xs hs=>
  cases(show u=c9 a from ru);obtain⟨χ,_,⟨o,h1,h2,_⟩,_⟩:=I.tuple hs;exact hW W.kitx_tuple I.kIn ⟨o,h1,h2⟩ e (λz=>nomatch z) λtk=>⟨.bl b,H,I.tok _,rfl,q⟩
 | @lst a xs hs=>
  cases(show u=c9 a from ru);obtain⟨χ,_,⟨o,n,h1,h2,_⟩,_⟩:=I.list hs;exact hW W.kitx_list I.kIn ⟨o,h1,h2⟩ e (λz=>nomatch z) λtk=>⟨.bl b,H,I.tok _,rfl,q⟩
end
theorem Rd.mono (h:Rd H a u)(g:aD H H'):Rd H' a u:=h.elim (λe=>.inl<|g _ _ e) λ⟨o,e⟩=>.inr ⟨o,g _ _ e⟩
theorem Lh {K:aw}{H H':Hp}{a:Addr}{xs:List V}(h:SqL K H a xs)(g:aD H H'):SqL K H' a xs:=h.elim (λe=>.inl<|Rd.mono e g) .inr
def SameBut (l:Addr)(H H':Hp):Prop:=∀b u,b≠l->H b=some u->H' b=some u
theorem Uw (g:aD H H'):SameBut l H H':=λb u _ e=>g b u e
theorem S5:SameBut l H (upd H l o):=λb u n e=>by rw[aM n];exact e
theorem SameBut.trans (a:SameBut l H H1)(b:SameBut l H1 H2):SameBut l H H2:=λc u n e=>b c u n<|a c u n e
theorem PX (g:SameBut l H H')(n:H l=none):aD H H':=λb u e=>g b u (λz=>by rw[z,n] at e;cases e) e
section
end
section
end
section
def rJoin (K:aw):V->List V->Hp->VK->Prop:=λx vs H Q=>∃z l zs,x=.str z/\vs=[.ref l]/\SqL K H l (zs.map V.str)/\u3 z zs=true/\Q (.str<|qk z zs) H
theorem mV:∀{zs:List Str} {us:List ay},Vals (zs.map V.str) us->∃l:List (Str×Tok),us=strValues l/\l.map (·.1)=zs
 |[],_,.nil=>⟨[],rfl,rfl⟩
 |z::zs,_,.cons r t=>by
  obtain⟨tk,rfl⟩:=r;obtain⟨l,rfl,e⟩:=mV t;exact⟨(z,tk)::l,rfl,by rw[cE,e]⟩
theorem M7 (K:aw)(hK:X.K=K:=by rfl):MtM X "str.join" (rJoin K):=by
 subst hK;intro π s σ H x vs v us Q I rx rv h;obtain⟨z,l,zs,rfl,rfl,hL,ok,q⟩:=h;obtain⟨t,rfl⟩:=rx;obtain⟨u,rfl,ru⟩:=rv.one;cases ru;obtain⟨χ,r,hp,_⟩:=I.list hL;obtain⟨ls,rfl,e⟩:=mV r;exact SC.join hp.isList e ok λt' k=>⟨.str _,H,I.tok _,⟨t',rfl⟩,q⟩
end
end Hd
namespace F
open PySem PySem.Spec PyProof.Rows L2 Hd
inductive D where
 |non|bl (b:Bool)|int (i:Int)|str (x:Str)|exc (c:Str) (ns:List Str) (ds:List D)
 |tup (xs:List D)|lst (xs:List D)
 |dct (ks:List Key) (vs:List D)|dcu (ks:List (List Kt)) (vs:List D)
  |dcf (ks:List (List Kt)) (vs:List D)
  |adr (a:Addr)
  |ins (c:Str) (ns:List Str) (vs:List D)
abbrev Xn:=Str×List Str×List D
inductive Res (α:Type) where
 |ok (a:α)|exc (c:Xn)|stuck
def Res.bind {α β:Type}(r:Res α)(f:α->Res β):Res β:=match r with
 | .ok a=>f a
 | .exc c=>.exc c
 | .stuck=>.stuck
@[simp] theorem Res.Vs {α β:Type}(a:α)(f:α->Res β):(Res.ok a).bind f=f a:=rfl
@[simp] theorem Res.Ut {α β:Type}(c:Xn)(f:α->Res β):(Res.exc c:Res α).bind f=.exc c:=rfl
@[simp] theorem Res.Rh {α β:Type}(f:α->Res β):(Res.stuck:Res α).bind f=.stuck:=rfl
def ofO {α:Type}:Option α->Res α
 |some a=>.ok a
 |none=>.stuck
@[simp] theorem Vf {α:Type}(a:α):ofO (some a)=.ok a:=rfl
@[simp] theorem Uu {α:Type}:ofO (none:Option α)=.stuck:=rfl
structure Gx where
 K:aw
 mg:Zs
abbrev gx (X:Cx):Gx:=⟨X.K,X.mg⟩
def VR (K:aw)(a:Addr)(xs:List V):Prop:=
 ∃(o:Obj) (χ:Array ay) (n:Nat),K.lookup a=some o/\o.cls=.type "list"/\o.dict=none/\o.data=.seq χ n/\χ.size<=aT/\Vals xs χ.toList
def LstAt (K:aw)(O:Za)(H:Hp)(a:Addr)(xs:List V):Prop:=(¬O a/\Rd H a (.lst xs))\/VR K a xs
def XO (H:Hp)(od:Option Addr)(fs:List (Str×V)):Prop:=(fs=[]/\od=none)\/∃dx q,od=some dx/\H dx=some (.frz q<|.xd fs)
mutual
inductive DV (G:Gx)(O:Za)(H:Hp):V->D->Prop where
 |non:DV G O H .non .non
 |bl (b:Bool):DV G O H (.bl b) (.bl b)
 |int (i:Int):DV G O H (.int i) (.int i)
 |str (x:Str):DV G O H (.str x) (.str x)
 |adr (a:Addr):DV G O H (.ref a) (.adr a)
 |ins {a C dx:Addr} {c:Str} {ι:List (Str×V)} {ns:List Str} {vs:List V} {ds:List D}:¬O a->G.mg c=some (.ref C)->H a=some (.ins C dx ι)->ι.map (·.1)=ns->ι.map (·.2)=vs->DVs G O H vs ds->DV G O H (.ref a) (.ins c ns ds)
 |exc {a C:Addr} {c:Str} {ox:Obj} {fs:List (Str×V)} {ns:List Str} {vs:List V} {ds:List D}:G.mg c=some (.ref C)->H a=some (.frz ox (.ext (Ua a (.ref C))))->XO H ox.dict fs->fs.map (·.1)=ns->fs.map (·.2)=vs->DVs G O H vs ds->DV G O H (.ref a) (.exc c ns ds)
 |tup {a:Addr} {xs:List V} {ds:List D}:SqU G.K H a xs->DVs G O H xs ds->DV G O H (.ref a) (.tup ds)
 |lst {a:Addr} {xs:List V} {ds:List D}:LstAt G.K O H a xs->DVs G O H xs ds->DV G O H (.ref a) (.lst ds)
 |dct {a:Addr} {ι:List (Key×V)} {ks:List Key} {vs:List V} {ds:List D}:¬O a->Rd H a (.dK ι)->ι.map (·.1)=ks->ι.map (·.2)=vs->DVs G O H vs ds->DV G O H (.ref a) (.dct ks ds)
 |dcu {a:Addr} {ι:List (List Kt×V)} {ks:List (List Kt)} {vs:List V} {ds:List D}:¬O a->H a=some (.dT (KTp G.K) ι)->ι.map (·.1)=ks->ι.map (·.2)=vs->DVs G O H vs ds->DV G O H (.ref a) (.dcu ks ds)
 |dcf {a:Addr} {o:Obj} {ι:List (List Kt×V)} {ks:List (List Kt)} {vs:List V} {ds:List D}:H a=some (.frz o (.dT (KTp G.K) ι))->ι.map (·.1)=ks->ι.map (·.2)=vs->DVs G O H vs ds->DV G O H (.ref a) (.dcf ks ds)
inductive DVs (G:Gx)(O:Za)(H:Hp):List V->List D->Prop where
 |nil:DVs G O H [] []
 |cons {v:V} {vs:List V} {d:D} {ds:List D}:DV G O H v d->DVs G O H vs ds->DVs G O H (v::vs) (d::ds)
end
def XP (G:Gx)(H:Hp)(c:Xn)(C:Addr×Option Addr):Prop:=G.mg c.1=some (.ref C.1)/\∃fs vs,XO H C.2 fs/\fs.map (·.1)=c.2.1/\fs.map (·.2)=vs/\∀O,DVs G O H vs c.2.2
def OV (G:Gx)(O:Za)(H:Hp)(a:Addr):D->Prop
 | .lst ds=>∃xs,H a=some (.lst xs)/\DVs G O H xs ds
 | .dct ks ds=>∃ι vs,H a=some (.dK ι)/\ι.map (·.1)=ks/\ι.map (·.2)=vs/\DVs G O H vs ds
 | .dcu ks ds=>∃ι vs,H a=some (.dT (KTp G.K) ι)/\ι.map (·.1)=ks/\ι.map (·.2)=vs/\DVs G O H vs ds
 | .ins c ns ds=>∃C dx ι vs,G.mg c=some (.ref C)/\H a=some (.ins C dx ι)/\ι.map (·.1)=ns/\ι.map (·.2)=vs/\DVs G O H vs ds
 |_=>False
def DW (G:Gx)(O:Za)(H:Hp)(v:V)(d:D):Prop:=DV G O H v d\/∃a,v=.ref a/\O a/\OV G O H a d
inductive DWs (G:Gx)(O:Za)(H:Hp):List V->List D->Prop where
 |nil:DWs G O H [] []
 |cons {v:V} {vs:List V} {d:D} {ds:List D}:DW G O H v d->DWs G O H vs ds->DWs G O H (v::vs) (d::ds)
def cj (o:Option HO):Prop:=(∃xs,o=some (.lst xs))\/(∃k,o=some (.dK k))\/(∃k:(Addr->List V->Prop)×List (List Kt×V),o=some (.dT k.1 k.2))\/∃k:Addr×Addr×List (Str×V),o=some (.ins k.1 k.2.1 k.2.2)
def Kp (O:Za)(H H':Hp):Prop:=∀b o,H b=some o->¬O b->H' b=some o
theorem Qs {O:Za}{H H':Hp}{a:Addr}{u:HO}(g:Kp O H H')(n:¬O a)(e:Rd H a u):Rd H' a u:=e.imp (λe=>g _ _ e n) λ⟨o,e⟩=>⟨o,g _ _ e n⟩
theorem TQ {H H':Hp}{a:Addr}{u:HO}(g:aD H H')(e:Rd H a u):Rd H' a u:=e.imp (g _ _) λ⟨o,e⟩=>⟨o,g _ _ e⟩
theorem QS {H:Hp}{a:Addr}{u:HO}(e:Rd H a u)(z:H a=none):False:=by rcases e with e|⟨_,e⟩<;>(rw[z] at e;cases e)
theorem Kp.of {O:Za}{H H':Hp}(g:aD H H'):Kp O H H':=λb o e _=>g b o e
theorem jf {O:Za}{H:Hp}(m:∀b,O b->cj (H b)){a:Addr}{o:HO}(e:H a=some o)(n:¬cj (some o)):¬O a:=λz=>n<|e▸m a z
theorem Ga {xs:List V}:¬cj (some<|.tup xs):=by rintro(⟨_,e⟩|⟨_,e⟩|⟨_,e⟩|⟨_,e⟩)<;>cases e
theorem lE {o:Obj}{u:HO}:¬cj (some<|.frz o u):=by rintro(⟨_,e⟩|⟨_,e⟩|⟨_,e⟩|⟨_,e⟩)<;>cases e
theorem Rb {K:aw}{O:Za}{H H':Hp}{a:Addr}{xs:List V}(m:∀b,O b->cj (H b))(g:Kp O H H')(h:SqT K H a xs):SqT K H' a xs:=by
 rcases h with(e|⟨o,e⟩)|h
 ·exact .inl<|.inl<|g a _ e<|jf m e Ga
 ·exact .inl<|.inr ⟨o,g a _ e<|jf m e lE⟩
 ·exact .inr h
theorem Iv {K:aw}{O:Za}{H H':Hp}{a:Addr}{xs:List V}(m:∀b,O b->cj (H b))(g:Kp O H H')(h:SqU K H a xs):SqU K H' a xs:=by
 rcases h with e|h
 ·exact .inl<|g a _ e<|jf m e Ga
 ·exact .inr h
theorem Jy {K:aw}{H H':Hp}{a:Addr}{xs:List V}(h:SqU K H a xs)(g:aD H H'):SqU K H' a xs:=h.imp (g _ _) id
theorem ql {K:aw}{O:Za}{H H':Hp}{a:Addr}{xs:List V}(g:Kp O H H')(h:LstAt K O H a xs):LstAt K O H' a xs:=by
 rcases h with⟨n,e|⟨o,e⟩⟩|h
 ·exact .inl ⟨n,.inl<|g a _ e n⟩
 ·exact .inl ⟨n,.inr ⟨o,g a _ e n⟩⟩
 ·exact .inr h
theorem LstAt.sq {K:aw}{O:Za}{H:Hp}{a:Addr}{xs:List V}(h:LstAt K O H a xs):SqL K H a xs:=h.elim (λz=>.inl z.2) .inr
section
variable {G:Gx}{O O':Za}{H H':Hp}
mutual
theorem DV.kp (m:∀b,O b->cj (H b))(g:Kp O H H'):∀{v:V} {d:D},DV G O H v d->DV G O H' v d
 |_,_,.non=>.non
 |_,_,.bl b=>.bl b
 |_,_,.int i=>.int i
 |_,_,.str x=>.str x
 |_,_,.adr a=>.adr a
 |_,_,.exc h e x a b hs=>.exc h (g _ _ e<|jf m e lE) (x.imp id λ⟨d,q,z,y⟩=>⟨d,q,z,g _ _ y<|jf m y lE⟩) a b<|DVs.kp m g hs
 |_,_,.tup h hs=>.tup (Iv m g h)<|DVs.kp m g hs
 |_,_,.lst h hs=>.lst (ql g h)<|DVs.kp m g hs
 |_,_,.dct n e a b hs=>.dct n (Qs g n e) a b<|DVs.kp m g hs
 |_,_,.dcu n e a b hs=>.dcu n (g _ _ e n) a b<|DVs.kp m g hs
 |_,_,.dcf e a b hs=>.dcf (g _ _ e<|jf m e lE) a b<|DVs.kp m g hs
 |_,_,.ins n c e a b hs=>.ins n c (g _ _ e n) a b<|DVs.kp m g hs
theorem DVs.kp (m:∀b,O b->cj (H b))(g:Kp O H H'):∀{vs:List V} {ds:List D},DVs G O H vs ds->DVs G O H' vs ds
 |_,_,.nil=>.nil
 |_,_,.cons h hs=>.cons (DV.kp m g h)<|DVs.kp m g hs
end
mutual
theorem DV.mono (g:aD H H'):∀{v:V} {d:D},DV G O H v d->DV G O H' v d
 |_,_,.non=>.non
 |_,_,.bl b=>.bl b
 |_,_,.int i=>.int i
 |_,_,.str x=>.str x
 |_,_,.adr a=>.adr a
 |_,_,.exc h e x a b hs=>.exc h (g _ _ e) (x.imp id λ⟨d,q,z,y⟩=>⟨d,q,z,g _ _ y⟩) a b<|DVs.mono g hs
 |_,_,.tup h hs=>.tup (Jy h g)<|DVs.mono g hs
 |_,_,.lst h hs=>.lst (ql (.of g) h)<|DVs.mono g hs
 |_,_,.dct n e a b hs=>.dct n (TQ g e) a b<|DVs.mono g hs
 |_,_,.dcu n e a b hs=>.dcu n (g _ _ e) a b<|DVs.mono g hs
 |_,_,.dcf e a b hs=>.dcf (g _ _ e) a b<|DVs.mono g hs
 |_,_,.ins n c e a b hs=>.ins n c (g _ _ e) a b<|DVs.mono g hs
theorem DVs.mono (g:aD H H'):∀{vs:List V} {ds:List D},DVs G O H vs ds->DVs G O H' vs ds
 |_,_,.nil=>.nil
 |_,_,.cons h hs=>.cons (DV.mono g h)<|DVs.mono g hs
end
mutual
theorem DV.bZ (s:∀b,O' b->O b\/H b=none):∀{v:V} {d:D},DV G O H v d->DV G O' H v d
 |_,_,.non=>.non
 |_,_,.bl b=>.bl b
 |_,_,.int i=>.int i
 |_,_,.str x=>.str x
 |_,_,.adr a=>.adr a
 |_,_,.exc h e x a b hs=>.exc h e x a b<|DVs.bZ s hs
 |_,_,.tup h hs=>.tup h<|DVs.bZ s hs
 |_,_,.lst h hs=>.lst (h.elim (λz=>.inl ⟨λo=>(s _ o).elim z.1 λn=>by rcases z.2 with e|⟨_,e⟩<;>(rw[n] at e;cases e),z.2⟩) .inr) (DVs.bZ s hs)
 |_,_,.dct n e a b hs=>.dct (λo=>(s _ o).elim n λz=>QS e z) e a b<|DVs.bZ s hs
 |_,_,.dcu n e a b hs=>.dcu (λo=>(s _ o).elim n λz=>by rw[z] at e;cases e) e a b (DVs.bZ s hs)
 |_,_,.dcf e a b hs=>.dcf e a b<|DVs.bZ s hs
 |_,_,.ins n c e a b hs=>.ins (λo=>(s _ o).elim n λz=>by rw[z] at e;cases e) c e a b (DVs.bZ s hs)
theorem DVs.bZ (s:∀b,O' b->O b\/H b=none):∀{vs:List V} {ds:List D},DVs G O H vs ds->DVs G O' H vs ds
 |_,_,.nil=>.nil
 |_,_,.cons h hs=>.cons (DV.bZ s h)<|DVs.bZ s hs
end
def Ev (O:Za)(H:Hp)(O':Za)(H':Hp):Prop:=(∀b,O' b->O b\/H b=none)/\Kp O H H'
mutual
theorem DV.go (m:∀b,O b->cj (H b))(g:Ev O H O' H'):∀{v:V} {d:D},DV G O H v d->DV G O' H' v d
 |_,_,.non=>.non
 |_,_,.bl b=>.bl b
 |_,_,.int i=>.int i
 |_,_,.str x=>.str x
 |_,_,.adr a=>.adr a
 |_,_,.exc h e x a b hs=>.exc h (g.2 _ _ e<|jf m e lE) (x.imp id λ⟨d,q,z,y⟩=>⟨d,q,z,g.2 _ _ y<|jf m y lE⟩) a b<|DVs.go m g hs
 |_,_,.tup h hs=>.tup (Iv m g.2 h)<|DVs.go m g hs
 |_,_,.lst h hs=>.lst (h.elim (λz=>.inl ⟨λo=>(g.1 _ o).elim z.1 λn=>by rcases z.2 with e|⟨_,e⟩<;>(rw[n] at e;cases e),(ql g.2 (.inl z):LstAt G.K O H' _ _).elim (λy=>y.2) λy=>z.2.elim (λe=>.inl<|g.2 _ _ e z.1) λ⟨o,e⟩=>.inr ⟨o,g.2 _ _ e z.1⟩⟩) .inr) (DVs.go m g hs)
 |_,_,.dct n e a b hs=>.dct (λo=>(g.1 _ o).elim n λz=>QS e z) (Qs g.2 n e) a b<|DVs.go m g hs
 |_,_,.dcu n e a b hs=>.dcu (λo=>(g.1 _ o).elim n λz=>by rw[z] at e;cases e) (g.2 _ _ e n) a b (DVs.go m g hs)
 |_,_,.dcf e a b hs=>.dcf (g.2 _ _ e<|jf m e lE) a b<|DVs.go m g hs
 |_,_,.ins n c e a b hs=>.ins (λo=>(g.1 _ o).elim n λz=>by rw[z] at e;cases e) c (g.2 _ _ e n) a b (DVs.go m g hs)
theorem DVs.go (m:∀b,O b->cj (H b))(g:Ev O H O' H'):∀{vs:List V} {ds:List D},DVs G O H vs ds->DVs G O' H' vs ds
 |_,_,.nil=>.nil
 |_,_,.cons h hs=>.cons (DV.go m g h)<|DVs.go m g hs
end
theorem OV.bZ {a:Addr}{d:D}(s:∀b,O' b->O b\/H b=none)(h:OV G O H a d):OV G O' H a d:=by
 cases d with
 |lst ds=>obtain⟨xs,e,hs⟩:=h;exact⟨xs,e,hs.bZ s⟩
 |dct ks ds=>obtain⟨k,v,e,a1,a2,hs⟩:=h;exact⟨k,v,e,a1,a2,hs.bZ s⟩
 |dcu ks ds=>obtain⟨k,v,e,a1,a2,hs⟩:=h;exact⟨k,v,e,a1,a2,hs.bZ s⟩
 |ins c ns ds=>obtain⟨C,dx,k,v,ec,e,a1,a2,hs⟩:=h;exact⟨C,dx,k,v,ec,e,a1,a2,hs.bZ s⟩
 |_=>exact h.elim
theorem OV.mono {a:Addr}{d:D}(g:aD H H')(h:OV G O H a d):OV G O H' a d:=by
 cases d with
 |lst ds=>obtain⟨xs,e,hs⟩:=h;exact⟨xs,g _ _ e,hs.mono g⟩
 |dct ks ds=>obtain⟨k,v,e,a1,a2,hs⟩:=h;exact⟨k,v,g _ _ e,a1,a2,hs.mono g⟩
 |dcu ks ds=>obtain⟨k,v,e,a1,a2,hs⟩:=h;exact⟨k,v,g _ _ e,a1,a2,hs.mono g⟩
 |ins c ns ds=>obtain⟨C,dx,k,v,ec,e,a1,a2,hs⟩:=h;exact⟨C,dx,k,v,ec,g _ _ e,a1,a2,hs.mono g⟩
 |_=>exact h.elim
theorem OV.kp {a:Addr}{d:D}(m:∀b,O b->cj (H b))(g:Kp O H H')(e':H' a=H a)(h:OV G O H a d):OV G O H' a d:=by
 cases d with
 |lst ds=>obtain⟨xs,e,hs⟩:=h;exact⟨xs,e'.trans e,hs.kp m g⟩
 |dct ks ds=>obtain⟨k,v,e,a1,a2,hs⟩:=h;exact⟨k,v,e'.trans e,a1,a2,hs.kp m g⟩
 |dcu ks ds=>obtain⟨k,v,e,a1,a2,hs⟩:=h;exact⟨k,v,e'.trans e,a1,a2,hs.kp m g⟩
 |ins c ns ds=>obtain⟨C,dx,k,v,ec,e,a1,a2,hs⟩:=h;exact⟨C,dx,k,v,ec,e'.trans e,a1,a2,hs.kp m g⟩
 |_=>exact h.elim
theorem OV.mut {a:Addr}{d:D}(h:OV G O H a d):cj (H a):=by
 cases d with
 |lst ds=>obtain⟨xs,e,hs⟩:=h;exact .inl ⟨xs,e⟩
 |dct ks ds=>obtain⟨k,v,e,_⟩:=h;exact .inr<|.inl ⟨k,e⟩
 |dcu ks ds=>obtain⟨k,v,e,_⟩:=h;exact .inr<|.inr<|.inl ⟨(_,k),e⟩
 |ins c ns ds=>obtain⟨C,dx,k,v,_,e,_⟩:=h;exact .inr<|.inr<|.inr ⟨(C,dx,k),e⟩
 |_=>exact h.elim
theorem OV.dv {a:Addr}{d:D}(n:¬O a)(h:OV G O H a d):DV G O H (.ref a) d:=by
 cases d with
 |lst ds=>obtain⟨xs,e,hs⟩:=h;exact .lst (.inl ⟨n,.inl e⟩) hs
 |dct ks ds=>obtain⟨k,v,e,a1,a2,hs⟩:=h;exact .dct n (.inl e) a1 a2 hs
 |dcu ks ds=>obtain⟨k,v,e,a1,a2,hs⟩:=h;exact .dcu n e a1 a2 hs
 |ins c ns ds=>obtain⟨C,dx,k,v,ec,e,a1,a2,hs⟩:=h;exact .ins n ec e a1 a2 hs
 |_=>exact h.elim
theorem DW.mono {v:V}{d:D}(g:aD H H')(h:DW G O H v d):DW G O H' v d:=h.elim (λz=>.inl<|z.mono g) λ⟨a,e,o,z⟩=>.inr ⟨a,e,o,z.mono g⟩
theorem DW.any {v:V}{d:D}(h:DW G O H v d):DV G (λ_=>False) H v d:=by
 rcases h with h|⟨a,e,_,h⟩
 ·exact h.bZ λ_ z=>z.elim
 ·subst e;exact(h.bZ (O':=λ_=>False) λ_ z=>z.elim).dv id
end
section
variable {G:Gx}{O:Za}{H:Hp}{v:V}
theorem u9 (h:DW G O H v .non):v=.non:=by
 rcases h with h|⟨_,_,_,h⟩
 ·cases h;rfl
 ·exact h.elim
theorem yZ {b:Bool}(h:DW G O H v (.bl b)):v=.bl b:=by
 rcases h with h|⟨_,_,_,h⟩
 ·cases h;rfl
 ·exact h.elim
theorem bQ {i:Int}(h:DW G O H v (.int i)):v=.int i:=by
 rcases h with h|⟨_,_,_,h⟩
 ·cases h;rfl
 ·exact h.elim
theorem cW {x:Str}(h:DW G O H v (.str x)):v=.str x:=by
 rcases h with h|⟨_,_,_,h⟩
 ·cases h;rfl
 ·exact h.elim
theorem qM {ds:List D}(h:DW G O H v (.tup ds)):∃a xs,v=.ref a/\SqT G.K H a xs/\DVs G O H xs ds:=by
 rcases h with h|⟨_,_,_,h⟩
 ·cases h with
  |tup h hs=>exact⟨_,_,rfl,h.sq,hs⟩
 ·exact h.elim
theorem tZ {ds:List D}(h:DW G O H v (.tup ds)):∃a xs,v=.ref a/\SqU G.K H a xs/\DVs G O H xs ds:=by
 rcases h with h|⟨_,_,_,h⟩
 ·cases h with
  |tup h hs=>exact⟨_,_,rfl,h,hs⟩
 ·exact h.elim
theorem gM {ds:List D}(h:DW G O H v (.lst ds)):∃a xs,v=.ref a/\SqL G.K H a xs/\DVs G O H xs ds:=by
 rcases h with h|⟨a,e,_,h⟩
 ·cases h with
  |lst h hs=>exact⟨_,_,rfl,h.sq,hs⟩
 ·obtain⟨xs,e',hs⟩:=h;exact⟨a,xs,e,.inl<|.inl e',hs⟩
theorem KY {ks:List Key}{ds:List D}(h:DW G O H v (.dct ks ds)):∃a ι vs,v=.ref a/\Rd H a (.dK ι)/\ι.map (·.1)=ks/\ι.map (·.2)=vs/\DVs G O H vs ds:=by
 rcases h with h|⟨a,e,_,h⟩
 ·cases h with
  |dct n e a b hs=>exact⟨_,_,_,rfl,e,a,b,hs⟩
 ·obtain⟨k,w,e',a1,a2,hs⟩:=h;exact⟨a,k,w,e,.inl e',a1,a2,hs⟩
theorem SJ {ks:List (List Kt)}{ds:List D}(h:DW G O H v (.dcu ks ds)):∃a ι vs,v=.ref a/\H a=some (.dT (KTp G.K) ι)/\ι.map (·.1)=ks/\ι.map (·.2)=vs/\DVs G O H vs ds:=by
 rcases h with h|⟨a,e,_,h⟩
 ·cases h with
  |dcu n e a b hs=>exact⟨_,_,_,rfl,e,a,b,hs⟩
 ·obtain⟨k,w,e',a1,a2,hs⟩:=h;exact⟨a,k,w,e,e',a1,a2,hs⟩
theorem bR:∀{vs:List V} {ds:List D},DVs G O H vs ds->vs.length=ds.length
 |_,_,.nil=>rfl
 |_,_,.cons _ hs=>by rw[bS,bS,bR hs]
theorem iC:∀{vs us:List V} {ds es:List D},DVs G O H vs ds->DVs G O H us es->DVs G O H (vs++us) (ds++es)
 |_,_,_,_,.nil,h=>h
 |_,_,_,_,.cons a t,h=>.cons a<|iC t h
theorem tL:∀{vs:List V} {ds:List D} {i:Nat} {x:V},DVs G O H vs ds->vs[i]? = some x->∃d,ds[i]? = some d/\DV G O H x d
 |_,_,_,_,.nil,e=>by simp at e
 |_,_,0,_,.cons a _,e=>by simp at e;subst e;exact⟨_,rfl,a⟩
 |_,_,i+1,x,.cons _ t,e=>by
  obtain⟨d,h1,h2⟩:=tL (i:=i) (x:=x) t (by simpa using e);exact⟨d,by simpa using h1,h2⟩
theorem vf:∀{vs:List V} {ds:List D} {i:Nat} {d:D},DVs G O H vs ds->ds[i]? = some d->∃x,vs[i]? = some x/\DV G O H x d
 |_,_,_,_,.nil,e=>by simp at e
 |_,_,0,_,.cons a _,e=>by simp at e;subst e;exact⟨_,rfl,a⟩
 |_,_,i+1,d,.cons _ t,e=>by
  obtain⟨x,h1,h2⟩:=vf (i:=i) (d:=d) t (by simpa using e);exact⟨x,by simpa using h1,h2⟩
theorem ue:∀{vs:List V} {ds:List D} (n:Nat),DVs G O H vs ds->DVs G O H (vs.take n) (ds.take n)
 |_,_,0,_=>by simp only[List.take_zero];exact .nil
 |_,_,_+1,.nil=>.nil
 |_,_,n+1,.cons a t=>.cons a<|ue n t
theorem zH:∀{vs:List V} {ds:List D} (n:Nat),DVs G O H vs ds->DVs G O H (vs.drop n) (ds.drop n)
 |_,_,0,h=>h
 |_,_,_+1,.nil=>.nil
 |_,_,n+1,.cons _ t=>zH n t
theorem Dr:∀{vs:List V} {ds:List D},DVs G O H vs ds->DVs G O H vs.reverse ds.reverse
 |_,_,.nil=>.nil
 |_,_,.cons a t=>by rw[kA,kA];exact iC (Dr t)<|.cons a .nil
theorem Dh:∀{vs:List V} {ds:List D},DVs G O H vs ds->DWs G O H vs ds
 |_,_,.nil=>.nil
 |_,_,.cons a t=>.cons (.inl a)<|Dh t
noncomputable def flat:D->Bool
 | .non|.bl _|.int _|.str _=>true
 |_=>false
end
inductive Sl where
  |un|fz (d:D)|ow (d:D)|io (d:D)|bw (d:D)
  |hd (w:Bool) (a:Addr) (d:D)
abbrev Me:=List Sl
abbrev Os:=Nat->Option Addr
def Ow (O0:Za)(ow:Os):Za:=λb=>O0 b\/∃i,ow i=some b
def Op (O:Za)(p:Addr):Za:=λb=>O b\/b=p
noncomputable def owS (ow:Os)(i:Nat)(x:Option Addr):Os:=λj=>if j=i then x else ow j
theorem eO {ow:Os}{i:Nat}{x:Option Addr}:owS ow i x i=x:=by unfold owS;rw[if_pos rfl]
theorem eZ {ow:Os}{i j:Nat}{x:Option Addr}(h:j≠i):owS ow i x j=ow j:=by unfold owS;rw[if_neg h]
def zy (G:Gx)(O M0:Za)(H0:Hp)(oi:Option Addr)(v:Option (Option V))(H:Hp):Sl->Prop
 | .un=>oi=none
 | .fz d=>oi=none/\∃x,v=some (some x)/\DV G O H x d
 | .ow d=>∃a,oi=some a/\H0 a=none/\v=some (some<|.ref a)/\OV G O H a d
 | .io d=>∃a,oi=some a/\M0 a/\v=some (some<|.ref a)/\OV G O H a d
 | .bw d=>oi=none/\∃x,v=some (some x)/\DW G O H x d
 | .hd w a d=>oi=some a/\(w=true->H0 a=none)/\(w=false->M0 a)/\OV G O H a d
structure Rel (G:Gx)(O0 M0:Za)(H0:Hp)(ow:Os)(σ:L2.St)(H:Hp)(m:Me):Prop where
 len:σ.length=m.length
 keep:Kp M0 H0 H
 m0:∀b,M0 b->H b≠none
 mutk:∀b,Ow O0 ow b->cj (H b)
 no0:∀i a,ow i=some a->¬O0 a
 inj:∀i j a,ow i=some a->ow j=some a->i=j
 out:∀i,m.length<=i->ow i=none
 slot:∀i s,m[i]? = some s->zy G (Ow O0 ow) M0 H0 (ow i) (σ[i]?) H s
structure cM (G:Gx)(O0 M0:Za)(H0:Hp)(ow:Os)(σ:L2.St)(H:Hp)(m:Me):Prop extends Rel G O0 M0 H0 ow σ H m where
 nb:∀(j:Nat) (d:D),m[j]?≠some (Sl.bw d)
structure Go (O0:Za)(ow:Os)(H:Hp)(ow':Os)(H':Hp):Prop where
 keep:Kp (Ow O0 ow) H H'
 new:∀i a,ow' i=some a->Ow O0 ow a\/H a=none
 dom:∀b,H b≠none->H' b≠none
theorem Go.refl {O0:Za}{ow:Os}{H H':Hp}(g:aD H H'):Go O0 ow H ow H':=
 ⟨.of g,λi a e=>.inl<|.inr ⟨i,e⟩,λb n z=>by
  cases q:H b with
  |none=>exact n q
  |some o=>rw[g b o q] at z;cases z⟩
theorem Go.trans {O0:Za}{ow ow1 ow2:Os}{H H1 H2:Hp}(a:Go O0 ow H ow1 H1)(b:Go O0 ow1 H1 ow2 H2):Go O0 ow H ow2 H2 where
 keep:=λc o e n=>b.keep c o (a.keep c o e n) λz=>by
  rcases z with z|⟨i,z⟩
  ·exact n<|.inl z
  ·rcases a.new i c z with y|y
   ·exact n y
   ·rw[y] at e;cases e
 new:=λi c e=>by
  rcases b.new i c e with(z|⟨j,z⟩)|z
  ·exact .inl<|.inl z
  ·exact a.new j c z
  ·refine .inr ?_;cases q:H c with
   |none=>rfl
   |some o=>exact absurd z (a.dom c (by rw[q];simp))
 dom:=λc n=>b.dom c<|a.dom c n
theorem Go.ev {O0:Za}{ow ow':Os}{H H':Hp}(g:Go O0 ow H ow' H'):Ev (Ow O0 ow) H (Ow O0 ow') H':=
 ⟨λb z=>z.elim (λz=>.inl<|.inl z) λ⟨i,e⟩=>g.new i b e,g.keep⟩
theorem qe (O:Za):Ow O (λ_=>none)=O:=by
 funext b;exact propext ⟨λz=>z.elim id λ⟨_,e⟩=>(by cases e),ar⟩
section
variable {G:Gx}{O0 M0:Za}{H0 H H':Hp}{ow:Os}{σ:L2.St}{m:Me}
theorem zy.mono {O:Za}{oi:Option Addr}{v:Option (Option V)}{s:Sl}(g:aD H H')(h:zy G O M0 H0 oi v H s):zy G O M0 H0 oi v H' s:=by
 cases s with
 |un=>exact h
 |fz d=>obtain⟨a,x,e,q⟩:=h;exact⟨a,x,e,q.mono g⟩
 |ow d=>obtain⟨a,x,e,f,q⟩:=h;exact⟨a,x,e,f,q.mono g⟩
 |io d=>obtain⟨a,x,e,f,q⟩:=h;exact⟨a,x,e,f,q.mono g⟩
 |bw d=>obtain⟨a,x,e,q⟩:=h;exact⟨a,x,e,q.mono g⟩
 |hd w a d=>obtain⟨x,e,f,q⟩:=h;exact⟨x,e,f,q.mono g⟩
theorem fJ {b:Addr}(g:aD H H')(h:cj (H b)):cj (H' b):=by
 rcases h with⟨x,e⟩|⟨x,e⟩|⟨x,e⟩|⟨x,e⟩
 ·exact .inl ⟨x,g _ _ e⟩
 ·exact .inr<|.inl ⟨x,g _ _ e⟩
 ·exact .inr<|.inr<|.inl ⟨x,g _ _ e⟩
 ·exact .inr<|.inr<|.inr ⟨x,g _ _ e⟩
theorem Rel.mono (R:Rel G O0 M0 H0 ow σ H m)(g:aD H H'):Rel G O0 M0 H0 ow σ H' m:=
 ⟨R.len,λb o e n=>g b o<|R.keep b o e n,λb z q=>R.m0 b z<|aD.free g q,λb z=>fJ g<|R.mutk b z,R.no0,R.inj,R.out,λi s e=>(R.slot i s e).mono g⟩
theorem zy.bZ {O O':Za}{oi:Option Addr}{v:Option (Option V)}{s:Sl}(sub:∀b,O' b->O b\/H b=none)(h:zy G O M0 H0 oi v H s)(hb:∀d,s=.bw d->∀b,O b->O' b\/¬O' b):zy G O' M0 H0 oi v H s:=by
 cases s with
 |un=>exact h
 |fz d=>obtain⟨a,x,e,q⟩:=h;exact⟨a,x,e,q.bZ sub⟩
 |ow d=>obtain⟨a,x,e,f,q⟩:=h;exact⟨a,x,e,f,q.bZ sub⟩
 |io d=>obtain⟨a,x,e,f,q⟩:=h;exact⟨a,x,e,f,q.bZ sub⟩
 |bw d=>
  obtain⟨a,x,e,q⟩:=h;refine⟨a,x,e,?_⟩;rcases q with q|⟨b,e1,o,q⟩
  ·exact .inl<|q.bZ sub
  ·rcases hb d rfl b o with w|w
   ·exact .inr ⟨b,e1,w,q.bZ sub⟩
   ·subst e1;exact .inl<|(q.bZ sub).dv w
 |hd w a d=>obtain⟨x,e,f,q⟩:=h;exact⟨x,e,f,q.bZ sub⟩
theorem Ow.sub {i:Nat}{b:Addr}(z:Ow O0 (owS ow i none) b):Ow O0 ow b:=by
 rcases z with z|⟨j,e⟩
 ·exact .inl z
 ·by_cases q:j=i
  ·subst q;rw[eO] at e;cases e
  ·rw[eZ q] at e;exact .inr ⟨j,e⟩
theorem yK {α:Type}{l:List α}{i:Nat}{x:α}(e:l[i]? = some x):i<l.length:=(eC.mp e).1
theorem Rel.set {i:Nat}{v:V}{d:D}(R:Rel G O0 M0 H0 ow σ H m)(h:DV G (Ow O0 ow) H v d):
  Rel G O0 M0 H0 (owS ow i none) (σ.set i<|some v) H (m.set i<|.fz d):=by
 have sub:∀b,Ow O0 (owS ow i none) b->Ow O0 ow b\/H b=none:=λb z=>.inl z.sub;refine⟨by simp[R.len],R.keep,R.m0,λb z=>R.mutk b z.sub,λj a e=>?_,λj k a e1 e2=>?_,λj hj=>?_,λj s e=>?_⟩
 ·by_cases q:j=i
  ·subst q;rw[eO] at e;cases e
  ·rw[eZ q] at e;exact R.no0 j a e
 ·by_cases q:j=i
  ·subst q;rw[eO] at e1;cases e1
  ·by_cases q':k=i
   ·subst q';rw[eO] at e2;cases e2
   ·rw[eZ q] at e1;rw[eZ q'] at e2;exact R.inj j k a e1 e2
 ·by_cases q:j=i
  ·subst q;exact eO
  ·rw[eZ q];exact R.out j<|by simpa using hj
 ·by_cases q:j=i
  ·subst q;have hj:j<m.length:=by simpa using yK e
   rw[dE hj] at e;cases e;rw[eO,dE (by rw[R.len];exact hj)];exact⟨rfl,v,rfl,h.bZ sub⟩
  ·rw[ef<|kR q] at e;rw[eZ q,ef<|kR q];exact(R.slot j s e).bZ sub λ_ _ b _=>mI _
theorem Go.set {i:Nat}:Go O0 ow H (owS ow i none) H:=
 ⟨λ_ _ e _=>e,λj a e=>.inl (by
  by_cases q:j=i
  ·subst q;rw[eO] at e;cases e
  ·rw[eZ q] at e;exact .inr ⟨j,e⟩),λ_ n=>n⟩
theorem Rel.Jt (R:Rel G O0 M0 H0 ow σ H m){p:Addr}(n:H p=none):H0 p=none:=by
 cases q:H0 p with
 |none=>rfl
 |some o=>
  by_cases z:M0 p
  ·exact absurd n<|R.m0 p z
  ·rw[R.keep p o q z] at n;cases n
theorem Rel.BJ (R:Rel G O0 M0 H0 ow σ H m){p:Addr}(n:H p=none):¬Ow O0 ow p:=λz=>by
 have:=R.mutk p z
 rw[n] at this;rcases this with⟨_,e⟩|⟨_,e⟩|⟨_,e⟩|⟨_,e⟩<;>cases e
theorem Ow.new {i:Nat}{b p:Addr}(z:Ow O0 (owS ow i<|some p) b):Ow O0 ow b\/b=p:=by
 rcases z with z|⟨j,e⟩
 ·exact .inl<|.inl z
 ·by_cases q:j=i
  ·subst q;rw[eO] at e;cases e;exact .inr rfl
  ·rw[eZ q] at e;exact .inl<|.inr ⟨j,e⟩
theorem Rel.own {i:Nat}{p:Addr}{d:D}(R:Rel G O0 M0 H0 ow σ H m)(g:aD H H')(n:H p=none)(n0:H0 p=none)(h:OV G (Op (Ow O0 ow) p) H' p d)(hi:i<m.length):
  Rel G O0 M0 H0 (owS ow i<|some p) (σ.set i<|some<|.ref p) H' (m.set i<|.ow d):=by
 have np:=R.BJ n;have sub:∀b,Ow O0 (owS ow i<|some p) b->Ow O0 ow b\/H b=none:=λb z=>z.new.elim .inl λe=>.inr (by rw[e];exact n);refine⟨by simp[R.len],(R.mono g).keep,(R.mono g).m0,λb z=>?_,λj a e=>?_,λj k a e1 e2=>?_,λj hj=>?_,λj s e=>?_⟩
 ·rcases z.new with z|z
  ·exact(R.mono g).mutk b z
  ·rw[z];exact h.mut
 ·by_cases q:j=i
  ·subst q;rw[eO] at e;cases e;exact λz=>np<|.inl z
  ·rw[eZ q] at e;exact R.no0 j a e
 ·by_cases q:j=i
  ·subst q;rw[eO] at e1;cases e1;by_cases q':k=j
   ·exact q'.symm
   ·rw[eZ q'] at e2;exact absurd (.inr ⟨k,e2⟩) np
  ·rw[eZ q] at e1;by_cases q':k=i
   ·subst q';rw[eO] at e2;cases e2;exact absurd (.inr ⟨j,e1⟩) np
   ·rw[eZ q'] at e2;exact R.inj j k a e1 e2
 ·have hj':m.length<=j:=by simpa using hj
  rw[eZ<|by omega];exact R.out j hj'
 ·by_cases q:j=i
  ·subst q;rw[dE hi] at e;cases e;rw[eO,dE (by rw[R.len];exact hi)];exact⟨p,rfl,n0,rfl,h.bZ λb z=>.inl<|z.new.elim .inl .inr⟩
  ·rw[ef<|kR q] at e;rw[eZ q,ef<|kR q];exact((R.slot j s e).bZ sub λ_ _ b _=>mI _).mono g
theorem Go.own {i:Nat}{p:Addr}(g:aD H H')(n:H p=none):Go O0 ow H (owS ow i<|some p) H':=
 ⟨.of g,λj a e=>by
  by_cases q:j=i
  ·subst q;rw[eO] at e;cases e;exact .inr n
  ·rw[eZ q] at e;exact .inl<|.inr ⟨j,e⟩,(Go.refl (O0:=O0) (ow:=ow) g).dom⟩
theorem yw {i:Nat}{s:Sl}(nb:∀(j:Nat) (d:D),m[j]?≠some (Sl.bw d))(hs:∀d,s≠.bw d):∀(j:Nat) (d:D),(m.set i s)[j]?≠some (Sl.bw d):=λj d e=>by
 by_cases q:j=i
 ·subst q;have hj:j<m.length:=by simpa using yK e
  rw[dE hj] at e;exact hs d<|cx e
 ·rw[ef<|kR q] at e;exact nb j d e
theorem cM.mono (R:cM G O0 M0 H0 ow σ H m)(g:aD H H'):cM G O0 M0 H0 ow σ H' m:=⟨R.toRel.mono g,R.nb⟩
theorem cM.set {i:Nat}{v:V}{d:D}(R:cM G O0 M0 H0 ow σ H m)(h:DV G (Ow O0 ow) H v d):cM G O0 M0 H0 (owS ow i none) (σ.set i<|some v) H (m.set i<|.fz d):=
 ⟨R.toRel.set h,yw R.nb λ_ z=>by cases z⟩
theorem cM.own {i:Nat}{p:Addr}{d:D}(R:cM G O0 M0 H0 ow σ H m)(g:aD H H')(n:H p=none)(n0:H0 p=none)(h:OV G (Op (Ow O0 ow) p) H' p d)(hi:i<m.length):
  cM G O0 M0 H0 (owS ow i<|some p) (σ.set i<|some<|.ref p) H' (m.set i<|.ow d):=⟨R.toRel.own g n n0 h hi,yw R.nb λ_ z=>by cases z⟩
noncomputable def Sl.let:Sl->Sl
 | .ow d=>.fz d
 |s=>s
noncomputable def Me.let (m:Me):Me:=m.map Sl.let
theorem cM.let (R:cM G O0 M0 H0 ow σ H m):∃ow',cM G O0 M0 H0 ow' σ H m.let/\Go O0 ow H ow' H:=by
 let ow':Os:=λi=>match m[i]? with
  |some (.io _)=>ow i
  |some (.hd _ _ _)=>ow i
  |_=>none
 have le:∀i a,ow' i=some a->ow i=some a/\∀d,m[i]?≠some (.ow d):=λi a e=>by
  simp only[ow'] at e;split at e
  ·rename_i d q;exact⟨e,λd z=>by rw[q] at z;cases z⟩
  ·rename_i w b d q;exact⟨e,λd z=>by rw[q] at z;cases z⟩
  ·cases e
 have sub:∀b,Ow O0 ow' b->Ow O0 ow b\/H b=none:=λb z=>.inl<|z.elim .inl λ⟨i,e⟩=>.inr ⟨i,(le i b e).1⟩;refine⟨ow',⟨⟨by simp[Me.let,R.len],R.keep,R.m0,λb z=>?_,λi a e=>R.no0 i a (le i a e).1,λi j a e1 e2=>R.inj i j a (le i a e1).1 (le j a e2).1,λi hi=>?_,λi s e=>?_⟩,λj d e=>?_⟩,λb o e n=>e,λi a e=>.inl<|.inr ⟨i,(le i a e).1⟩,λ_ n=>n⟩
 ·exact R.mutk b<|z.elim .inl λ⟨i,e⟩=>.inr ⟨i,(le i b e).1⟩
 ·have hi':m.length<=i:=by simpa[Me.let] using hi
  simp only[ow'];rw[pj hi']
 ·unfold Me.let at e;rw[bX] at e;cases q:m[i]? with
  |none=>rw[q] at e;cases e
  |some s0=>
   rw[q] at e;cases e;have z:=R.slot i s0 q;cases s0 with
   |un=>exact(show ow' i=none by simp only[ow',q])
   |fz d=>obtain⟨_,x,e,h⟩:=z;exact⟨(show ow' i=none by simp only[ow',q]),x,e,h.bZ sub⟩
   |ow d=>
    obtain⟨a,e1,e2,e3,h⟩:=z;refine⟨(show ow' i=none by simp only[ow',q]),.ref a,e3,(h.bZ sub).dv λw=>?_⟩;rcases w with w|⟨j,w⟩
    ·exact R.no0 i a e1 w
    ·obtain⟨w1,w2⟩:=le j a w
     have:=R.inj i j a e1 w1
     subst this;exact w2 d q
   |io d=>
    obtain⟨a,e1,e2,e3,h⟩:=z;exact⟨a,(show ow' i=some a by simp only[ow',q];exact e1),e2,e3,h.bZ sub⟩
   |bw d=>exact(R.nb i d q).elim
   |hd w a d=>
    obtain⟨e1,e2,e3,h⟩:=z;exact⟨(show ow' i=some a by simp only[ow',q];exact e1),e2,e3,h.bZ sub⟩
 ·unfold Me.let at e;rw[bX] at e;cases q:m[j]? with
  |none=>rw[q] at e;cases e
  |some s0=>
   rw[q] at e;cases s0 with
   |bw d'=>exact R.nb j d' q
   |_=>cases e
end
def Pu (G:Gx)(E:XK){α:Type}(r:Res α)(H:Hp)(k:α->Prop):Prop:=match r with
 | .ok a=>k a
 | .exc c=>∀C H',XP G H' c C->aD H H'->E (.ref C.1) C.2 H'
 | .stuck=>False
theorem Pu.bind {G:Gx}{E:XK}{α β:Type}{r:Res α}{f:α->Res β}{H:Hp}{k:β->Prop}(h:Pu G E (r.bind f) H k):Pu G E r H λa=>Pu G E (f a) H k:=by
 cases r with
 |ok a=>exact h
 |exc c=>exact h
 |stuck=>exact h
theorem Pu.imp {G:Gx}{E:XK}{α:Type}{r:Res α}{H H':Hp}{k k':α->Prop}(h:Pu G E r H k)(g:aD H H')(hk:∀a,k a->k' a):Pu G E r H' k':=by
 cases r with
 |ok a=>exact hk a h
 |exc c=>exact λC H1 e g1=>h C H1 e<|g.trans g1
 |stuck=>exact h
theorem Pu.ofO {G:Gx}{E:XK}{α:Type}{r:Option α}{H:Hp}{k:α->Prop}(h:Pu G E (ofO r) H k):∃a,r=some a/\k a:=by
 cases r with
 |some a=>exact⟨a,rfl,h⟩
 |none=>exact h.elim
def tE (G:Gx)(E:XK)(f:Me->Res D):TE:=λσ H Q=>∃O0 M0 H0 ow m,Rel G O0 M0 H0 ow σ H m/\Pu G E (f m) H λd=>∀v H',aD H H'->DV G (Ow O0 ow) H' v d->Q v H'
def tB (G:Gx)(E:XK)(f:Me->Res D):TE:=λσ H Q=>∃O0 M0 H0 ow m,Rel G O0 M0 H0 ow σ H m/\Pu G E (f m) H λd=>∀v H',aD H H'->DW G (Ow O0 ow) H' v d->Q v H'
def tN (G:Gx)(E:XK)(f:Me->Res D):TE:=λσ H Q=>∃O0 M0 H0 ow m,Rel G O0 M0 H0 ow σ H m/\Pu G E (f m) H λd=>∀p H',aD H H'->H p=none->OV G (Op (Ow O0 ow) p) H' p d->Q (.ref p) H'
def tT (G:Gx)(E:XK)(f:Me->Res Bool):TT:=λσ H Q=>∃O0 M0 H0 ow m,Rel G O0 M0 H0 ow σ H m/\Pu G E (f m) H λb=>∀H',aD H H'->Q b H'
def tAE (G:Gx)(E:XK)(f:Me->Res (List D)):TA:=λσ H Q=>∃O0 M0 H0 ow m,Rel G O0 M0 H0 ow σ H m/\Pu G E (f m) H λds=>∀vs H',aD H H'->DVs G (Ow O0 ow) H' vs ds->Q vs H'
def tAB (G:Gx)(E:XK)(f:Me->Res (List D)):TA:=λσ H Q=>∃O0 M0 H0 ow m,Rel G O0 M0 H0 ow σ H m/\Pu G E (f m) H λds=>∀vs H',aD H H'->DWs G (Ow O0 ow) H' vs ds->Q vs H'
abbrev FE (X:Cx)(E:XK)(e:Expr)(f:Me->Res D):Prop:=PE X e<|tE (gx X) E f
abbrev FB (X:Cx)(E:XK)(e:Expr)(f:Me->Res D):Prop:=PE X e<|tB (gx X) E f
abbrev FN (X:Cx)(E:XK)(e:Expr)(f:Me->Res D):Prop:=PE X e<|tN (gx X) E f
abbrev FT (X:Cx)(E:XK)(e:Expr)(f:Me->Res Bool):Prop:=PT X e<|tT (gx X) E f
abbrev FW (X:Cx)(E:XK)(e:Expr)(f:Me->Res Bool):Prop:=PW X e<|tT (gx X) E f
abbrev FAE (X:Cx)(E:XK)(es:List Expr)(f:Me->Res (List D)):Prop:=PA X es<|tAE (gx X) E f
abbrev FAB (X:Cx)(E:XK)(es:List Expr)(f:Me->Res (List D)):Prop:=PA X es<|tAB (gx X) E f
theorem xu {X:Cx}{e:Expr}{T T':TT}(h:PT X e T)(k:∀σ H Q,T' σ H Q->T σ H Q):PT X e T':=λπ s σ H Q I q=>h π s σ H Q I<|k σ H Q q
theorem El {X:Cx}{e:Expr}{T T':TT}(h:PW X e T)(k:∀σ H Q,T' σ H Q->T σ H Q):PW X e T':=λwh π s σ H Q I q=>h wh π s σ H Q I<|k σ H Q q
theorem nT {X:Cx}{es:List Expr}{T T':TA}(h:PA X es T)(k:∀σ H Q,T' σ H Q->T σ H Q):PA X es T':=λpos π s σ H Q I q=>h pos π s σ H Q I<|k σ H Q q
section
variable {X:Cx}{E:XK}{e a b c:Expr}{es:List Expr}{f fa fb fc:Me->Res D}{fs:Me->Res (List D)}{ft fu:Me->Res Bool}{pos:Pos}
theorem aa (h:FE X E e f):FB X E e f:=bI h λ_ _ _ hE=>xq5 hE λO0 M0 H0 ow m R q=>⟨O0,M0,H0,ow,m,R,q.imp (aD.refl _) λ_ k v H' g d=>k v H' g<|.inl d⟩
theorem nA (h:FN X E e f):FE X E e f:=bI h λ_ _ _ hE=>xq5 hE λO0 M0 H0 ow m R q=>⟨O0,M0,H0,ow,m,R,q.imp (aD.refl _) λ_ k p H' g n o=>
 k _ H' g ((o.bZ λb z=>.inl<|.inl z).dv<|R.BJ n)⟩
noncomputable def bH (i:Nat):Me->Res D:=λm=>match m[i]? with
 |some (.fz d)=>.ok d
 |_=>.stuck
noncomputable def aj (i:Nat):Me->Res D:=λm=>match m[i]? with
 |some (.fz d)=>.ok d
 |some (.ow d)=>.ok d
 |some (.io d)=>.ok d
 |some (.bw d)=>.ok d
 |_=>.stuck
theorem bz (i:Nat){x:Str}(hN:X.N[i]? = some x:=by rfl)(hv:Vis X.env.scope x:=by first|exact ar rfl|exact ip (ar rfl)|exact ip (ip rfl))(hd:(x==("__debug__":Str))=false:=by decide)
  (hcd:(x==("__classdict__":Str))=false:=by decide):FE X E (.Name x pos) (bH i):=bI (aL hN hv hd hcd) λσ H Q hE=>xq5 hE λO0 M0 H0 ow m R q=>by
 unfold bH at q;cases e:m[i]? with
 |none=>rw[e] at q;exact q.elim
 |some s=>
  rw[e] at q;cases s with
  |fz d=>
   obtain⟨_,x,h1,h2⟩:=R.slot i _ e;exact⟨x,h1,q x H (aD.refl _) h2⟩
  |_=>exact q.elim
theorem ak (i:Nat){x:Str}(hN:X.N[i]? = some x:=by rfl)(hv:Vis X.env.scope x:=by first|exact ar rfl|exact ip (ar rfl)|exact ip (ip rfl))(hd:(x==("__debug__":Str))=false:=by decide)
  (hcd:(x==("__classdict__":Str))=false:=by decide):FB X E (.Name x pos) (aj i):=bI (aL hN hv hd hcd) λσ H Q hE=>xq5 hE λO0 M0 H0 ow m R q=>by
 unfold aj at q;cases e:m[i]? with
 |none=>rw[e] at q;exact q.elim
 |some s=>
  rw[e] at q;cases s with
  |fz d=>
   obtain⟨_,x,h1,h2⟩:=R.slot i _ e;exact⟨x,h1,q x H (aD.refl _)<|.inl h2⟩
  |bw d=>
   obtain⟨_,x,h1,h2⟩:=R.slot i _ e;exact⟨x,h1,q x H (aD.refl _) h2⟩
  |ow d=>
   obtain⟨a,h1,h2,h3,h4⟩:=R.slot i _ e;exact⟨_,h3,q _ H (aD.refl _)<|.inr ⟨a,rfl,.inr ⟨i,h1⟩,h4⟩⟩
  |io d=>
   obtain⟨a,h1,h2,h3,h4⟩:=R.slot i _ e;exact⟨_,h3,q _ H (aD.refl _)<|.inr ⟨a,rfl,.inr ⟨i,h1⟩,h4⟩⟩
  |un=>exact q.elim
  |hd _ _ _=>exact q.elim
def fC (d:D):Me->Res D:=λ_=>.ok d
theorem O4 {d:D}{v:V}(h:PE X e (tC v))(hd:∀O H,DV (gx X) O H v d):FE X E e (fC d):=bI h λσ H Q hE=>xq5 hE λO0 M0 H0 ow m R q=>q v H (aD.refl _)<|hd _ _
theorem aq {i j pos}:FE X E (.Constant (.int i) j pos) (fC<|.int i):=O4 qQ λ_ _=>.int i
theorem jt {b j pos}:FE X E (.Constant (.bool b) j pos) (fC<|.bl b):=O4 Ka λ_ _=>.bl b
theorem aZ {x j pos}:FE X E (.Constant (.str x) j pos) (fC<|.str x):=O4 ig λ_ _=>.str x
theorem oA {x:Str}{v:V}{u:ay}{d:D}(hg:Gl X x)(hm:X.mg x=some u)(r:RelV v u)(hd:∀O H,DV (gx X) O H v d)(hdb:(x==("__debug__":Str))=false:=by decide):FE X E (.Name x pos) (fC d):=O4 (ud hg hm r hdb) hd
def rG (G:Gx)(g:D->D->Option D):R2:=λx y H Q=>∃O d e r,(∀b,O b->cj (H b))/\DW G O H x d/\DW G O H y e/\g d e=some r/\∀v H',aD H H'->DV G O H' v r->Q v H'
def rGB (G:Gx)(g:D->D->Option Bool):R2:=λx y H Q=>∃O d e r,(∀b,O b->cj (H b))/\DW G O H x d/\DW G O H y e/\g d e=some r/\Q (.bl r) H
def rG1 (G:Gx)(g:D->Option D):V->Hp->VK->Prop:=λx H Q=>∃O d r,(∀b,O b->cj (H b))/\DW G O H x d/\g d=some r/\∀v H',aD H H'->DV G O H' v r->Q v H'
def rGC (G:Gx)(g:List D->Option D):List V->Hp->VK->Prop:=λxs H Q=>∃O ds r,(∀b,O b->cj (H b))/\DWs G O H xs ds/\g ds=some r/\∀v H',aD H H'->DV G O H' v r->Q v H'
def rGM (G:Gx)(g:D->List D->Option D):V->List V->Hp->VK->Prop:=λx xs H Q=>∃O d ds r,(∀b,O b->cj (H b))/\DW G O H x d/\DWs G O H xs ds/\g d ds=some r/\∀v H',aD H H'->DV G O H' v r->Q v H'
noncomputable def aA (g:D->D->Option D)(fa fb:Me->Res D):Me->Res D:=λm=>(fa m).bind λx=>(fb m).bind λy=>ofO<|g x y
noncomputable def jd (g:D->D->Option Bool)(fa fb:Me->Res D):Me->Res D:=λm=>(fa m).bind λx=>(fb m).bind λy=>ofO<|(g x y).map D.bl
noncomputable def aN (g:D->D->Option Bool)(fa fb:Me->Res D):Me->Res Bool:=λm=>(fa m).bind λx=>(fb m).bind λy=>ofO<|g x y
noncomputable def fUn (g:D->Option D)(fa:Me->Res D):Me->Res D:=λm=>(fa m).bind λx=>ofO<|g x
theorem two {G:Gx}{σ:L2.St}{H:Hp}{Q:VK}{r:R2}{O0 M0:Za}{H0:Hp}{ow:Os}{m:Me}{β:Type}{g:D->D->Res β}{K:β->Hp->Prop}(R:Rel G O0 M0 H0 ow σ H m)(h:Pu G E ((fa m).bind λx=>(fb m).bind λy=>g x y) H λz=>K z H)
  (hm:∀z H',K z H->aD H H'->K z H')
  (k:∀x y d e H',aD H H'->DW G (Ow O0 ow) H' x d->DW G (Ow O0 ow) H' y e->Pu G E (g d e) H' (λz=>K z H')->Rel G O0 M0 H0 ow σ H' m->r x y H' Q):tOp r (tB G E fa) (tB G E fb) σ H Q:=by
 refine⟨O0,M0,H0,ow,m,R,h.bind.imp (aD.refl _) λd q x H1 g1 hx=>⟨O0,M0,H0,ow,m,R.mono g1,q.bind.imp g1 λe q2 y H2 g2 hy=>?_⟩⟩;exact k x y d e H2 (g1.trans g2) (hx.mono g2) hy (q2.imp (g1.trans g2) λz kz=>hm z _ kz<|g1.trans g2)<|R.mono<|g1.trans g2
theorem aG {g:D->D->Option D}{op:Operator}(ho:OpR X (fm op) (rG (gx X) g))(ha:FB X E a fa)(hb:FB X E b fb):FE X E (.BinOp a op b pos) (aA g fa fb):=
 bI (QB ho ha hb) λσ H Q hE=>xq5 hE λO0 M0 H0 ow m R q=>two R (K:=λz H=>∀v H',aD H H'->DV (gx X) (Ow O0 ow) H' v z->Q v H') q (λ_ _ k g v H' g' d=>k v H' (g.trans g') d) λx y d e H' g hx hy q' R'=>by
  obtain⟨r,hr,k⟩:=q'.ofO;exact⟨_,d,e,r,R'.mutk,hx,hy,hr,k⟩
theorem bD {g:D->D->Option D}(ho:IxR X (rG (gx X) g))(ha:FB X E a fa)(hb:FB X E b fb)(hs:Ea b):FE X E (.Subscript a b pos) (aA g fa fb):=
 bI (Ed ho ha hb hs) λσ H Q hE=>xq5 hE λO0 M0 H0 ow m R q=>two R (K:=λz H=>∀v H',aD H H'->DV (gx X) (Ow O0 ow) H' v z->Q v H') q (λ_ _ k g v H' g' d=>k v H' (g.trans g') d) λx y d e H' g hx hy q' R'=>by
  obtain⟨r,hr,k⟩:=q'.ofO;exact⟨_,d,e,r,R'.mutk,hx,hy,hr,k⟩
theorem omap {α β:Type}{o:Option α}{f:α->β}{r:β}(h:o.map f=some r):∃a,o=some a/\f a=r:=by
 cases o with
 |none=>cases h
 |some a=>exact⟨a,rfl,cx h⟩
theorem iT {g:D->D->Option Bool}{op:CmpOp}(ho:OpR X (cy op) (rGB (gx X) g))(ha:FB X E a fa)(hb:FB X E b fb)(hm:f6 op b=false):FE X E (.Compare a [op] [b] pos) (jd g fa fb):=
 bI (Qa ho ha hb hm) λσ H Q hE=>xq5 hE λO0 M0 H0 ow m R q=>two R (K:=λz H=>∀v H',aD H H'->DV (gx X) (Ow O0 ow) H' v z->Q v H') q (λ_ _ k g v H' g' d=>k v H' (g.trans g') d) λx y d e H' g hx hy q' R'=>by
  obtain⟨r,hr,k⟩:=q'.ofO;obtain⟨c,hc,rfl⟩:=omap hr;exact⟨_,d,e,c,R'.mutk,hx,hy,hc,k _ _ (aD.refl _)<|.bl c⟩
theorem bK {g:D->D->Option Bool}{op:CmpOp}(ho:OpR X (cy op) (rGB (gx X) g))(ha:FB X E a fa)(hb:FB X E b fb)(hm:f6 op b=false):FT X E (.Compare a [op] [b] pos) (aN g fa fb):=
 xu (tu ho ha hb hm) λσ H Q hE=>xq5 hE λO0 M0 H0 ow m R q=>two R (K:=λz H=>∀H',aD H H'->Q z H') q (λ_ _ k g H' g'=>k H'<|g.trans g') λx y d e H' g hx hy q' R'=>by
  obtain⟨c,hc,k⟩:=q'.ofO;exact⟨_,d,e,c,R'.mutk,hx,hy,hc,c,rfl,k _<|aD.refl _⟩
theorem za {g:D->Option D}{op:UnaryOp}(ho:UnR X (unaryOp op) (rG1 (gx X) g))(ha:FB X E a fa):FE X E (.UnaryOp op a pos) (fUn g fa):=
 bI (QH ho ha) λσ H Q hE=>xq5 hE λO0 M0 H0 ow m R q=>⟨O0,M0,H0,ow,m,R,q.bind.imp (aD.refl _) λd q x H1 g1 hx=>by
  obtain⟨r,hr,k⟩:=q.ofO;exact⟨_,d,r,(R.mono g1).mutk,hx,hr,λv H' g d=>k v H' (g1.trans g) d⟩⟩
def jx (g g':D->D->Option Bool)(fa fb fc:Me->Res D):Me->Res D:=λm=>(fa m).bind λx=>(fb m).bind λy=>(ofO<|g x y).bind λc=>if c then(fc m).bind λz=>ofO ((g' y z).map D.bl) else .ok (.bl false)
theorem J1 {r:R2}{g g':D->D->Option Bool}{β:Type}{w:Bool->β}{O0 M0:Za}{H0:Hp}{ow:Os}{m:Me}{σ:L2.St}{H:Hp}{Q:VK}{K:β->Hp->Prop}(R:Rel (gx X) O0 M0 H0 ow σ H m)
  (h:Pu (gx X) E ((fa m).bind λx=>(fb m).bind λy=>(ofO<|g x y).bind λc=>if c then(fc m).bind λz=>ofO ((g' y z).map w) else .ok (w false)) H λz=>K z H) (hm:∀z H',K z H->aD H H'->K z H') (kq:∀z H',K (w z) H'->Q (.bl z) H'):
  Iz (rGB (gx X) g) (rGB (gx X) g') (tB (gx X) E fa) (tB (gx X) E fb) (tB (gx X) E fc) σ H Q:=by
 refine⟨O0,M0,H0,ow,m,R,h.bind.imp (aD.refl _) λd q x H1 g1 hx=>⟨O0,M0,H0,ow,m,R.mono g1,q.bind.imp g1 λe q2 y H2 g2 hy=>?_⟩⟩;obtain⟨c,hc,q3⟩:=q2.bind.ofO;have G2:=g1.trans g2;refine⟨_,d,e,c,(R.mono G2).mutk,hx.mono g2,hy,hc,c,rfl,?_⟩;cases c with
 |true=>
  rw[if_pos rfl] at q3 ⊢;refine⟨O0,M0,H0,ow,m,R.mono G2,q3.bind.imp G2 λz q4 u H3 g3 hu=>?_⟩;obtain⟨r',hr,k⟩:=q4.ofO;obtain⟨c',hc',rfl⟩:=omap hr;exact⟨_,e,z,c',(R.mono<|G2.trans g3).mutk,hy.mono g3,hu,hc',kq c' H3<|hm _ _ k<|G2.trans g3⟩
 |false=>
  rw[if_neg av] at q3 ⊢;exact kq _ _<|hm _ _ q3 G2
theorem uU {g g':D->D->Option Bool}{op op':CmpOp}(ho:OpR X (cy op) (rGB (gx X) g))(ho':OpR X (cy op') (rGB (gx X) g'))(ha:FB X E a fa)(hb:FB X E b fb)(hc:FB X E c fc)(hm:lastMarks [op,op'] [b,c]=false:=by with_unfolding_all rfl):
  FE X E (.Compare a [op,op'] [b,c] pos) (jx g g' fa fb fc):=bI (J2 ho ho' ha hb hc hm) λσ H Q hE=>xq5 hE λO0 M0 H0 ow m R q=>
 J1 (w:=D.bl) (r:=rGB (gx X) g) R (K:=λz H=>∀v H',aD H H'->DV (gx X) (Ow O0 ow) H' v z->Q v H') q (λ_ _ k g v H' g' d=>k v H' (g.trans g') d) λz H' k=>k _ _ (aD.refl _)<|.bl z
noncomputable def fTv (fa:Me->Res D):Me->Res Bool:=λm=>(fa m).bind λx=>match x with
 | .bl b=>.ok b
 |_=>.stuck
theorem cN (h:FE X E e f)(he:∀whole,isTrue e X.env whole=(do let v←whole;standAt e.pos;holding [v] (truthy v)):=by intro _;rfl):FT X E e (fTv f):=
 xu (mY h he) λσ H Q hE=>xq5 hE λO0 M0 H0 ow m R q=>⟨O0,M0,H0,ow,m,R,q.bind.imp (aD.refl _) λd q v H' g hv=>by
  cases d with
  |bl b=>cases hv;exact⟨b,rfl,q H' g⟩
  |_=>exact q.elim⟩
noncomputable def cB (ft:Me->Res Bool):Me->Res Bool:=λm=>(ft m).bind λc=>.ok<|!c
noncomputable def nO (ft fu:Me->Res Bool):Me->Res Bool:=λm=>(ft m).bind λc=>if c then fu m else .ok false
noncomputable def dF (ft fu:Me->Res Bool):Me->Res Bool:=λm=>(ft m).bind λc=>if c then .ok true else fu m
theorem cY (h:FT X E a ft):FT X E (.UnaryOp .Not a pos) (cB ft):=xu (uN h) λσ H Q hE=>xq5 hE λO0 M0 H0 ow m R q=>⟨O0,M0,H0,ow,m,R,q.bind.imp (aD.refl _) λb q H' g=>q H' g⟩
theorem DK (h:FT X E a ft):FW X E (.BoolOp .And [a] pos) ft:=Fb h
theorem iQ (h:FT X E a ft):FW X E (.BoolOp .Or [a] pos) ft:=Rn h
theorem JS (ha:FT X E a ft)(hb:FW X E (.BoolOp .And (b::es) pos) fu):FW X E (.BoolOp .And (a::b::es) pos) (nO ft fu):=
 El (Lk ha hb) λσ H Q hE=>xq5 hE λO0 M0 H0 ow m R q=>⟨O0,M0,H0,ow,m,R,q.bind.imp (aD.refl _) λb q H' g=>by
  cases b with
  |true=>rw[if_pos rfl] at q ⊢;exact⟨O0,M0,H0,ow,m,R.mono g,q.imp g λ_ k H1 g1=>k H1<|g.trans g1⟩
  |false=>rw[if_neg av] at q ⊢;exact q H' g⟩
theorem gn (ha:FT X E a ft)(hb:FW X E (.BoolOp .Or (b::es) pos) fu):FW X E (.BoolOp .Or (a::b::es) pos) (dF ft fu):=
 El (Uo ha hb) λσ H Q hE=>xq5 hE λO0 M0 H0 ow m R q=>⟨O0,M0,H0,ow,m,R,q.bind.imp (aD.refl _) λb q H' g=>by
  cases b with
  |false=>rw[if_neg av] at q ⊢;exact⟨O0,M0,H0,ow,m,R.mono g,q.imp g λ_ k H1 g1=>k H1<|g.trans g1⟩
  |true=>rw[if_pos rfl] at q ⊢;exact q H' g⟩
theorem qj (h:FW X E e ft):FT X E e ft:=L2.PW.pt h
def Nk (fa:Me->Res D):Me->Res D:=λm=>(fTv fa m).bind λc=>.ok<|.bl !c
def gh (fa fb:Me->Res D):Me->Res D:=λm=>(fTv fa m).bind λc=>if c then fb m else .ok (.bl false)
theorem La {G:Gx}{O:Za}{m:Me}{H:Hp}{k:Bool->Prop}(h:Pu G E (fTv fa m) H k):Pu G E (fa m) H λd=>∃b,d=.bl b/\k b:=by
 refine h.bind.imp (aD.refl _) λd q=>?_;cases d with
 |bl b=>exact⟨b,rfl,q⟩
 |_=>exact q.elim
theorem iV {op}(h:FE X E a fa):FE X E (.BoolOp op [a] pos) fa:=RD h
theorem f9 (ha:FE X E a fa)(hb:FE X E (.BoolOp .And (b::es) pos) fb):FE X E (.BoolOp .And (a::b::es) pos) (gh fa fb):=
 bI (Q4 ha hb) λσ H Q hE=>xq5 hE λO0 M0 H0 ow m R q=>⟨O0,M0,H0,ow,m,R,(La (O:=O0) q.bind).imp (aD.refl _) λd ⟨b,e,q⟩ v H' g hv=>by
  subst e;cases hv;refine⟨b,rfl,?_⟩;cases b with
  |true=>rw[if_pos rfl] at q ⊢;exact⟨O0,M0,H0,ow,m,R.mono g,q.imp g λ_ k v H1 g1=>k v H1<|g.trans g1⟩
  |false=>rw[if_neg av] at q ⊢;exact q _ H' g<|.bl false⟩
theorem Dc (ha:FE X E a fa):FE X E (.UnaryOp .Not a pos) (Nk fa):=
 bI (Sv ha) λσ H Q hE=>xq5 hE λO0 M0 H0 ow m R q=>⟨O0,M0,H0,ow,m,R,(La (O:=O0) q.bind).imp (aD.refl _) λd ⟨b,e,q⟩ v H' g hv=>by
  subst e;cases hv;exact⟨b,rfl,q _ H' g<|.bl _⟩⟩
def fIf (ft:Me->Res Bool)(fa fb:Me->Res D):Me->Res D:=λm=>(ft m).bind λc=>if c then fa m else fb m
theorem Ku (hc:FT X E c ft)(ha:FE X E a fa)(hb:FE X E b fb):FE X E (.IfExp c a b pos) (fIf ft fa fb):=
 bI (Aj hc ha hb) λσ H Q hE=>xq5 hE λO0 M0 H0 ow m R q=>⟨O0,M0,H0,ow,m,R,q.bind.imp (aD.refl _) λb q H' g=>by
  cases b with
  |false=>rw[if_neg av] at q ⊢;exact⟨O0,M0,H0,ow,m,R.mono g,q.imp g λ_ k v H1 g1=>k v H1<|g.trans g1⟩
  |true=>rw[if_pos rfl] at q ⊢;exact⟨O0,M0,H0,ow,m,R.mono g,q.imp g λ_ k v H1 g1=>k v H1<|g.trans g1⟩⟩
def aF:Me->Res (List D):=λ_=>.ok []
noncomputable def au (fa:Me->Res D)(fs:Me->Res (List D)):Me->Res (List D):=λm=>(fa m).bind λx=>(fs m).bind λxs=>.ok (x::xs)
theorem aK:FAE X E [] aF:=nT bG λσ H Q hE=>xq5 hE λO0 M0 H0 ow m R q=>q [] H (aD.refl _) .nil
theorem aV:FAB X E [] aF:=nT bG λσ H Q hE=>xq5 hE λO0 M0 H0 ow m R q=>q [] H (aD.refl _) .nil
theorem az (ha:FE X E e fa)(hr:FAE X E es fs)(hs:ax (e::es) X.env=(false,eval e X.env)::ax es X.env:=by rfl):FAE X E (e::es) (au fa fs):=
 nT (aP ha hr hs) λσ H Q hE=>xq5 hE λO0 M0 H0 ow m R q=>⟨O0,M0,H0,ow,m,R,q.bind.imp (aD.refl _) λd q v H1 g1 hv=>⟨O0,M0,H0,ow,m,R.mono g1,q.bind.imp g1 λds q vs H2 g2 hvs=>q _ H2 (g1.trans g2)<|.cons (hv.mono g2) hvs⟩⟩
theorem aO (ha:FB X E e fa)(hr:FAB X E es fs)(hs:ax (e::es) X.env=(false,eval e X.env)::ax es X.env:=by rfl):FAB X E (e::es) (au fa fs):=
 nT (aP ha hr hs) λσ H Q hE=>xq5 hE λO0 M0 H0 ow m R q=>⟨O0,M0,H0,ow,m,R,q.bind.imp (aD.refl _) λd q v H1 g1 hv=>⟨O0,M0,H0,ow,m,R.mono g1,q.bind.imp g1 λds q vs H2 g2 hvs=>q _ H2 (g1.trans g2)<|.cons (hv.mono g2) hvs⟩⟩
noncomputable def gR (fs:Me->Res (List D)):Me->Res D:=λm=>(fs m).bind λds=>if ds.length<=aT then .ok (.tup ds) else .stuck
noncomputable def pK (fs:Me->Res (List D)):Me->Res D:=λm=>(fs m).bind λds=>if ds.length<=aT then .ok (.lst ds) else .stuck
theorem z7 {G:Gx}{α:Type}{c:Prop}[Decidable c]{r:α}{H:Hp}{k:α->Prop}(h:Pu G E (if c then .ok r else .stuck) H k):c/\k r:=by
 by_cases z:c
 ·rw[if_pos z] at h;exact⟨z,h⟩
 ·rw[if_neg z] at h;exact h.elim
theorem gY {x1}(h:FAE X E es fs):FE X E (.Tuple es x1 pos) (gR fs):=bI (Ew h) λσ H Q hE=>xq5 hE λO0 M0 H0 ow m R q=>⟨O0,M0,H0,ow,m,R,q.bind.imp (aD.refl _) λds q vs H1 g1 hv=>by
 obtain⟨hz,k⟩:=z7 q;exact⟨by rw[bR hv];exact hz,λp H' g e=>k _ H' (g1.trans g)<|.tup (SqU.of e)<|hv.mono g⟩⟩
theorem pM (h:FAE X E es fs):FN X E (.List es pos) (pK fs):=bI (BZ<|Qv h) λσ H Q hE=>xq5 hE λO0 M0 H0 ow m R q=>⟨λvs H1=>aD H H1/\∃ds,DVs (gx X) (Ow O0 ow) H1 vs ds/\ds.length<=aT/\∀p H',aD H H'->H p=none->OV (gx X) (Op (Ow O0 ow) p) H' p (.lst ds)->Q (.ref p) H',⟨O0,M0,H0,ow,m,R,q.bind.imp (aD.refl _) λds q vs H1 g1 hv=>⟨g1,ds,hv,z7 q⟩⟩,λvs H1 ⟨g1,ds,hv,hz,k⟩=>
 ⟨by rw[bR hv];exact hz,λp hp=>k p _ (g1.trans<|bJ hp _) (g1.free hp) ⟨vs,aH,(hv.bZ λb z=>z.elim .inl λe=>.inr (by rw[e];exact hp)).mono<|bJ hp _⟩⟩⟩
noncomputable def aU (g:List D->Option D)(fs:Me->Res (List D)):Me->Res D:=λm=>(fs m).bind λds=>ofO<|g ds
theorem Fi {g:List D->Option D}{σ:L2.St}{H:Hp}{Q:VK}(h:tE (gx X) E (aU g fs) σ H Q):tCB (rGC (gx X) g) (tAB (gx X) E fs) σ H Q:=by
 obtain⟨O0,M0,H0,ow,m,R,q⟩:=h;refine⟨O0,M0,H0,ow,m,R,q.bind.imp (aD.refl _) λds q vs H1 g1 hv=>?_⟩;obtain⟨r,hr,k⟩:=q.ofO;exact⟨_,ds,r,(R.mono g1).mutk,hv,hr,λv H' g d=>k v H' (g1.trans g) d⟩
section
variable {x:Str}{p:Pos}{id T:String}{g:List D->Option D}
theorem bT (hc:gm X (.builtin id) (rGC (gx X) g))(hg:Gl X x)(hm:X.mg x=none)(hv:b9 x=some (.builtin id))(ha:FAB X E (e::es) fs)(hn:x≠"__name__":=by decide)(hdb:(x==("__debug__":Str))=false:=by decide)
  (he:ax (e::es) X.env=(false,eval e X.env)::ax es X.env:=by rfl) (θ:(gX pos<|ax es X.env).any (·.1)=false:=by rfl):FE X E (.Call (.Name x p) (e::es) [] pos) (aU g fs):=
 bI (iM hc hg hm hv ha hn hdb he θ) λ_ _ _ h=>Fi h
theorem cT (hc:gm X (.type T) (rGC (gx X) g))(hg:Gl X x)(hm:X.mg x=none)(hv:b9 x=some (.type T))(ha:FAB X E (e::es) fs)(hn:x≠"__name__":=by decide)(hdb:(x==("__debug__":Str))=false:=by decide)
  (he:ax (e::es) X.env=(false,eval e X.env)::ax es X.env:=by rfl) (θ:(gX pos<|ax es X.env).any (·.1)=false:=by rfl):FE X E (.Call (.Name x p) (e::es) [] pos) (aU g fs):=
 bI (oE hc hg hm hv ha hn hdb he θ) λ_ _ _ h=>Fi h
end
noncomputable def tyD:String->D->Bool
 | "str",.str _=>true
 | "list",.lst _=>true
 | "dict",.dct _ _=>true
 | "dict",.dcu _ _=>true
 |_,_=>false
theorem Vd {G:Gx}{O:Za}{H:Hp}{v:V}{d:D}{T:String}(h:DW G O H v d)(t:tyD T d=true):tyV G.K T v H:=by
 unfold tyD at t;split at t
 ·cases cW h;rfl
 ·obtain⟨a,xs,rfl,hx,_⟩:=gM h;exact .inl ⟨rfl,xs,hx⟩
 ·obtain⟨a,ι,vs,rfl,hx,_⟩:=KY h;exact .inr<|.inr<|.inl ⟨rfl,.inl ⟨ι,hx⟩⟩
 ·obtain⟨a,ι,vs,rfl,hx,_⟩:=SJ h;exact .inr<|.inr<|.inl ⟨rfl,.inr ⟨_,ι,.inl hx⟩⟩
 ·cases t
def jw (T:String)(g:D->List D->Option D)(fo:Me->Res D)(fs:Me->Res (List D)):Me->Res D:=λm=>(fo m).bind λd=>if tyD T d=true then(fs m).bind λds=>ofO (g d ds) else .stuck
theorem xr {G:Gx}{α:Type}{c:Prop}[Decidable c]{r:Res α}{H:Hp}{k:α->Prop}(h:Pu G E (if c then r else .stuck) H k):c/\Pu G E r H k:=by
 by_cases z:c
 ·rw[if_pos z] at h;exact⟨z,h⟩
 ·rw[if_neg z] at h;exact h.elim
section
variable {o:Expr}{name:Str}{apos ρ:Pos}{T id:String}{g:D->List D->Option D}
theorem xf (pa:PlainAttrs T)(slot:Slot T name id)(hty:typeOf (.builtin id)=pure (.type "method_descriptor"))(hm:MtR X id (rGM (gx X) g))(ho:FB X E o fa)(ha:FAB X E (e::es) fs)
  (ν:hG o name X.env (eval o X.env)=eval o X.env:=by rfl)
  (ζ:((gX ρ<|ax (e::es) X.env).all (λx=>!x.1)&&(sC ρ<|l9 [] X.env).all (λx=>x.1.isSome)
   && decide ((e::es).length+([]:List rj).length+(if([]:List rj).isEmpty then 0 else 1)<30))=true:=by rfl)
  (ω:(apos.endLine==ρ.line)=true:=by rfl) (hs:ax (e::es) X.env=(false,eval e X.env)::ax es X.env:=by rfl) (hplain:(gX ρ<|ax es X.env).any (·.1)=false:=by rfl):
  FE X E (.Call (.Attribute o name apos) (e::es) [] ρ) (jw T g fa fs):=
 bI (wH pa slot hty hm ho ha ν ζ ω hs hplain) λσ H Q hE=>xq5 hE λO0 M0 H0 ow m R q=>⟨O0,M0,H0,ow,m,R,q.bind.imp (aD.refl _) λd q v H1 g1 hv=>by
  obtain⟨t,q⟩:=xr q;refine⟨Vd hv t,O0,M0,H0,ow,m,R.mono g1,q.bind.imp g1 λds q vs H2 g2 hvs=>?_⟩;obtain⟨r,hr,k⟩:=q.ofO;exact⟨_,d,ds,r,(R.mono<|g1.trans g2).mutk,hv.mono g2,hvs,hr,λv H' g d=>k v H' ((g1.trans g2).trans g) d⟩⟩
end
end
inductive Fl where
 |nx|bk|ct|rt (fr:Bool) (d:D)
abbrev Zh:=D->Me->Option Me
abbrev Zb:=Me->Res Bool
abbrev Zl:=Me->Res D
abbrev Ze:=Me->Res (List D)
abbrev Zf:=List D->Res (Bool×D)
abbrev Zg:=Me->Res (Fl×Me)
mutual
def Qz:D->Bool
 | .non|.bl _|.int _|.str _=>true
 | .tup ds=>Cw ds
 |_=>false
def Cw:List D->Bool
 |[]=>true
 |d::ds=>Qz d&&Cw ds
end
section
variable {G:Gx}{O O':Za}{H:Hp}
end
inductive Hi (G:Gx)(H0 H':Hp):List Addr->List V->List D->Prop where
 |nil:Hi G H0 H' [] [] []
 |flat {v:V} {d:D} {vs:List V} {ds:List D} {qs:List Addr}:DV G (λ_=>False) H' v d->Qz d=true->Hi G H0 H' qs vs ds->Hi G H0 H' qs (v::vs) (d::ds)
 |new {q:Addr} {xs:List V} {es:List D} {vs:List V} {ds:List D} {qs:List Addr}:H0 q=none->H' q=some (.lst xs)->DVs G (λ_=>False) H' xs es->Cw es=true->q∉qs->Hi G H0 H' qs vs ds->Hi G H0 H' (q::qs) (.ref q::vs) (.lst es::ds)
def Fr (G:Gx)(O:Za)(H0:Hp)(v:V)(H':Hp)(d:D):Prop:=(∃p,v=.ref p/\H0 p=none/\OV G (Op O p) H' p d)\/∃p xs ds qs,d=.tup ds/\v=.ref p/\SqU G.K H' p xs/\Hi G H0 H' qs xs ds
def isTup:D->Bool
 | .tup _=>true
 |_=>false
theorem Fr.lst {G:Gx}{O:Za}{H0 H':Hp}{v:V}{d:D}(h:Fr G O H0 v H' d)(ht:isTup d=false):∃p,v=.ref p/\H0 p=none/\OV G (Op O p) H' p d:=by
 rcases h with h|⟨p,xs,ds,qs,e,_⟩
 ·exact h
 ·rw[e] at ht;cases ht
def Ss (G:Gx)(E:XK)(O0 M0:Za)(H0:Hp)(ow:Os)(H:Hp)(W:Ends)(r:Res (Fl×Me)):Prop:=match r with
 | .ok (.nx,m')=>∀ow' σ' H',cM G O0 M0 H0 ow' σ' H' m'->Go O0 ow H ow' H'->W.nx σ' H'
 | .ok (.bk,m')=>∀ow' σ' H',cM G O0 M0 H0 ow' σ' H' m'->Go O0 ow H ow' H'->W.bk σ' H'
 | .ok (.ct,m')=>∀ow' σ' H',cM G O0 M0 H0 ow' σ' H' m'->Go O0 ow H ow' H'->W.ct σ' H'
 | .ok (.rt fr d,m')=>∀v ow' σ' H',cM G O0 M0 H0 ow' σ' H' m'->Go O0 ow H ow' H'->DV G (Ow O0 ow') H' v d->(fr=true->Fr G (Ow O0 ow') H0 v H' d)->W.rt v H'
 | .exc c=>∀C H',XP G H' c C->Kp M0 H0 H'->E (.ref C.1) C.2 H'
 | .stuck=>False
def tS (G:Gx)(E:XK)(g:Zg):TS:=λW σ H=>∃O0 M0 H0 ow m,cM G O0 M0 H0 ow σ H m/\Ss G E O0 M0 H0 ow H W (g m)
abbrev FS (X:Cx)(E:XK)(st:Stmt)(g:Zg):Prop:=PS X st<|tS (gx X) E g
abbrev FSs (X:Cx)(E:XK)(st:List Stmt)(g:Zg):Prop:=PSs X st<|tS (gx X) E g
theorem eG {X:Cx}{st:Stmt}{T T':TS}(h:PS X st T)(k:∀W σ H,T' W σ H->T W σ H):PS X st T':=λπ s σ H W I q=>h π s σ H W I<|k W σ H q
theorem zM {X:Cx}{st:List Stmt}{T T':TS}(h:PSs X st T)(k:∀W σ H,T' W σ H->T W σ H):PSs X st T':=λπ s σ H W I q=>h π s σ H W I<|k W σ H q
section
variable {G:Gx}{E:XK}{O0 M0:Za}{H0 H H':Hp}{ow ow':Os}{σ:L2.St}{m:Me}{W:Ends}{r:Res (Fl×Me)}
theorem Ss.pu {α:Type}{x:Res α}{k:α->Res (Fl×Me)}(R:Rel G O0 M0 H0 ow σ H m)(h:Ss G E O0 M0 H0 ow H W (x.bind k)):Pu G E x H λa=>Ss G E O0 M0 H0 ow H W (k a):=by
 cases x with
 |ok a=>exact h
 |exc c=>exact λC H' e g=>h C H' e λb o e n=>g b o<|R.keep b o e n
 |stuck=>exact h
theorem Ss.go (h:Ss G E O0 M0 H0 ow H W r)(g:Go O0 ow H ow' H'):Ss G E O0 M0 H0 ow' H' W r:=by
 cases r with
 |ok a=>
  obtain⟨f,m'⟩:=a;cases f with
  |nx=>exact λow1 σ1 H1 R g1=>h ow1 σ1 H1 R<|g.trans g1
  |bk=>exact λow1 σ1 H1 R g1=>h ow1 σ1 H1 R<|g.trans g1
  |ct=>exact λow1 σ1 H1 R g1=>h ow1 σ1 H1 R<|g.trans g1
  |rt fr d=>exact λv ow1 σ1 H1 R g1=>h v ow1 σ1 H1 R<|g.trans g1
 |exc c=>exact h
 |stuck=>exact h
theorem Ss.ofO {α:Type}{x:Option α}{k:α->Res (Fl×Me)}(h:Ss G E O0 M0 H0 ow H W ((ofO x).bind k)):∃a,x=some a/\Ss G E O0 M0 H0 ow H W (k a):=by
 cases x with
 |some a=>exact⟨a,rfl,h⟩
 |none=>exact h.elim
end
def gNx:Zg:=λm=>.ok (.nx,m)
noncomputable def aR (g k:Zg):Zg:=λm=>match g m with
 | .ok (.nx,m')=>k m'
 |r=>r
noncomputable def cA (i:Nat)(f:Zl):Zg:=λm=>(f m).bind λd=>.ok (.nx,m.set i<|.fz d)
noncomputable def sJ (i:Nat)(f:Zl):Zg:=λm=>(f m).bind λd=>if i<m.length then .ok (.nx,m.set i<|.ow d) else .stuck
def bu (f:Zl):Zg:=λm=>(f m.let).bind λd=>.ok (.rt false d,m.let)
def Ls (f:Zl):Zg:=λm=>(f m.let).bind λd=>.ok (.rt true d,m.let)
def qi (i:Nat):Zg:=λm=>match m[i]? with
 |some (.ow d)=>.ok (.rt true d,m.let)
 |some (.fz d)=>.ok (.rt false d,m.let)
 |_=>.stuck
noncomputable def gIf (t:Zb)(g k:Zg):Zg:=λm=>(t m).bind λc=>if c then g m else k m
section
variable {X:Cx}{E:XK}{e c:Expr}{es:List Expr}{st:Stmt}{rest sa sb:List Stmt}{f:Zl}{ft:Zb}{g k ga gb:Zg}{pos pos':Pos}{i:Nat}{x:Str}
theorem bC:FSs X E [] gNx:=zM iY λW σ H hE=>xq5 hE λO0 M0 H0 ow m R q=>q ow σ H R<|Go.refl<|aD.refl _
theorem Rp {G:Gx}{W:Ends}{σ:L2.St}{H:Hp}(h:tS G E (aR g k) W σ H):Ov (tS G E g) (tS G E k) W σ H:=by
 obtain⟨O0,M0,H0,ow,m,R,q⟩:=h;refine⟨O0,M0,H0,ow,m,R,?_⟩;unfold aR at q;cases z:g m with
 |ok a=>
  obtain⟨f,m'⟩:=a;rw[z] at q;cases f with
  |nx=>exact λow' σ' H' R' g'=>⟨O0,M0,H0,ow',m',R',Ss.go q g'⟩
  |bk=>exact q
  |ct=>exact q
  |rt fr d=>exact q
 |exc c=>rw[z] at q;exact q
 |stuck=>rw[z] at q;exact q
theorem aB (h1:FS X E st g)(h2:FSs X E rest k):FSs X E (st::rest) (aR g k):=zM (aY h1 h2) λW σ H h=>Rp h
theorem aJ (h1:FS X E st g):FSs X E [st] g:=cI h1
theorem JZ {G:Gx}{W:Ends}{σ:L2.St}{H:Hp}(h:tS G E (cA i f) W σ H):Pn (tE G E f) (xg i) W σ H:=by
 obtain⟨O0,M0,H0,ow,m,R,q⟩:=h;refine⟨O0,M0,H0,ow,m,R.toRel,(Ss.pu R.toRel q).imp (aD.refl _) λd q v H' g' hv=>?_⟩;exact q _ _ _ ((R.mono g').set hv)<|(Go.refl g').trans Go.set
theorem Q7 {G:Gx}{W:Ends}{σ:L2.St}{H:Hp}(h:tS G E (sJ i f) W σ H):Pn (tN G E f) (xg i) W σ H:=by
 obtain⟨O0,M0,H0,ow,m,R,q⟩:=h;refine⟨O0,M0,H0,ow,m,R.toRel,(Ss.pu R.toRel q).imp (aD.refl _) λd q p H' g' n hv=>?_⟩;by_cases hi:i<m.length
 ·rw[if_pos hi] at q;exact q _ _ _ (R.own g' n (R.toRel.Jt n) hv hi)<|Go.own g' n
 ·rw[if_neg hi] at q;exact q.elim
theorem cO (hN:X.N.Nodup)(hi:X.N[i]? = some x)(hx:Loc X.env.scope x)(he:FE X E e f)(hs:iS e (some<|.Name x pos') pos.line X.env=pure false:=by rfl)
  (hf:X.fn x=true\/X.env.scope.names.lookup x=some .local:=by first|exact .inl rfl|exact .inr rfl|assumption):FS X E (.Assign [.Name x pos'] e pos) (cA i f):=eG (dZ hN hi hx he hs hf) λ_ _ _ h=>JZ h
theorem uQ (hN:X.N.Nodup)(hi:X.N[i]? = some x)(hx:Loc X.env.scope x)(he:FN X E e f)(hs:iS e (some<|.Name x pos') pos.line X.env=pure false:=by rfl)
  (hf:X.fn x=true\/X.env.scope.names.lookup x=some .local:=by first|exact .inl rfl|exact .inr rfl|assumption):FS X E (.Assign [.Name x pos'] e pos) (sJ i f):=eG (dZ hN hi hx he hs hf) λ_ _ _ h=>Q7 h
theorem bc (he:FE X E e f):FS X E (.Return (some e) pos) (bu f):=eG (gF he) λW σ H hE=>xq5 hE λO0 M0 H0 ow m R q=>by
 obtain⟨ow',R',g1⟩:=R.let;exact⟨O0,M0,H0,ow',m.let,R'.toRel,(Ss.pu R'.toRel<|Ss.go q g1).imp (aD.refl _) λd q v H' g' hv=>q v ow' σ H' (R'.mono g') (Go.refl g') hv λz=>by cases z⟩
theorem Pz (he:FN X E e f):FS X E (.Return (some e) pos) (Ls f):=eG (gF he) λW σ H hE=>xq5 hE λO0 M0 H0 ow m R q=>by
 obtain⟨ow',R',g1⟩:=R.let;exact⟨O0,M0,H0,ow',m.let,R'.toRel,(Ss.pu R'.toRel<|Ss.go q g1).imp (aD.refl _) λd q p H' g' n hv=>
  q _ ow' σ H' (R'.mono g') (Go.refl g') ((hv.bZ λb z=>.inl<|.inl z).dv<|R'.toRel.BJ n) λ_=>.inl ⟨p,rfl,R'.toRel.Jt n,hv⟩⟩
theorem xq (i:Nat)(hN:X.N[i]? = some x:=by rfl)(hv:Vis X.env.scope x:=by first|exact ar rfl|exact ip (ar rfl)|exact ip (ip rfl))(hd:(x==("__debug__":Str))=false:=by decide)
  (hcd:(x==("__classdict__":Str))=false:=by decide):FS X E (.Return (some<|.Name x pos') pos) (qi i):=eG (gF<|aL hN hv hd hcd) λW σ H hE=>xq5 hE λO0 M0 H0 ow m R q=>by
 obtain⟨ow',R',g1⟩:=R.let;unfold qi at q;cases z:m[i]? with
 |none=>rw[z] at q;exact q.elim
 |some s=>
  rw[z] at q;have zl:m.let[i]? = some s.let:=by unfold Me.let;rw[bX,z];rfl
  cases s with
  |fz d=>
   obtain⟨_,v,e,hv⟩:=R'.slot i _ zl;exact⟨v,e,q v ow' σ H R' g1 hv λz=>by cases z⟩
  |ow d=>
   obtain⟨_,v,e,hv⟩:=R'.slot i _ zl;obtain⟨a,h1,h2,h3,h4⟩:=R.slot i _ z;rw[h3] at e;cases e;refine⟨_,h3,q _ ow' σ H R' g1 hv λ_=>.inl ⟨a,rfl,h2,h4.bZ λb w=>.inl ?_⟩⟩;rcases w with w|w
   ·rcases w with w|⟨j,w⟩
    ·exact .inl w
    ·rcases g1.new j b w with w'|w'
     ·exact w'
     ·have:=R'.mutk b (.inr ⟨j,w⟩)
      rw[w'] at this;rcases this with⟨_,e⟩|⟨_,e⟩|⟨_,e⟩|⟨_,e⟩<;>cases e
   ·rw[w];exact .inr ⟨i,h1⟩
  |_=>exact q.elim
theorem cF (hc:FT X E c ft)(ha:FSs X E sa ga)(hb:FSs X E sb gb):FS X E (.If c sa sb pos) (gIf ft ga gb):=eG (mU hc ha hb) λW σ H hE=>xq5 hE λO0 M0 H0 ow m R q=>
 ⟨O0,M0,H0,ow,m,R.toRel,(Ss.pu R.toRel q).imp (aD.refl _) λb q H' g'=>by
  cases b with
  |true=>rw[if_pos rfl] at q ⊢;exact⟨O0,M0,H0,ow,m,R.mono g',Ss.go q<|Go.refl g'⟩
  |false=>rw[if_neg av] at q ⊢;exact⟨O0,M0,H0,ow,m,R.mono g',Ss.go q<|Go.refl g'⟩⟩
noncomputable def wh (t:Zb)(b:Zg):Nat->Me->Option (Res<|Fl×Me)
 |0,_=>none
 |n+1,m=>match t m with
  | .ok true=>match b m with
   | .ok (.nx,m')=>wh t b n m'
   | .ok (.ct,m')=>wh t b n m'
   | .ok (.bk,m')=>some<|.ok (.nx,m')
   | .ok (.rt fr d,m')=>some<|.ok (.rt fr d,m')
   | .exc c=>some<|.exc c
   | .stuck=>some .stuck
  | .ok false=>some<|.ok (.nx,m)
  | .exc c=>some<|.exc c
  | .stuck=>some .stuck
theorem Dz {t:Zb}{b:Zg}:∀{n:Nat} {m:Me} {r:Res (Fl×Me)},wh t b n m=some r->wh t b (n+1) m=some r
 |0,_,_,h=>by cases h
 |n+1,m,r,h=>by
  have ih:=@Dz t b n;unfold wh at h ⊢;split
  ·rename_i e;rw[e] at h;split
   ·rename_i m' e2;rw[e2] at h;exact ih h
   ·rename_i m' e2;rw[e2] at h;exact ih h
   ·rename_i m' e2;rw[e2] at h;exact h
   ·rename_i fr d m' e2;rw[e2] at h;exact h
   ·rename_i c e2;rw[e2] at h;exact h
   ·rename_i e2;rw[e2] at h;exact h
  ·rename_i e;rw[e] at h;exact h
  ·rename_i e;rw[e] at h;exact h
  ·rename_i e;rw[e] at h;exact h
theorem Bv {t:Zb}{b:Zg}{n:Nat}{m:Me}{r:Res (Fl×Me)}(h:wh t b n m=some r):∀k,wh t b (n+k) m=some r
 |0=>h
 |k+1=>Dz<|Bv h k
open Classical in
def jU (t:Zb)(b:Zg):Zg:=λm=>
 if h:∃n r,wh t b n m=some r then tP (gy h) else .stuck
theorem GQ {t:Zb}{b:Zg}{m:Me}(h:jU t b m≠.stuck):∃n,wh t b n m=some (jU t b m):=by
 unfold jU at h ⊢;split at h
 ·rename_i q;rw[dif_pos q];exact⟨_,gy<|gy q⟩
 ·exact absurd rfl h
theorem wj {t:Zb}{b:Zg}{m:Me}{r:Res (Fl×Me)}(n:Nat)(h:wh t b n m=some r):jU t b m=r:=by
 unfold jU;have q:∃n r,wh t b n m=some r:=⟨n,r,h⟩;rw[dif_pos q];have z:=gy<|gy q;have a:=Bv z n;have b':=Bv h<|tP q;rw[Nat.add_comm] at b';rw[a] at b';exact cx b'
theorem yW {body:List Stmt}(hp:si (cw X.prog X.w) X.A X.env X.xe)(hc:FT X E c ft)(hb:FSs X E body g):FS X E (.While c body [] pos) (jU ft g):=eG (uC hp hc hb) λW σ H hE=>xq5 hE λO0 M0 H0 ow m R q=>by
 obtain⟨n,hn⟩:=GQ (t:=ft) (b:=g) (m:=m) (λz=>by rw[z] at q;exact q);generalize jU ft g m=r at *;refine⟨λn σ' H'=>∃ow' m',cM (gx X) O0 M0 H0 ow' σ' H' m'/\Go O0 ow H ow' H'/\wh ft g n m'=some r,⟨n,ow,m,R,Go.refl<|aD.refl _,hn⟩,?_⟩;rintro n σ1 H1 ⟨ow1,m1,R1,g1,h1⟩;cases n with
 |zero=>cases h1
 |succ n=>
  refine⟨O0,M0,H0,ow1,m1,R1.toRel,?_⟩;unfold wh at h1;cases e:ft m1 with
  |exc c=>
   rw[e] at h1;cases h1;exact λC H' e g'=>q C H' e λb o e n=>g' b o<|R1.keep b o e n
  |stuck=>rw[e] at h1;cases h1;exact q.elim
  |ok t=>
   rw[e] at h1;intro H2 g2;have R2:=R1.mono g2;have G2:=g1.trans<|Go.refl g2;cases t with
   |false=>
    cases h1;rw[if_neg av];exact q _ _ _ R2 G2
   |true=>
    rw[if_pos rfl];have h1:(match g m1 with
     | .ok (.nx,m')=>wh ft g n m'
     | .ok (.ct,m')=>wh ft g n m'
     | .ok (.bk,m')=>some<|.ok (.nx,m')
     | .ok (.rt fr d,m')=>some<|.ok (.rt fr d,m')
     | .exc c=>some<|.exc c
     | .stuck=>some .stuck)=some r:=h1
    refine⟨λσ' H'=>∃ow' m',cM (gx X) O0 M0 H0 ow' σ' H' m'/\Go O0 ow H ow' H'/\wh ft g n m'=some r,λσ' H' z=>⟨n,i6 _,z⟩,O0,M0,H0,ow1,m1,R2,?_⟩;cases e2:g m1 with
    |exc c=>rw[e2] at h1;cases h1;exact q
    |stuck=>rw[e2] at h1;cases h1;exact q
    |ok a=>
     obtain⟨f2,m2⟩:=a;rw[e2] at h1;cases f2 with
     |nx=>exact λow' σ' H' R' g'=>⟨ow',m2,R',G2.trans g',h1⟩
     |ct=>exact λow' σ' H' R' g'=>⟨ow',m2,R',G2.trans g',h1⟩
     |bk=>cases h1;exact λow' σ' H' R' g'=>q ow' σ' H' R'<|G2.trans g'
     |rt fr d=>cases h1;exact λv ow' σ' H' R' g'=>q v ow' σ' H' R'<|G2.trans g'
end
def NbP (m m':Me):Prop:=(∀(j:Nat) (d:D),m[j]?≠some (Sl.bw d))->∀(j:Nat) (d:D),m'[j]?≠some (Sl.bw d)
def tG (G:Gx)(k:Nat)(h:Zh):TG:=λv σ H Q=>∃O0 M0 H0 ow m d m',Rel G O0 M0 H0 ow σ H m/\DV G (Ow O0 ow) H v d/\h d m=some m'/\
 ∀ow' σ',Rel G O0 M0 H0 ow' σ' H m'->Go O0 ow H ow' H->NbP m m'->σ'.drop k=σ.drop k->Q σ' H
def tGs (G:Gx)(k:Nat)(h:List D->Me->Option Me):TGs:=λvs σ H Q=>∃O0 M0 H0 ow m ds m',Rel G O0 M0 H0 ow σ H m/\DVs G (Ow O0 ow) H vs ds/\h ds m=some m'/\
 ∀ow' σ',Rel G O0 M0 H0 ow' σ' H m'->Go O0 ow H ow' H->NbP m m'->σ'.drop k=σ.drop k->Q σ' H
abbrev FG (X:Cx)(k:Nat)(tg:Expr)(h:Zh):Prop:=PG X tg<|tG (gx X) k h
abbrev FGs (X:Cx)(k:Nat)(tgs:List Expr)(h:List D->Me->Option Me):Prop:=PGs X tgs<|tGs (gx X) k h
theorem Ep {X:Cx}{e:Expr}{T T':TG}(h:PG X e T)(k:∀v σ H Q,T' v σ H Q->T v σ H Q):PG X e T':=λπ s σ H v u Q I r q=>h π s σ H v u Q I r<|k v σ H Q q
theorem zp {X:Cx}{es:List Expr}{T T':TGs}(h:PGs X es T)(k:∀v σ H Q,T' v σ H Q->T v σ H Q):PGs X es T':=λπ s σ H v u Q I r q=>h π s σ H v u Q I r<|k v σ H Q q
noncomputable def hName (i:Nat):Zh:=λd m=>some<|m.set i<|.fz d
noncomputable def qL:List D->Me->Option Me
 |[],m=>some m
 |_,_=>none
noncomputable def dR (h:Zh)(hs:List D->Me->Option Me):List D->Me->Option Me
 |d::ds,m=>(h d m).bind λm'=>hs ds m'
 |_,_=>none
noncomputable def qN (n:Nat)(hs:List D->Me->Option Me):Zh
 | .tup ds,m=>if ds.length=n then hs ds m else none
 |_,_=>none
section
variable {X:Cx}{pos:Pos}{k:Nat}{e:Expr}{es:List Expr}{h:Zh}{hs:List D->Me->Option Me}
theorem cz {i:Nat}{x:Str}(hN:X.N.Nodup)(hi:X.N[i]? = some x)(hx:Loc X.env.scope x)(hk:i<k:=by decide)(hf:X.fn x=true\/X.env.scope.names.lookup x=some .local:=by first|exact .inl rfl|exact .inr rfl|assumption):FG X k (.Name x pos) (hName i):=
 Ep (M5 hN hi hx hf) λv σ H Q hE=>xq7 hE λO0 M0 H0 ow m d m' R hv e q=>by
  cases e;refine q _ _ (R.set hv) Go.set (λnb=>yw nb λ_ z=>by cases z) ?_;rw[List.drop_set,if_pos<|by omega]
theorem oF:FGs X k [] qL:=zp Oj λvs σ H Q hE=>xq7 hE λO0 M0 H0 ow m ds m' R hv e q=>by
 cases hv with
 |nil=>cases e;exact⟨rfl,q _ _ R (Go.refl<|aD.refl _) id rfl⟩
 |cons a t=>cases e
theorem dO (h1:FG X k e h)(h2:FGs X k es hs)(hst:(js (e::es) X.env).map (·.2)=u7 e X.env::(js es X.env).map (·.2):=by rfl):FGs X k (e::es) (dR h hs):=
 zp (JV h1 h2 hst) λvs σ H Q hE=>xq7 hE λO0 M0 H0 ow m ds m' R hv e q=>by
  cases hv with
  |nil=>cases e
  | @cons v vs' d ds' a t=>
   have e':(h d m).bind (λm'=>hs ds' m')=some m':=e;cases e1:h d m with
   |none=>rw[e1] at e';cases e'
   |some m1=>
    rw[e1] at e';exact⟨v,vs',rfl,O0,M0,H0,ow,m,d,m1,R,a,e1,λow' σ' R' g' nb hd=>⟨O0,M0,H0,ow',m1,ds',m',R',t.go R.mutk g'.ev,e',λow2 σ2 R2 g2 nb2 hd2=>q ow2 σ2 R2 (g'.trans g2) (λz=>nb2<|nb z)<|hd2.trans hd⟩⟩
theorem rz {j n:Nat}(hc:X.calm=true)(h:FGs X k es hs)(hn:(js es X.env).length=n:=by rfl)(hst:(js es X.env).findIdx? (·.1)=none:=by rfl):FG X k (.Tuple es j pos) (qN n hs):=
 Ep (RZ hc h hn hst) λv σ H Q hE=>xq7 hE λO0 M0 H0 ow m d m' R hv e q=>by
  cases d with
  |tup ds=>
   obtain⟨a,xs,rfl,hx,hd⟩:=qM<|.inl hv;have e':(if ds.length=n then hs ds m else none)=some m':=e;by_cases z:ds.length=n
   ·rw[if_pos z] at e';exact⟨a,xs,rfl,hx,by rw[bR hd];exact z,O0,M0,H0,ow,m,ds,m',R,hd,e',q⟩
   ·rw[if_neg z] at e';cases e'
  |_=>cases e
end
def vV (G:Gx)(J:It)(ds:List D)(P:(Za)->Hp->Prop):Prop:=∀O H,P O H->
 (∀i,i<ds.length->J.go i H)/\(∀i x H',i<ds.length->J.yld i H x H'->aD H H'/\∃d,ds[i]? = some d/\DV G O H' x d)/\J.stop ds.length H
def tI (G:Gx)(E:XK)(f:Ze):TI:=λσ H R=>∃O0 M0 H0 ow m,Rel G O0 M0 H0 ow σ H m/\Pu G E (f m) H λds=>∀J H',aD H H'->vV G J ds (λO H2=>Ev (Ow O0 ow) H' O H2)->R J H'
def tIw (G:Gx)(E:XK)(f:Ze):TI:=λσ H R=>∃O0 M0 H0 ow m,Rel G O0 M0 H0 ow σ H m/\Pu G E (f m) H λds=>∀J H',aD H H'->vV G J ds (λO H2=>(∀b,O b->Ow O0 ow b\/H' b=none)/\aD H' H2)->R J H'
abbrev FI (X:Cx)(E:XK)(tg e:Expr)(f:Ze):Prop:=PI Calm X tg e<|tI (gx X) E f
abbrev FIw (X:Cx)(E:XK)(tg e:Expr)(f:Ze):Prop:=PI Calm X tg e<|tIw (gx X) E f
theorem oh {X:Cx}{tg e:Expr}{T T':TI}(h:PI Calm X tg e T)(k:∀σ H R,T' σ H R->T σ H R):PI Calm X tg e T':=λπ s σ H R I q=>h π s σ H R I<|k σ H R q
noncomputable def zP (f:Zl):Ze:=λm=>(f m).bind λd=>match d with
 | .lst ds=>.ok ds
 |_=>.stuck
noncomputable def mq (f:Zl):Ze:=λm=>(f m).bind λd=>match d with
 | .tup ds=>.ok ds
 |_=>.stuck
noncomputable def o5 (f:Ze):Ze:=λm=>(f m).bind λd=>match d with
 |[.int j]=>if -(2^62)<=j/\j<2^62 then .ok ((eJ j.toNat).map λ(i:Nat)=>D.int i) else .stuck
 |_=>.stuck
theorem M4 {G:Gx}{O:Za}{H:Hp}{a:Addr}{xs:List V}{ds:List D}(m:∀b,O b->cj (H b))(hl:LstAt G.K O H a xs)(hd:DVs G O H xs ds):vV G (Itl G.K a) ds (λO' H2=>Ev O H O' H2):=by
 intro O' H2 ev;have hq:SqL G.K H2 a xs:=(ql ev.2 hl).sq;have hd2:=hd.go m ev;have η:=bR hd;refine⟨λi hi=>⟨xs,xs[i]'(by omega),hq,by simp⟩,λi x H' hi y=>?_,xs,hq,by omega⟩;obtain⟨e,y⟩:=y;subst e;obtain⟨d,h1,h2⟩:=tL hd2<|y xs hq;exact⟨aD.refl _,d,h1,h2⟩
theorem JB {G:Gx}{O:Za}{H:Hp}{a:Addr}{xs:List V}{ds:List D}(m:∀b,O b->cj (H b))(hl:SqL G.K H a xs)(hd:DVs G O H xs ds):vV G (Itl G.K a) ds (λO' H2=>(∀b,O' b->O b\/H b=none)/\aD H H2):=by
 intro O' H2 ⟨sub,g⟩;have hq:SqL G.K H2 a xs:=Lh hl g;have hd2:=hd.go m ⟨sub,.of g⟩;have η:=bR hd;refine⟨λi hi=>⟨xs,xs[i]'(by omega),hq,by simp⟩,λi x H' hi y=>?_,xs,hq,by omega⟩;obtain⟨e,y⟩:=y;subst e;obtain⟨d,h1,h2⟩:=tL hd2<|y xs hq;exact⟨aD.refl _,d,h1,h2⟩
theorem Tt {G:Gx}{O:Za}{H:Hp}{a:Addr}{xs:List V}{ds:List D}(m:∀b,O b->cj (H b))(hl:SqT G.K H a xs)(hd:DVs G O H xs ds):vV G (Itt G.K a) ds (λO' H2=>Ev O H O' H2):=by
 intro O' H2 ev;have hq:SqT G.K H2 a xs:=Rb m ev.2 hl;have hd2:=hd.go m ev;have η:=bR hd;refine⟨λi hi=>⟨xs,xs[i]'(by omega),hq,by simp⟩,λi x H' hi y=>?_,xs,hq,by omega⟩;obtain⟨e,y⟩:=y;subst e;obtain⟨d,h1,h2⟩:=tL hd2<|y xs hq;exact⟨aD.refl _,d,h1,h2⟩
theorem vV.weak {G:Gx}{J:It}{ds:List D}{O:Za}{H:Hp}(h:vV G J ds (λO' H2=>Ev O H O' H2)):vV G J ds (λO' H2=>(∀b,O' b->O b\/H b=none)/\aD H H2):=
 λO' H2 ⟨s,g⟩=>h O' H2 ⟨s,.of g⟩
theorem JT {G:Gx}{lo:Int}{n:Nat}{P:(Za)->Hp->Prop}:vV G (Itr lo n) ((eJ n).map λ(k:Nat)=>D.int<|lo+k) P:=by
 intro O H _;refine⟨λi hi=>(show i<n by simpa using hi),λi x H' hi y=>?_,by show n<=_;simp⟩;obtain⟨e,y⟩:=y;subst e y;have hi':i<n:=by simpa using hi
 exact⟨aD.refl _,_,by simp[bX,List.getElem?_range hi'],.int _⟩
section
variable {X:Cx}{E:XK}{tg e a b:Expr}{f:Zl}{fs:Ze}{p pos:Pos}
theorem De (h:FE X E e f):FI X E tg e (zP f):=oh (Gk h) λσ H R hE=>xq5 hE λO0 M0 H0 ow m Re q=>⟨O0,M0,H0,ow,m,Re,q.bind.imp (aD.refl _) λd q v H' g hv=>by
 cases d with
 |lst ds=>
  cases hv with
  |lst hl hd=>exact⟨_,rfl,⟨_,hl.sq⟩,q _ H' g<|M4 (Re.mono g).mutk hl hd⟩
 |_=>exact q.elim⟩
theorem mG (h:FE X E e f):FI X E tg e (mq f):=oh (RL h) λσ H R hE=>xq5 hE λO0 M0 H0 ow m Re q=>⟨O0,M0,H0,ow,m,Re,q.bind.imp (aD.refl _) λd q v H' g hv=>by
 cases d with
 |tup ds=>
  cases hv with
  |tup hl hd=>exact⟨_,rfl,⟨_,hl.sq⟩,q _ H' g<|Tt (Re.mono g).mutk hl.sq hd⟩
 |_=>exact q.elim⟩
theorem Mq (h:FB X E e f):FIw X E tg e (zP f):=oh (Gk h) λσ H R hE=>xq5 hE λO0 M0 H0 ow m Re q=>⟨O0,M0,H0,ow,m,Re,q.bind.imp (aD.refl _) λd q v H' g hv=>by
 cases d with
 |lst ds=>
  obtain⟨a,xs,rfl,hl,hd⟩:=gM hv;exact⟨a,rfl,⟨_,hl⟩,q _ H' g<|JB (Re.mono g).mutk hl hd⟩
 |_=>exact q.elim⟩
theorem jV {fl:Ze}(h:FI X E tg e fl):FIw X E tg e fl:=oh h λσ H R hE=>xq5 hE λO0 M0 H0 ow m Re q=>⟨O0,M0,H0,ow,m,Re,q.imp (aD.refl _) λds q J H' g hi=>q J H' g hi.weak⟩
theorem km (hg:Gl X "range")(hm:X.mg "range" = none)(ha:FAB X E [a] fs)(hs:ax [a] X.env=[(false,eval a X.env)]:=by rfl):FI X E tg (.Call (.Name "range" p) [a] [] pos) (o5 fs):=
 oh (Hc hg hm ha hs) λσ H R hE=>xq5 hE λO0 M0 H0 ow m Re q=>⟨O0,M0,H0,ow,m,Re,q.bind.imp (aD.refl _) λds q vs H' g hv=>by
  cases hv with
  |nil=>exact q.elim
  | @cons v vs d ds h1 h2=>
   cases h2 with
   |cons _ _=>cases d<;>exact q.elim
   |nil=>
    cases d with
    |int j=>
     cases bQ h1;obtain⟨⟨z1,z2⟩,k⟩:=z7 q;refine⟨j,rfl,z1,z2,k _ H' g ?_⟩
     have:=JT (G:=gx X) (lo:=0) (n:=j.toNat) (P:=λO H2=>Ev (Ow O0 ow) H' O H2)
     simpa using this
    |_=>exact q.elim⟩
end
noncomputable def gH (h:Zh)(g:Zg):List D->Zg
 |[],m=>.ok (.nx,m)
 |d::ds,m=>match h d m with
  |none=>.stuck
  |some m1=>match g m1 with
   | .ok (.nx,m2)=>gH h g ds m2
   | .ok (.ct,m2)=>gH h g ds m2
   | .ok (.bk,m2)=>.ok (.nx,m2)
   | .ok (.rt fr v,m2)=>.ok (.rt fr v,m2)
   | .exc c=>.exc c
   | .stuck=>.stuck
def rK (fi:Ze)(h:Zh)(g:Zg):Zg:=λm=>(fi m).bind λds=>gH h g ds m
theorem O8 {Cm:Cx->Prop}{X:Cx}{E:XK}{tg iter:Expr}{body:List Stmt}{fi:Ze}{k:Nat}{h:Zh}{g:Zg}{pos:Pos}(hp:si (cw X.prog X.w) X.A X.env X.xe)(hc:Cm X)(hi:PI Cm X tg iter (tI (gx X) E fi))(hg:FG X k tg h)(hb:FSs X E body g)
  (hs:∀x,eT iter X.env x=pure x:=by intro _;rfl):FS X E (.For tg iter body [] pos) (rK fi h g):=eG (Sy hp hc hi hg hb hs) λW σ H hE=>xq5 hE λO0 M0 H0 ow m R q=>
 ⟨O0,M0,H0,ow,m,R.toRel,(Ss.pu R.toRel q).imp (aD.refl _) λds q J H1 g1 it=>by
  have R1:=R.mono g1;have q1:=Ss.go q<|Go.refl g1;generalize hr:gH h g ds m=r at *;refine⟨λi n σ' H'=>∃ow' m',cM (gx X) O0 M0 H0 ow' σ' H' m'/\Go O0 ow H1 ow' H'/\n=ds.length-i/\i<=ds.length/\gH h g (ds.drop i) m'=r,⟨_,ow,m,R1,Go.refl<|aD.refl _,rfl,eW _,hr⟩,?_⟩;rintro i n σ2 H2 ⟨ow2,m2,R2,g2,rfl,hi,e2⟩;obtain⟨i1,i2,i3⟩:=it _ H2 g2.ev;by_cases hlt:i<ds.length
  ·refine .inr ⟨i1 i hlt,λσ' H'=>∃ow' m',cM (gx X) O0 M0 H0 ow' σ' H' m'/\Go O0 ow H1 ow' H'/\gH h g (ds.drop<|i+1) m'=r,λσ' H' ⟨ow',m',R',g',e'⟩=>⟨ds.length-(i+1),by omega,ow',m',R',g',rfl,hlt,e'⟩,λx H3 y=>?_⟩;obtain⟨s3,d,hd,dv⟩:=i2 i x H3 hlt y;have ed:ds.drop i=d::ds.drop (i+1):=by
    rw[i0 hlt];rw[cf hlt] at hd;cases hd;rfl
   rw[ed] at e2;unfold gH at e2;cases eh:h d m2 with
   |none=>rw[eh] at e2;subst e2;exact q1.elim
   |some m3=>
    rw[eh] at e2;refine⟨O0,M0,H0,ow2,m2,d,m3,(R2.mono s3).toRel,dv,eh,λow' σ' R' g' nb _=>?_⟩;have G3:=(g2.trans<|Go.refl s3).trans g';refine⟨O0,M0,H0,ow',m3,⟨R',nb R2.nb⟩,?_⟩;cases eg:g m3 with
    |exc c=>simp only[eg] at e2;subst e2;exact q1
    |stuck=>simp only[eg] at e2;subst e2;exact q1
    |ok a=>
     obtain⟨f4,m4⟩:=a;simp only[eg] at e2;cases f4 with
     |nx=>exact λow4 σ4 H4 R4 g4=>⟨ow4,m4,R4,G3.trans g4,e2⟩
     |ct=>exact λow4 σ4 H4 R4 g4=>⟨ow4,m4,R4,G3.trans g4,e2⟩
     |bk=>subst e2;exact λow4 σ4 H4 R4 g4=>q1 ow4 σ4 H4 R4<|G3.trans g4
     |rt fr v=>subst e2;exact λv ow4 σ4 H4 R4 g4=>q1 v ow4 σ4 H4 R4<|G3.trans g4
  ·have e:i=ds.length:=by omega
   subst e;rw[oq] at e2;unfold gH at e2;subst e2;exact .inl ⟨i3,q1 ow2 σ2 H2 R2 g2⟩⟩
theorem u5 {X:Cx}{E:XK}{tg iter:Expr}{body:List Stmt}{fi:Ze}{k:Nat}{h:Zh}{g:Zg}{pos:Pos}(hp:si (cw X.prog X.w) X.A X.env X.xe)(hc:X.calm=true)(hi:FI X E tg iter fi)(hg:FG X k tg h)(hb:FSs X E body g)
  (hs:∀x,eT iter X.env x=pure x:=by intro _;rfl):FS X E (.For tg iter body [] pos) (rK fi h g):=O8 (Cm:=Calm) hp hc hi hg hb hs
noncomputable def Sl.bor:Sl->Sl
 | .ow d=>.bw d
 | .io d=>.bw d
 | .hd _ _ _=>.un
 |s=>s
def cMe (k:Nat)(cap:List Nat)(m:Me):Me:=eD k .un++cap.map λj=>(m.getD j .un).bor
noncomputable def gK (h:Zh)(ft:Zb)(fe:Zl)(m0:Me):List D->Res (List D)
 |[]=>.ok []
 |d::ds=>match h d m0 with
  |none=>.stuck
  |some m1=>match ft m1 with
   | .ok true=>match fe m1 with
    | .ok y=>match gK h ft fe m0 ds with
     | .ok ys=>.ok (y::ys)
     |_=>.stuck
    |_=>.stuck
   | .ok false=>gK h ft fe m0 ds
   |_=>.stuck
def dU (k:Nat)(cap:List Nat)(fi:Ze)(h:Zh)(ft:Zb)(fe:Zl):Zl:=λm=>(fi m).bind λds=>
 if ds.length<=aT then match gK h ft fe (cMe k cap m) ds with
  | .ok ys=>.ok<|.lst ys
  |_=>.stuck
 else .stuck
abbrev Rg (X:Cx)(E:XK)(ifs:List Expr)(f:Zb):Prop:=Ik X ifs<|tT (gx X) E f
def jD:Zb:=λ_=>.ok true
theorem eU:Rg X E [] jD:=λπ s σ H Q I hE=>xq5 hE λO0 M0 H0 ow m R q=>Dt π s σ H Q I<|q H<|aD.refl _
section
theorem Kv (R:Rel G O0 M0 H0 ow σ H m)(g:aD H H2)(hl:H l=none)(hz:H2 l=some (.lst zs)):
  Rel G (Op (Ow O0 ow) l) (λ_=>False) (λ_=>none) (λ_=>none) (cSt k cap σ) H2 (cMe k cap m):=by
 have sub:∀b,Ow (Op (Ow O0 ow) l) (λ_=>none) b->Ow O0 ow b\/H b=none:=λb z=>by
  rw[qe] at z;exact z.elim .inl λe=>.inr (by rw[e];exact hl)
 have sup:∀b,Ow O0 ow b->Ow (Op (Ow O0 ow) l) (λ_=>none) b:=λb z=>.inl<|.inl z;refine⟨by simp[cSt,cMe],λb o e _=>(by cases e),λb z=>z.elim,λb z=>?_,λi a e=>(by cases e),λi j a e=>(by cases e),λ_ _=>rfl,λi s e=>?_⟩
 ·rw[qe] at z;rcases z with z|z
  ·exact fJ g<|R.mutk b z
  ·rw[z,hz];exact .inl ⟨zs,rfl⟩
 ·unfold cMe at e;by_cases hi:i<k
  ·rw[bE (by simpa using hi),c8,if_pos hi] at e;cases e;rfl
  ·rw[bp (by simp;lia),ff,bX] at e;have eσ:(cSt k cap σ)[i]? = (cap[i-k]?).map λj=>(σ[j]?).join:=by
    unfold cSt;rw[bp (by simp;lia),ff,bX]
   cases ec:cap[i-k]? with
   |none=>rw[ec] at e;cases e
   |some j=>
    rw[ec] at e eσ;rw[eσ];cases ej:m[j]? with
    |none=>
     have:m.getD j .un=.un:=by simp[kL,ej]
     rw[fN,this] at e;cases e;rfl
    |some s0=>
     have:m.getD j .un=s0:=by simp[kL,ej]
     rw[fN,this] at e;cases e;have z:=R.slot j s0 ej;cases s0 with
     |un=>rfl
     |fz d=>
      obtain⟨_,x,e1,hv⟩:=z;exact⟨rfl,x,by rw[fN,e1];rfl,(hv.bZ sub).mono g⟩
     |ow d=>
      refine o4 z λa h1 h2 h3 h4=>?_;exact⟨rfl,.ref a,by rw[fN,h3];rfl,.inr ⟨a,rfl,sup a<|.inr ⟨j,h1⟩,(h4.bZ sub).mono g⟩⟩
     |io d=>
      refine o4 z λa h1 h2 h3 h4=>?_;exact⟨rfl,.ref a,by rw[fN,h3];rfl,.inr ⟨a,rfl,sup a<|.inr ⟨j,h1⟩,(h4.bZ sub).mono g⟩⟩
     |bw d=>
      obtain⟨_,x,e1,hv⟩:=z;refine⟨rfl,x,by rw[fN,e1];rfl,?_⟩;rcases hv with hv|⟨a,e2,o,hv⟩
      ·exact .inl<|(hv.bZ sub).mono g
      ·exact .inr ⟨a,e2,sup a o,(hv.bZ sub).mono g⟩
     |hd w a d=>rfl
theorem DG (hq:tN (gx X) E (dU k cap fi h ft fe) σ H Q):zr k cap (tIw (gx X) E fi) (tG (gx X) k h) (tT (gx X) E0 ft) (tE (gx X) E0 fe) σ H Q:=by
 refine Gj hq λO0 M0 H0 ow m R q=>?_;refine⟨O0,M0,H0,ow,m,R,q.bind.imp (aD.refl _) λds q J H1 g1 it l hl=>?_⟩;obtain⟨hz,q⟩:=xr q;cases hc:gK h ft fe (cMe k cap m) ds with
 |exc c=>rw[hc] at q;exact q.elim
 |stuck=>rw[hc] at q;exact q.elim
 |ok ys=>
  rw[hc] at q;have hlH:H l=none:=g1.free hl;have mk1:∀b,Op (Ow O0 ow) l b->Ow O0 ow b\/H1 b=none:=λb z=>z.elim .inl λe=>.inr (by rw[e];exact hl);refine⟨λi n zs H'=>n=ds.length-i/\i<=ds.length/\zs.length<=i/\aD H1 H'/\H' l=some (.lst zs)/\∃es rest,DVs (gx X) (Op (Ow O0 ow) l) H' zs es/\gK h ft fe (cMe k cap m) (ds.drop i)=.ok rest/\es++rest=ys,
   ⟨ds.length,by simp,eW _,aI _,bJ hl _,aH,[],ys,.nil,hc,rfl⟩,?_⟩
  rintro i n zs H' ⟨rfl,hi,hzi,g2,hH,es,rest,hes,hcr,hys⟩;obtain⟨i1,i2,i3⟩:=it (Op (Ow O0 ow) l) H' ⟨mk1,g2⟩;by_cases hlt:i<ds.length
  ·refine .inr ⟨i1 i hlt,λx H2 y=>?_⟩;obtain⟨g3,d,hd,dv⟩:=i2 i x H2 hlt y;have ed:ds.drop i=d::ds.drop (i+1):=by
    rw[i0 hlt];rw[cf hlt] at hd;cases hd;rfl
   rw[ed] at hcr;unfold gK at hcr;cases eh:h d (cMe k cap m) with
   |none=>rw[eh] at hcr;cases hcr
   |some m1=>
    rw[eh] at hcr;have G2:aD H H2:=(g1.trans g2).trans g3;have R2:=Kv (k:=k) (cap:=cap) (l:=l) (zs:=zs) R G2 hlH<|g3 _ _ hH;refine⟨_,_,_,_,_,d,m1,R2,by rw[qe];exact dv,eh,λow' σ' R' g' nb hdr=>⟨hdr,_,_,_,ow',m1,R',?_⟩⟩;simp only[] at hcr;cases et:ft m1 with
    |exc c=>rw[et] at hcr;cases hcr
    |stuck=>rw[et] at hcr;cases hcr
    |ok t=>
     rw[et] at hcr;intro H3 g4;cases t with
     |false=>
      rw[if_neg av];exact⟨ds.length-(i+1),by lia,rfl,hlt,by lia,(g2.trans g3).trans g4,g4 _ _<|g3 _ _ hH,es,rest,hes.mono<|g3.trans g4,hcr,hys⟩
     |true=>
      rw[if_pos rfl];refine⟨_,_,_,ow',m1,R'.mono g4,?_⟩;simp only[] at hcr;cases ee:fe m1 with
      |exc c=>rw[ee] at hcr;cases hcr
      |stuck=>rw[ee] at hcr;cases hcr
      |ok y'=>
       rw[ee] at hcr;intro v H5 g5 hv;simp only[] at hcr;cases er:gK h ft fe (cMe k cap m) (ds.drop<|i+1) with
       |exc c=>rw[er] at hcr;cases hcr
       |stuck=>rw[er] at hcr;cases hcr
       |ok rest'=>
        rw[er] at hcr;cases hcr;have G5:aD H' H5:=(g3.trans g4).trans g5;have mk5:∀b,Op (Ow O0 ow) l b->cj (H5 b):=λb z=>by
         rcases z with z|z
         ·exact fJ (((g1.trans g2).trans G5))<|R.mutk b z
         ·rw[z,G5 _ _ hH];exact .inl ⟨zs,rfl⟩
        have kp5:Kp (Op (Ow O0 ow) l) H5 (upd H5 l<|.lst<|zs++[v]):=λb o e n=>by
         rw[aM<|show b≠l from λz=>n<|.inr z];exact e
        refine⟨G5 _ _ hH,by lia,ds.length-(i+1),by lia,rfl,hlt,by rw[be,gc];lia,?_,aH,es++[y'],rest',?_,er,by rw[bP];exact hys⟩
        ·exact PX ((Uw<|g2.trans G5).trans S5) hl
        ·exact iC ((hes.mono G5).kp mk5 kp5)<|.cons ((hv.bZ λb z=>.inl<|.inl z).kp mk5 kp5) .nil
  ·have e:i=ds.length:=by lia
   subst e;rw[oq] at hcr;cases hcr;rw[dA] at hys;subst hys;exact .inl ⟨i3,q l H' (g1.trans g2) hlH ⟨zs,hH,hes⟩⟩
section
theorem lB (sc:mo)(N' caps:List Str)(k:Nat)(cap:List Nat)(hcalm:X.calm=true)(S:CSc sc scope caps)(hcap:h8 (λj x=>X.N[j]? = some x) cap caps)
  (hi:FIw X E tg iter fi) (hg:∀cl C sE HE fp π,FG (cC X N' scope cl C sE HE fp π) k tg h) (ht:∀cl C sE HE fp π,Rg (cC X N' scope cl C sE HE fp π) E0 ifs ft) (he:∀cl C sE HE fp π,FE (cC X N' scope cl C sE HE fp π) E0 elt fe)
  (hsc:X.env.scope=sc:=by rfl) (hN:N'.drop k=caps:=by rfl) (hk:k<=N'.length:=by decide) (hs:∀x,eT iter X.env x=pure x:=by intro _;rfl):
  FN X E (.ListComp elt [⟨tg,iter,ifs,0⟩] scope pos) (dU k cap fi h ft fe):=bI (Dk sc N' caps k cap hcalm S hcap hi hg ht he hsc hN hk hs) λ_ _ _ q=>DG q
theorem lO (sc:mo)(N' caps:List Str)(k:Nat)(cap:List Nat)(hnd:X.N.Nodup)(hi':X.N[i]? = some y)(hy:Loc X.env.scope y)(hcalm:X.calm=true)(S:CSc sc scope caps)(hcap:h8 (λj x=>X.N[j]? = some x) cap caps)
  (hi:FIw X E tg iter fi) (hg:∀cl C sE HE fp π,FG (cC X N' scope cl C sE HE fp π) k tg h) (ht:∀cl C sE HE fp π,Rg (cC X N' scope cl C sE HE fp π) E0 ifs ft) (he:∀cl C sE HE fp π,FE (cC X N' scope cl C sE HE fp π) E0 elt fe)
  (ψ:iS (.ListComp elt [⟨tg,iter,ifs,0⟩] scope pos) (some<|.Name y py) spos.line X.env=pure true:=by rfl)
  (hsc:X.env.scope=sc:=by rfl) (hN:N'.drop k=caps:=by rfl) (hk:k<=N'.length:=by decide) (hs:∀x,eT iter X.env x=pure x:=by intro _;rfl)
  (hf:X.fn y=true\/X.env.scope.names.lookup y=some .local:=by first|exact .inl rfl|exact .inr rfl|assumption):
  FS X E (.Assign [.Name y py] (.ListComp elt [⟨tg,iter,ifs,0⟩] scope pos) spos) (cA i<|dU k cap fi h ft fe):=
 eG (Cd sc N' caps k cap hnd hi' hy hcalm S hcap hi hg ht he ψ hsc hN hk hs hf) λW σ H q=>by
  refine DG (h:=h) (ft:=ft) (fe:=fe) (Q:=λx H1=>xg i x σ H1 W.nx) ?_;refine Gj (JZ q) λO0 M0 H0 ow m R q=>?_;exact⟨O0,M0,H0,ow,m,R,q.imp (aD.refl _) λ_ k p H' g n o=>k _ H' g<|(o.bZ λb z=>.inl<|.inl z).dv<|R.BJ n⟩
end
end
def spF (G:Gx)(Φ:Zf):Sp:=λvs H Q E=>∃O ds,(∀b,O b->cj (H b))/\DVs G O H vs ds/\Pu G E (Φ ds) H λr=>∀v H',aD H H'->DV G O H' v r.2->(r.1=true->Fr G O H v H' r.2)->Q v H'
noncomputable def bF (N n:Nat)(g:Zg):Zf:=λds=>if ds.length=n then match g (ds.map Sl.fz++eD (N-n) Sl.un) with
  | .ok (.rt fr d,_)=>.ok (fr,d)
  | .ok (.nx,_)=>.ok (false,.non)
  | .exc c=>.exc c
  |_=>.stuck
 else .stuck
abbrev FF (P:bb)(w:cp)(K:aw)(mg:Zs)(base:Heap)(k:Nat)(x:Str)(ps:List Str)(Φ:Zf):Prop:=Hd.Fn P w K mg base k x ps<|spF ⟨K,mg⟩ Φ
theorem Hy (hm:∀b,O b->cj (H b))(hd:DVs G O H vs ds)(hn:ds.length=n):
  cM G O (λ_=>False) H (λ_=>none) (L2.start N vs) H (ds.map Sl.fz++eD (N.length-n) Sl.un):=by
 have hl:=bR hd;refine⟨⟨by simp[L2.start,hl,hn],λb o e _=>e,λb z=>z.elim,λb z=>by rw[qe] at z;exact hm b z,λi a e=>(by cases e),λi j a e=>(by cases e),λ_ _=>rfl,λi s e=>?_⟩,λj d e=>?_⟩
 ·by_cases hi:i<ds.length
  ·rw[bE (by simpa using hi),bX] at e;cases ed:ds[i]? with
   |none=>rw[ed] at e;cases e
   |some d=>
    rw[ed] at e;cases e;obtain⟨x,hx,dx⟩:=vf hd ed;refine⟨rfl,x,?_,by rw[qe];exact dx⟩;unfold L2.start;rw[bE (by simpa[hl] using hi),bX,hx];rfl
  ·rw[bp (by simp;lia),c8] at e;split at e
   ·cases e;rfl
   ·cases e
 ·by_cases hi:j<ds.length
  ·rw[bE (by simpa using hi),bX] at e;cases ed:ds[j]? with
   |none=>rw[ed] at e;cases e
   |some d=>rw[ed] at e;cases e
  ·rw[bp (by simp;lia),c8] at e;split at e<;>cases e
section
variable {P:bb}{w:cp}{K:aw}{mg:Zs}{base:Heap}
theorem bW {x qual:Str}{st:Stmt}{f:Addr}{fd:de}{N ps:List Str}{k:Nat}{g:Zg}(Fu:Fun K x qual st f fd)(S:aX N ps (aC st))
  (hbody:∀(cdv:ay) (A:dy) (outer:List Env) (s:aS) (H:Hp) (E:XK),fZ k (A.deeper<|qB qual (aC st) s.heap.objs.size f cdv)->
   FSs (uR (CX1 P w) P w K mg base N qual (aC st) f cdv A outer s H E) E (fM st) g):b8 P w K mg base (CX1 P w) (k+1) f fd ps (spF ⟨K,mg⟩<|bF N.length ps.length g):=by
 refine fD Fu S (λvs H Q E h=>?_) λcdv A outer s H vs Q E hr h=>?_
 ·refine uE h λO ds _ hd q=>?_;rw[bR hd];unfold bF at q;exact(xr q).1
 ·refine uE h λO ds hm hd q=>?_;unfold bF at q;obtain⟨hn,q⟩:=xr q;refine⟨_,hbody cdv A outer s H E hr,O,λ_=>False,H,λ_=>none,_,Hy hm hd hn,?_⟩;have sm:∀{ow' σ' H' m'},cM (⟨K,mg⟩:Gx) O (λ_=>False) H ow' σ' H' m'->aD H H':=λR b o e=>R.keep b o e id;cases z:g (ds.map Sl.fz++eD (N.length-ps.length) Sl.un) with
  |exc c=>rw[z] at q;exact λC H' e kp=>q C H' e λb o e=>kp b o e id
  |stuck=>rw[z] at q;exact q.elim
  |ok a=>
   obtain⟨fl,m'⟩:=a;rw[z] at q;cases fl with
   |bk=>exact q.elim
   |ct=>exact q.elim
   |nx=>exact λow' σ' H' R' _=>q _ H' (sm R') .non λz=>by cases z
   |rt fr d=>
    intro v ow' σ' H' R' _ hv hf;refine q v H' (sm R') (hv.bZ λb z=>.inl<|.inl z) λz=>?_;rcases hf z with⟨p,e1,e2,e3⟩|t
    ·exact .inl ⟨p,e1,e2,e3.bZ λb z=>.inl<|z.elim (λy=>.inl<|.inl y) .inr⟩
    ·exact .inr t
theorem QL {k:Nat}{f:Addr}{fd:de}{ps:List Str}:b8 P w K mg base (CX1 P w) k f fd ps (spF ⟨K,mg⟩ λ_=>.stuck):=
 ⟨λ_ _ _ _ hE=>by obtain⟨_,_,_,_,q⟩:=hE;exact q.elim,λ_ _ _ _ _ _ _ _ _ _ _ _ _ ⟨_,_,_,_,q⟩=>q.elim⟩
end
noncomputable def fFn (Φ:Zf)(fs:Ze):Zl:=λm=>(fs m).bind λds=>(Φ ds).bind λr=>.ok r.2
def Q0 (Φ:Zf)(fs:Ze):Zl:=λm=>(fs m).bind λds=>(Φ ds).bind λr=>if(r.1&&!isTup r.2)=true then .ok r.2 else .stuck
section
theorem bY (Fh:FF X.prog X.w X.K X.mg X.base k x ps Φ)(hr:fZ j X.A)(hx:Passes (CX1 X.prog X.w) X E)(ha:FAE X E (e::es) fs)(hk:k<=j:=by decide)(hg:Gl X x:=by rfl)
  (hdb:(x==("__debug__":Str))=false:=by decide) (he:ax (e::es) X.env=(false,eval e X.env)::ax es X.env:=by rfl) (θ:(gX pos<|ax es X.env).any (·.1)=false:=by rfl):
  FE X E (.Call (.Name x p) (e::es) [] pos) (fFn Φ fs):=by
 refine rZ Fh.ex λf fd G b kp m=>?_;refine bI (pW G (hr.mono hk) hg m kp b .nil hx ha hdb he θ) λσ H Q hE=>xq5 hE λO0 M0 H0 ow m R q=>⟨O0,M0,H0,ow,m,R,q.bind.imp (aD.refl _) λds q vs H1 g1 hv=>?_⟩;show spF _ _ (vs++[]) _ _ _;rw[dA];exact⟨_,ds,(R.mono g1).mutk,hv,q.bind.imp g1 λr q v H' g2 hv' _=>q v H' (g1.trans g2) hv'⟩
theorem Va (Fh:FF X.prog X.w X.K X.mg X.base k x ps Φ)(hr:fZ j X.A)(hx:Passes (CX1 X.prog X.w) X E)(ha:FAE X E (e::es) fs)(hk:k<=j:=by decide)(hg:Gl X x:=by rfl)
  (hdb:(x==("__debug__":Str))=false:=by decide) (he:ax (e::es) X.env=(false,eval e X.env)::ax es X.env:=by rfl) (θ:(gX pos<|ax es X.env).any (·.1)=false:=by rfl):
  FN X E (.Call (.Name x p) (e::es) [] pos) (Q0 Φ fs):=by
 refine rZ Fh.ex λf fd G b kp m=>?_;refine bI (pW G (hr.mono hk) hg m kp b .nil hx ha hdb he θ) λσ H Q hE=>xq5 hE λO0 M0 H0 ow m R q=>⟨O0,M0,H0,ow,m,R,q.bind.imp (aD.refl _) λds q vs H1 g1 hv=>?_⟩;show spF _ _ (vs++[]) _ _ _;rw[dA];refine⟨_,ds,(R.mono g1).mutk,hv,q.bind.imp g1 λr q v H' g2 hv' fr=>?_⟩;obtain⟨hf,q⟩:=z7 q;obtain⟨hf1,hf2⟩:=k8.mp hf;obtain⟨p,rfl,n,o⟩:=(fr hf1).lst (by simpa using hf2);exact q p H' (g1.trans g2) (g1.free n) o
end
def Bg (i:Int):Prop:=i.natAbs<lmM
instance (i:Int):Decidable (Bg i):=inferInstanceAs<|Decidable<|_<_
def Bq (i:Int):Prop:=i.natAbs<lmD
instance (i:Int):Decidable (Bq i):=inferInstanceAs<|Decidable<|_<_
theorem Qq {i:Int}(h:i.natAbs<2^60000):Bg i:=by unfold Bg;rw[Ij];exact h
theorem Ux {i:Int}(h:i.natAbs<2^8900):Bq i:=by unfold Bq;rw[Ca];exact h
@[simp] theorem Wq {i:Int}(h:Bq i):Bg i:=by
 unfold Bq at h;rw[Ca] at h;exact Qq<|a9 h<|k9 (by decide)<|by decide
noncomputable def dvI (i j:Int):Int:=if 0<j then i/j else i.fdiv j
noncomputable def mdI (i j:Int):Int:=if 0<j then i%j else i.fmod j
noncomputable def bL:D->D->Option D
 | .int i,.int j=>some<|.int<|i+j
 | .str a,.str b=>if a.length+b.length<=aT then some (.str<|a++b) else none
 | .lst a,.lst b=>if a.length+b.length<=aT then some (.lst<|a++b) else none
 | .tup a,.tup b=>if a.length+b.length<=aT then some (.tup<|a++b) else none
 |_,_=>none
noncomputable def qO:D->D->Option D
 | .int i,.int j=>some<|.int<|i-j
 |_,_=>none
noncomputable def lR:D->D->Option D
 | .int i,.int j=>if Bg i/\Bg j\/j.natAbs<2^62 then some (.int<|i*j) else none
 |_,_=>none
def cZ:D->D->Option D
 | .int i,.int j=>if j≠0/\Bq j then some (.int<|dvI i j) else none
 |_,_=>none
def cX:D->D->Option D
 | .int i,.int j=>if j≠0 then some (.int<|mdI i j) else none
 |_,_=>none
def Tw:D->D->Option D
 | .int i,.int j=>if 0<=j/\j<=1000000/\i.natAbs<2^64 then some (.int<|i^j.toNat) else none
 |_,_=>none
noncomputable def pU:D->Option D
 | .int i=>some<|.int (-i)
 |_=>none
section
variable {X:Cx}
theorem oif {c:Prop}[Decidable c]{α:Type}{a r:α}(h:(if c then some a else none)=some r):c/\a=r:=by
 by_cases z:c
 ·rw[if_pos z] at h;exact⟨z,cx h⟩
 ·rw[if_neg z] at h;cases h
theorem Nr {π:Zo}{σ:L2.St}{H:Hp}{s:aS}{Q:VK}{O:Za}{i:Str}{t:Tok}{tk:Nat}(I:Inv X π σ H s)(q:∀v H',aD H H'->DV (gx X) O H' v (.str i)->Q v H'):EP X π σ Q (.str i t) { s with toks:=tk }:=
 ⟨.str i,H,I.tok _,⟨t,rfl⟩,q _ _ (aD.refl _)<|.str i⟩
theorem Pb {π:Zo}{σ:L2.St}{H:Hp}{s:aS}{Q:VK}{O:Za}{xs:List V}{ds:List D}{χ:List ay}{h':Heap}{tk:Nat}(I:Inv X π σ H s)(m:∀b,O b->cj (H b))(hd:DVs (gx X) O H xs ds)(r:Vals xs χ)(hz:xs.length<=aT)
  (kp:∀b o,s.heap.get? b=some o->h'.get? b=some o) (e:∃n,h'.get? s.heap.objs.size=some { cls:=.type "list",data:=.seq χ.toArray n }) (q:∀p H',aD H H'->H p=none->OV (gx X) (Op O p) H' p (.lst ds)->Q (.ref p) H'):EP X π σ Q (.ref s.heap.objs.size) { s with heap:=h',toks:=tk }:=by
 have hf:H s.heap.objs.size=none:=I.hok.fresh<|aI _;obtain⟨n,e⟩:=e;refine⟨.ref s.heap.objs.size,upd H s.heap.objs.size<|.lst xs,I.laid kp (aI _) ⟨hz,χ,n,r,e⟩,rfl,q _ _ (bJ hf _) hf ⟨xs,aH,?_⟩⟩;exact(hd.bZ λb z=>z.elim .inl λe=>.inr (by rw[e];exact hf)).mono (bJ hf _)
theorem Ji {G:Gx}{O:Za}{H:Hp}{r:D}{Q:VK}(m:∀b,O b->cj (H b))(q:∀v H',aD H H'->DV G O H' v r->Q v H'):∀p H',aD H H'->H p=none->OV G (Op O p) H' p r->Q (.ref p) H':=λp H' g n o=>
 q _ H' g ((o.bZ λb z=>.inl<|.inl z).dv λz=>by
  have:=m p z
  rw[n] at this;rcases this with⟨_,e⟩|⟨_,e⟩|⟨_,e⟩|⟨_,e⟩<;>cases e)
def UW (G:Gx):R2:=λx y H Q=>∃O ds es,(∀b,O b->cj (H b))/\DW G O H x (.lst ds)/\DW G O H y (.lst es)/\ds.length+es.length<=aT/\∀p H',aD H H'->H p=none->OV G (Op O p) H' p (.lst<|ds++es)->Q (.ref p) H'
theorem My:OpR X (fm .Add) (UW<|gx X):=by
 intro π s σ H x y v u Q I rx ry h;obtain⟨O,ds,es,m,hx,hy,hz,q⟩:=h;obtain⟨a,xs,rfl,ha,hd⟩:=gM hx;obtain⟨b,ys,rfl,hb,he⟩:=gM hy;cases rx;cases ry;obtain⟨χ,r1,p1,_⟩:=I.list ha;obtain⟨its2,r2,p2,_⟩:=I.list hb;have l1:=bR hd;have l2:=bR he;have k1:=r1.length;have k2:=r2.length;obtain⟨⟨cls,dd,data,sl⟩,ho,hc,n,hdt⟩:=id p1.isList;obtain⟨⟨cls2,dd2,data2,sl2⟩,ho2,hc2,n2,hd2⟩:=id p2.isList;simp only at hc hdt hc2 hd2;subst hc hdt hc2 hd2;refine o3 ⟨_,ho,rfl⟩ ⟨_,ho2,rfl⟩ noFill_list_add seq_list_add PySem.F.slot_list_add PySem.F.entry_list_add (PySem.F.args_list_add_2 _ _) (list_addW a b χ.toArray its2.toArray n n2 dd dd2 sl sl2 (by simp;omega)) ⟨ho,ho2,?_⟩;rw[show χ.toArray++its2.toArray=(χ++its2).toArray by simp];exact Pb (tk:=s.toks) I m (iC hd he) (r1.append r2) (by rw[be];omega) (λb o e=>ag _ e) ⟨0,bq _ rfl⟩ q
theorem Jw:OpR X (fm .Add) (λx y H Q=>∃O ds es,DW (gx X) O H x (.tup ds)/\DW (gx X) O H y (.tup es)/\ds.length+es.length<=aT/\∀v H',aD H H'->DV (gx X) O H' v (.tup<|ds++es)->Q v H'):=by
 intro π s σ H x y v u Q I rx ry h;obtain⟨O,ds,es,hx,hy,hz,q⟩:=h;obtain⟨a,xs,rfl,ha,hd⟩:=tZ hx;obtain⟨b,ys,rfl,hb,he⟩:=tZ hy;have l1:=bR hd;have l2:=bR he;by_cases hx0:xs=[]
 ·subst hx0;cases hd;cases rx;cases ry;obtain⟨χ,r1,p1,_⟩:=I.tuple ha.sq;obtain⟨its2,r2,p2,_⟩:=I.tuple hb.sq;cases r1;obtain⟨⟨cls,dd,data,sl⟩,ho,hc,n,hdt⟩:=id p1;obtain⟨⟨cls2,dd2,data2,sl2⟩,ho2,hc2,n2,hd2⟩:=id p2;simp only at hc hdt hc2 hd2;subst hc hdt hc2 hd2;exact o3 ⟨_,ho,rfl⟩ ⟨_,ho2,rfl⟩ oj sx kv ki (jv _ _)
   (tuple_addW0 a b ([]:List ay).toArray its2.toArray n n2 dd dd2 sl sl2<|by rfl) ⟨ho,ho2,⟨.ref b,H,I,rfl,q _ _ (aD.refl _)<|.tup hb he⟩⟩
 ·refine M3 π s σ H _ _ v u Q I rx ry ⟨a,b,xs,ys,rfl,rfl,ha.sq,hb.sq,hx0,by omega,λz=>?_,λz p hp=>?_⟩
  ·subst z;cases he;exact q _ _ (aD.refl _) (by rw[dA];exact .tup ha hd)
  ·exact q _ _ (bJ hp _)<|.tup (SqU.of aH)<|(iC hd he).mono<|bJ hp _
theorem bj:OpR X (fm .Add) (rG (gx X) bL):=by
 intro π s σ H x y v u Q I rx ry h;obtain⟨O,d,e,r,m,hx,hy,hr,q⟩:=h
 match d,e,hr with
 | .int i,.int j,hr=>
  cases hr;exact Tz π s σ H x y v u Q I rx ry ⟨i,j,bQ hx,bQ hy,q _ _ (aD.refl _)<|.int _⟩
 | .str i,.str j,hr=>
  obtain⟨z,rfl⟩:=oif hr;exact Bw π s σ H x y v u Q I rx ry ⟨i,j,cW hx,cW hy,z,q _ _ (aD.refl _)<|.str _⟩
 | .lst ds,.lst es,hr=>
  obtain⟨z,rfl⟩:=oif hr;exact My π s σ H x y v u Q I rx ry ⟨O,ds,es,m,hx,hy,z,Ji m q⟩
 | .tup ds,.tup es,hr=>
  obtain⟨z,rfl⟩:=oif hr;exact Jw π s σ H x y v u Q I rx ry ⟨O,ds,es,hx,hy,z,q⟩
theorem kY:OpR X (fm .Sub) (rG (gx X) qO):=by
 intro π s σ H x y v u Q I rx ry h;obtain⟨O,d,e,r,m,hx,hy,hr,q⟩:=h
 match d,e,hr with
 | .int i,.int j,hr=>
  cases hr;exact Ry π s σ H x y v u Q I rx ry ⟨i,j,bQ hx,bQ hy,q _ _ (aD.refl _)<|.int _⟩
theorem iI:OpR X (fm .Mult) (rG (gx X) lR):=by
 intro π s σ H x y v u Q I rx ry h;obtain⟨O,d,e,r,m,hx,hy,hr,q⟩:=h
 match d,e,hr with
 | .int i,.int j,hr=>
  obtain⟨z,rfl⟩:=oif hr;rcases z with z|z
  ·exact N7 π s σ H x y v u Q I rx ry ⟨i,j,bQ hx,bQ hy,z,q _ _ (aD.refl _)<|.int _⟩
  ·exact Qg π s σ H x y v u Q I rx ry ⟨i,j,bQ hx,bQ hy,z,q _ _ (aD.refl _)<|.int _⟩
theorem cV:OpR X (fm .FloorDiv) (rG (gx X) cZ):=by
 intro π s σ H x y v u Q I rx ry h;obtain⟨O,d,e,r,m,hx,hy,hr,q⟩:=h
 match d,e,hr with
 | .int i,.int j,hr=>
  obtain⟨z,rfl⟩:=oif hr;refine J9 π s σ H x y v u Q I rx ry ⟨i,j,bQ hx,bQ hy,z,?_⟩;have e:i.fdiv j=dvI i j:=by
   unfold dvI;split
   ·rw[iP i<|by omega]
   ·rfl
  show Q (.int<|i.fdiv j) H;rw[e];exact q _ _ (aD.refl _)<|.int _
theorem cJ:OpR X (fm .Mod) (rG (gx X) cX):=by
 intro π s σ H x y v u Q I rx ry h;obtain⟨O,d,e,r,m,hx,hy,hr,q⟩:=h
 match d,e,hr with
 | .int i,.int j,hr=>
  obtain⟨z,rfl⟩:=oif hr;refine Nm π s σ H x y v u Q I rx ry ⟨i,j,bQ hx,bQ hy,z,?_⟩;have e:i.fmod j=mdI i j:=by
   unfold mdI;split
   ·rw[Int.fmod_eq_emod_of_nonneg i<|by omega]
   ·rfl
  show Q (.int<|i.fmod j) H;rw[e];exact q _ _ (aD.refl _)<|.int _
theorem Nq:OpR X (fm .Pow) (rG (gx X) Tw):=by
 intro π s σ H x y v u Q I rx ry h;obtain⟨O,d,e,r,m,hx,hy,hr,q⟩:=h
 match d,e,hr with
 | .int i,.int j,hr=>
  obtain⟨z,rfl⟩:=oif hr;exact RN π s σ H x y v u Q I rx ry ⟨i,j,bQ hx,bQ hy,z,q _ _ (aD.refl _)<|.int _⟩
theorem nY:UnR X (unaryOp .USub) (rG1 (gx X) pU):=by
 intro π s σ H x v Q I rx h;obtain⟨O,d,r,m,hx,hr,q⟩:=h
 match d,hr with
 | .int i,hr=>
  cases hr;exact Ro π s σ H x v Q I rx ⟨i,bQ hx,q _ _ (aD.refl _)<|.int _⟩
mutual
def toPy:D->Option om
 | .non=>some .none
 | .bl b=>some<|.bool b
 | .int i=>some<|.int i
 | .str x=>some<|.str x
 | .tup xs=>(rQ xs).map .tuple
 | .lst xs=>(rQ xs).map .list
 | .exc _ _ _=>none
 | .dct _ _=>none
 | .dcu _ _=>none
 | .adr _=>none
 | .ins _ _ _=>none
 | .dcf _ _=>none
def rQ:List D->Option (List om)
 |[]=>some []
 |d::ds=>(toPy d).bind λp=>(rQ ds).map λps=>p::ps
end
mutual
theorem Du {G:Gx}{O:Za}{H:Hp}:∀{v:V} {d:D} {p:om},DV G O H v d->toPy d=some p->Hd.DV G.K H v p
 |_,_,_,.non,e=>by cases e;exact .non
 |_,_,_,.bl b,e=>by cases e;exact .bl b
 |_,_,_,.int i,e=>by cases e;exact .int i
 |_,_,_,.str x,e=>by cases e;exact .str x
 |_,_,_,.exc ..,e=>by cases e
 |_,_,_,.tup h hs,e=>by
  obtain⟨ps,e1,rfl⟩:=omap (by simpa[toPy] using e);exact .tup h.sq<|ux hs e1
 |_,_,_,.lst h hs,e=>by
  obtain⟨ps,e1,rfl⟩:=omap (by simpa[toPy] using e);exact .lst h.sq<|ux hs e1
 |_,_,_,.dct _ _ _ _ _,e=>by cases e
 |_,_,_,.dcu _ _ _ _ _,e=>by cases e
 |_,_,_,.adr _,e=>by cases e
 |_,_,_,.ins _ _ _ _ _ _,e=>by cases e
 |_,_,_,.dcf _ _ _ _,e=>by cases e
theorem ux {G:Gx}{O:Za}{H:Hp}:∀{vs:List V} {ds:List D} {ps:List om},DVs G O H vs ds->rQ ds=some ps->Hd.DVs G.K H vs ps
 |_,_,_,.nil,e=>by cases e;exact .nil
 |_,_,_,.cons (d:=d) (ds:=ds) h hs,e=>by
  unfold rQ at e;cases e1:toPy d with
  |none=>rw[e1] at e;cases e
  |some p=>
   rw[e1] at e;obtain⟨ps,e2,rfl⟩:=omap e;exact .cons (Du h e1)<|ux hs e2
end
theorem tQ {G:Gx}{O:Za}{H:Hp}{v:V}{d:D}{p:om}(h:DW G O H v d)(e:toPy d=some p):Hd.DV G.K H v p:=Du h.any e
noncomputable def qX (d e:D):Option Bool:=match toPy d,toPy e with
 |some p,some q=>if gp p=true/\gp q=true then some (iN p q) else none
 |_,_=>none
def gEq:D->D->Option Bool
 | .int i,.int j=>some<|decide<|i=j
 | .str i,.str j=>some<|decide<|i=j
 | .bl i,.bl j=>some<|decide<|i=j
 | .non,.non=>some true
 |d,e=>qX d e
def gNe (d e:D):Option Bool:=(gEq d e).map (!·)
theorem wD {d e:D}{b:Bool}(h:qX d e=some b):∃p q,toPy d=some p/\toPy e=some q/\gp p=true/\gp q=true/\iN p q=b:=by
 unfold qX at h;cases e1:toPy d with
 |none=>rw[e1] at h;cases h
 |some p=>
  cases e2:toPy e with
  |none=>rw[e1,e2] at h;cases h
  |some q=>
   rw[e1,e2] at h;obtain⟨⟨z1,z2⟩,rfl⟩:=oif h;exact⟨p,q,rfl,rfl,z1,z2,rfl⟩
theorem wg {d e:D}{b:Bool}(h:gEq d e=some b):(∃i j,d=.int i/\e=.int j/\b=decide (i=j))\/(∃i j,d=.str i/\e=.str j/\b=decide (i=j))\/(∃i j,d=.bl i/\e=.bl j/\b=decide (i=j))\/(d=.non/\e=.non/\b=true)\/qX d e=some b:=by
 unfold gEq at h;split at h
 ·cases h;exact .inl ⟨_,_,rfl,rfl,rfl⟩
 ·cases h;exact .inr<|.inl ⟨_,_,rfl,rfl,rfl⟩
 ·cases h;exact .inr<|.inr<|.inl ⟨_,_,rfl,rfl,rfl⟩
 ·cases h;exact .inr<|.inr<|.inr<|.inl ⟨rfl,rfl,rfl⟩
 ·exact .inr<|.inr<|.inr<|.inr h
theorem cg (hu:X.A.units+64<uj):OpR X (cy .Eq) (rGB (gx X) gEq):=by
 intro π s σ H x y v u Q I rx ry h;obtain⟨O,d,e,r,m,hx,hy,hr,q⟩:=h;rcases wg hr with⟨i,j,rfl,rfl,rfl⟩|⟨i,j,rfl,rfl,rfl⟩|⟨i,j,rfl,rfl,rfl⟩|⟨rfl,rfl,rfl⟩|h
 ·cases bQ hx;cases bQ hy;exact Fj π s σ H _ _ v u Q I rx ry ⟨rfl,by simpa using q⟩
 ·cases cW hx;cases cW hy;exact Fj π s σ H _ _ v u Q I rx ry ⟨rfl,by simpa using q⟩
 ·cases yZ hx;cases yZ hy;exact Fj π s σ H _ _ v u Q I rx ry ⟨rfl,by simpa using q⟩
 ·cases u9 hx;cases u9 hy;exact Fj π s σ H _ _ v u Q I rx ry ⟨rfl,by simpa using q⟩
 ·obtain⟨p,p',e1,e2,z1,z2,rfl⟩:=wD h;exact Rm hu π s σ H x y v u Q I rx ry ⟨p,p',tQ hx e1,tQ hy e2,z1,z2,q⟩
theorem lC (hu:X.A.units+64<uj):OpR X (cy .NotEq) (rGB (gx X) gNe):=by
 intro π s σ H x y v u Q I rx ry h;obtain⟨O,d,e,r,m,hx,hy,hr,q⟩:=h;obtain⟨c,hc,rfl⟩:=omap hr;rcases wg hc with⟨i,j,rfl,rfl,rfl⟩|⟨i,j,rfl,rfl,rfl⟩|⟨i,j,rfl,rfl,rfl⟩|⟨rfl,rfl,rfl⟩|h
 ·cases bQ hx;cases bQ hy;exact Fg π s σ H _ _ v u Q I rx ry ⟨rfl,by simpa using q⟩
 ·cases cW hx;cases cW hy;exact Fg π s σ H _ _ v u Q I rx ry ⟨rfl,by simpa using q⟩
 ·cases yZ hx;cases yZ hy;exact Fg π s σ H _ _ v u Q I rx ry ⟨rfl,by simpa using q⟩
 ·cases u9 hx;cases u9 hy;exact Fg π s σ H _ _ v u Q I rx ry ⟨rfl,by simpa using q⟩
 ·obtain⟨p,p',e1,e2,z1,z2,rfl⟩:=wD h;exact Ru hu π s σ H x y v u Q I rx ry ⟨p,p',tQ hx e1,tQ hy e2,z1,z2,q⟩
noncomputable def Q5:List D->Option (List Int)
 |[]=>some []
 | .int i::ds=>(Q5 ds).map (i::·)
 |_::_=>none
theorem O2 {G:Gx}{O:Za}{H:Hp}:∀{vs:List V} {ds:List D} {ns:List Int},DVs G O H vs ds->Q5 ds=some ns->vs=ns.map V.int
 |_,_,_,.nil,e=>by cases e;rfl
 |_,_,_,.cons (d:=d) h hs,e=>by
  cases d with
  |int i=>
   obtain⟨ns,e1,rfl⟩:=omap (by simpa[Q5] using e);cases h;rw[O2 hs e1];rfl
  |_=>cases e
noncomputable def gLt:D->D->Option Bool
 | .int i,.int j=>some<|decide<|i<j
 |_,_=>none
def gLe:D->D->Option Bool
 | .int i,.int j=>some<|decide<|i<=j
 |_,_=>none
noncomputable def gGt:D->D->Option Bool
 | .int i,.int j=>some<|decide<|j<i
 |_,_=>none
noncomputable def gGe:D->D->Option Bool
 | .int i,.int j=>some<|decide<|j<=i
 |_,_=>none
theorem CV (hu:X.A.units+64<uj):OpR X (cy .Lt) (rGB (gx X) gLt):=by
 intro π s σ H x y v u Q I rx ry h;obtain⟨O,d,e,r,m,hx,hy,hr,q⟩:=h;unfold gLt at hr;split at hr
 ·rename_i i j;cases hr;exact U8 π s σ H x y v u Q I rx ry ⟨i,j,bQ hx,bQ hy,q⟩
 ·cases hr
theorem rN:OpR X (cy .LtE) (rGB (gx X) gLe):=by
 intro π s σ H x y v u Q I rx ry h;obtain⟨O,d,e,r,m,hx,hy,hr,q⟩:=h
 match d,e,hr with
 | .int i,.int j,hr=>cases hr;exact Um π s σ H x y v u Q I rx ry ⟨i,j,bQ hx,bQ hy,q⟩
theorem BP:OpR X (cy .Gt) (rGB (gx X) gGt):=by
 intro π s σ H x y v u Q I rx ry h;obtain⟨O,d,e,r,m,hx,hy,hr,q⟩:=h
 match d,e,hr with
 | .int i,.int j,hr=>cases hr;exact Uh π s σ H x y v u Q I rx ry ⟨i,j,bQ hx,bQ hy,q⟩
theorem RW:OpR X (cy .GtE) (rGB (gx X) gGe):=by
 intro π s σ H x y v u Q I rx ry h;obtain⟨O,d,e,r,m,hx,hy,hr,q⟩:=h
 match d,e,hr with
 | .int i,.int j,hr=>cases hr;exact Ue π s σ H x y v u Q I rx ry ⟨i,j,bQ hx,bQ hy,q⟩
end
section
variable {X:Cx}{E:XK}{e a b:Expr}{es:List Expr}{f fa:Zl}{fs:Ze}{pos p:Pos}
noncomputable def gIx:D->D->Option D
 | .lst ds,.int i=>atI ds i
 | .tup ds,.int i=>atI ds i
 | .str z,.int i=>if z.length<=aT then(atI z.cps.toList i).map λc=>.str ⟨#[c]⟩ else none
 |_,_=>none
theorem Gz {G:Gx}{O:Za}{H:Hp}{xs:List V}{ds:List D}{i:Int}{d:D}(h:DVs G O H xs ds)(e:atI ds i=some d):∃x,atI xs i=some x/\DV G O H x d:=by
 unfold atI at e ⊢;rw[bR h];cases q:ixN ds.length i with
 |none=>rw[q] at e;cases e
 |some j=>rw[q] at e;exact vf h e
theorem cu:IxR X (rG (gx X) gIx):=by
 intro value slice π s σ H x y v u Q I rx ry h hs;obtain⟨O,d,e,r,m,hx,hy,hr,q⟩:=h
 match d,e,hr with
 | .lst ds,.int i,hr=>
  cases bQ hy;obtain⟨p,xs,rfl,hp,hd⟩:=gM hx;obtain⟨z,hz,dz⟩:=Gz hd hr;exact PQ value slice π s σ H _ _ v u Q I rx ry ⟨p,xs,i,z,rfl,rfl,hp,hz,q _ _ (aD.refl _) dz⟩ hs
 | .tup ds,.int i,hr=>
  cases bQ hy;obtain⟨p,xs,rfl,hp,hd⟩:=qM hx;obtain⟨z,hz,dz⟩:=Gz hd hr;exact S7 value slice π s σ H _ _ v u Q I rx ry ⟨p,xs,i,z,rfl,rfl,hp,hz,q _ _ (aD.refl _) dz⟩ hs
 | .str z,.int i,hr=>
  cases bQ hy;cases cW hx;have hr':(if z.length<=aT then(atI z.cps.toList i).map λc=>D.str ⟨#[c]⟩ else none)=some r:=hr;by_cases hz:z.length<=aT
  ·rw[if_pos hz] at hr';obtain⟨c,hc,rfl⟩:=omap hr';exact R8 value slice π s σ H _ _ v u Q I rx ry ⟨z,i,c,rfl,rfl,hz,hc,q _ _ (aD.refl _)<|.str _⟩ hs
  ·rw[if_neg hz] at hr';cases hr'
def tO (G:Gx)(E:XK)(f:Me->Res (Option Int)):TO:=λσ H Q=>∃O0 M0 H0 ow m,Rel G O0 M0 H0 ow σ H m/\Pu G E (f m) H λo=>∀H',aD H H'->Q o H'
abbrev FO (X:Cx)(E:XK)(e:Option Expr)(f:Me->Res (Option Int)):Prop:=PO X e<|tO (gx X) E f
theorem FZ {e:Option Expr}{T T':TO}(h:PO X e T)(k:∀σ H Q,T' σ H Q->T σ H Q):PO X e T':=λπ s σ H Q I q=>h π s σ H Q I<|k σ H Q q
noncomputable def fO0:Me->Res (Option Int):=λ_=>.ok none
noncomputable def fO1 (f:Zl):Me->Res (Option Int):=λm=>(f m).bind λd=>match d with
 | .int i=>.ok<|some i
 |_=>.stuck
theorem ye:FO X E none fO0:=FZ Ni λσ H Q hE=>xq5 hE λO0 M0 H0 ow m R q=>q H<|aD.refl _
theorem yE (h:FB X E e f):FO X E (some e) (fO1 f):=FZ (yc h) λσ H Q hE=>xq5 hE λO0 M0 H0 ow m R q=>⟨O0,M0,H0,ow,m,R,q.bind.imp (aD.refl _) λd q v H' g hv=>by
 cases d with
 |int i=>cases bQ hv;exact⟨i,rfl,q H' g⟩
 |_=>exact q.elim⟩
def cut {α:Type}(xs:List α)(lo hi:Option Int):List α:=(xs.drop<|HT.sIx xs.length 0 lo).take<|HT.sIx xs.length xs.length hi-HT.sIx xs.length 0 lo
def gSl:D->Option Int->Option Int->Option D
 | .lst ds,lo,hi=>some<|.lst<|cut ds lo hi
 | .tup ds,lo,hi=>if HT.sIx ds.length 0 lo=0/\HT.sIx ds.length ds.length hi=ds.length then none else some (.tup<|cut ds lo hi)
 | .str z,lo,hi=>if z.length<=aT then some (.str<|kM z lo hi) else none
 |_,_,_=>none
def rSl (G:Gx):V->Option Int->Option Int->Hp->VK->Prop:=λx lo hi H Q=>∃O d r,(∀b,O b->cj (H b))/\DW G O H x d/\gSl d lo hi=some r/\∀v H',aD H H'->DV G O H' v r->Q v H'
noncomputable def Wi:D->Option Int->Option Int->Option D
 | .lst ds,lo,hi=>some<|.lst<|cut ds lo hi
 |_,_,_=>none
def Wh (G:Gx):V->Option Int->Option Int->Hp->VK->Prop:=λx lo hi H Q=>∃O d r,(∀b,O b->cj (H b))/\DW G O H x d/\Wi d lo hi=some r/\∀p H',aD H H'->H p=none->OV G (Op O p) H' p r->Q (.ref p) H'
theorem xP {G:Gx}{O:Za}{H:Hp}{xs:List V}{ds:List D}{lo hi:Option Int}(h:DVs G O H xs ds):DVs G O H (yX xs lo hi) (cut ds lo hi):=by
 unfold yX cut;rw[bR h];exact ue _<|zH _ h
theorem Vc:SlR X (Wh<|gx X):=by
 intro π s σ H x v vl vu lo hi sl Q I rx hs pl pu h;obtain⟨O,d,r,m,hx,hr,q⟩:=h
 match d,hr with
 | .lst ds,hr=>
  cases hr;obtain⟨p,xs,rfl,hp,hd⟩:=gM hx;exact NP π s σ H _ v vl vu lo hi sl Q I rx hs pl pu ⟨p,xs,rfl,hp,λp hp'=>q p _ (bJ hp' _) hp' ⟨_,aH,((xP hd).bZ λb z=>z.elim .inl λe=>.inr (by rw[e];exact hp')).mono<|bJ hp' _⟩⟩
theorem xU {u:ay}{o:Option Int}(h:qE u o):∃l:Option (Int×Tok),u=partValue l/\l.map (·.1)=o:=by
 cases h with
 |none=>exact⟨none,rfl,rfl⟩
 |int i t=>exact⟨some (i,t),rfl,rfl⟩
theorem V8:SlR X (rSl<|gx X):=by
 intro π s σ H x v vl vu lo hi sl Q I rx hs pl pu h;obtain⟨O,d,r,m,hx,hr,q⟩:=h
 match d,hr with
 | .lst ds,hr=>exact Vc π s σ H x v vl vu lo hi sl Q I rx hs pl pu ⟨O,.lst ds,r,m,hx,hr,Ji m q⟩
 | .tup ds,hr=>
  obtain⟨p,xs,rfl,hp,hd⟩:=qM hx;have hr':(if HT.sIx ds.length 0 lo=0/\HT.sIx ds.length ds.length hi=ds.length then none else some (D.tup<|cut ds lo hi))=some r:=hr;by_cases z:HT.sIx ds.length 0 lo=0/\HT.sIx ds.length ds.length hi=ds.length
  ·rw[if_pos z] at hr';cases hr'
  ·rw[if_neg z] at hr';cases hr';exact Mr π s σ H _ v vl vu lo hi sl Q I rx hs pl pu ⟨p,xs,rfl,hp,by rw[bR hd];exact z,λp hp'=>q _ _ (bJ hp' _)<|.tup (SqU.of aH)<|(xP hd).mono<|bJ hp' _⟩
 | .str z,hr=>
  cases cW hx;obtain⟨t,rfl⟩:=rx;obtain⟨hz,rfl⟩:=oif hr;obtain⟨l,rfl,rfl⟩:=xU pl;obtain⟨u,rfl,rfl⟩:=xU pu;refine⟨"str",_,nk.lookup,mT _ _ _,wpAny_getItem_str_slice (l:=l) (u:=u) (st:=none) hs rfl<|post_val_or_str ⟨cn (Txt.slice_le z _ _) hz,λt' k=>Nr (tk:=k) I q⟩⟩
def fSl (f:Zl)(lo hi:Me->Res (Option Int)):Zl:=λm=>(f m).bind λd=>(lo m).bind λl=>(hi m).bind λu=>ofO<|gSl d l u
variable {lo hi:Option Expr}{fl fh:Me->Res (Option Int)}{p2:Pos}
theorem zq (he:FB X E e f)(hl:FO X E lo fl)(hu:FO X E hi fh):FE X E (.Subscript e (.Slice lo hi none p2) pos) (fSl f fl fh):=
 bI (u6 V8 he hl hu) λσ H Q hE=>xq5 hE λO0 M0 H0 ow m R q=>⟨O0,M0,H0,ow,m,R,q.bind.imp (aD.refl _) λd q v H1 g1 hv=>⟨O0,M0,H0,ow,m,R.mono g1,q.bind.imp g1 λl q H2 g2=>⟨O0,M0,H0,ow,m,R.mono<|g1.trans g2,q.bind.imp (g1.trans g2) λu q H3 g3=>by
  obtain⟨r,hr,k⟩:=q.ofO;exact⟨_,d,r,(R.mono<|(g1.trans g2).trans g3).mutk,hv.mono<|g2.trans g3,hr,λv H' g d=>k v H' (((g1.trans g2).trans g3).trans g) d⟩⟩⟩⟩
noncomputable def dj:List D->Option D
 |[.lst ds]=>some<|.int ds.length
 |[.tup ds]=>some<|.int ds.length
 |[.str z]=>if z.length<=aT then some (.int z.length) else none
 |[.dct ks _]=>some<|.int ks.length
 |_=>none
theorem oN {G:Gx}{O:Za}{H:Hp}{vs:List V}{d:D}(h:DWs G O H vs [d]):∃v,vs=[v]/\DW G O H v d:=by
 cases h with
 |cons a t=>cases t;exact⟨_,rfl,a⟩
theorem Hf:gm X (.builtin "len") (λxs H Q=>∃a ι,xs=[V.ref a]/\Rd H a (.dK ι)/\Q (.int ι.length) H):=by
 intro π s σ H xs us Q I r h;obtain⟨a,ι,rfl,e,q⟩:=h;obtain⟨u,rfl,rx⟩:=vals1 r;cases rx;exact Ui I e λt s' I'=>⟨.int ι.length,H,I',⟨t,rfl⟩,q⟩
theorem cD:gm X (.builtin "len") (rGC (gx X) dj):=by
 intro π s σ H xs us Q I r h;obtain⟨O,ds,d,m,hx,hr,q⟩:=h
 match ds,hr with
 |[.lst ds],hr=>
  cases hr;obtain⟨v,rfl,hv⟩:=oN hx;obtain⟨p,xs,rfl,hp,hd⟩:=gM hv;exact lN π s σ H _ us Q I r ⟨p,xs,rfl,.inl hp,by rw[bR hd];exact q _ _ (aD.refl _)<|.int _⟩
 |[.tup ds],hr=>
  cases hr;obtain⟨v,rfl,hv⟩:=oN hx;obtain⟨p,xs,rfl,hp,hd⟩:=qM hv;exact lN π s σ H _ us Q I r ⟨p,xs,rfl,.inr hp,by rw[bR hd];exact q _ _ (aD.refl _)<|.int _⟩
 |[.str z],hr=>
  obtain⟨hz,rfl⟩:=oif hr;obtain⟨v,rfl,hv⟩:=oN hx;cases cW hv;exact jg π s σ H _ us Q I r ⟨z,rfl,hz,q _ _ (aD.refl _)<|.int _⟩
 |[.dct ks vs],hr=>
  cases hr;obtain⟨v,rfl,hv⟩:=oN hx;obtain⟨p,ι,ws,rfl,hp,e1,e2,hd⟩:=KY hv;exact Hf π s σ H _ us Q I r ⟨p,ι,rfl,hp,by rw[show ι.length=ks.length by rw[← e1,dQ]];exact q _ _ (aD.refl _)<|.int _⟩
noncomputable def Py:List D->Option D
 |[.int i]=>some<|.int<|if i<0 then -i else i
 |_=>none
theorem wZ:gm X (.builtin "abs") (rGC (gx X) Py):=by
 intro π s σ H xs us Q I r h;obtain⟨O,ds,d,m,hx,hr,q⟩:=h
 match ds,hr with
 |[.int i],hr=>
  cases hr;obtain⟨v,rfl,hv⟩:=oN hx;cases bQ hv;exact Kz π s σ H _ us Q I r ⟨i,rfl,q _ _ (aD.refl _)<|.int _⟩
def uH:List D->Option D
 |[.int i]=>if i.natAbs.log2<1920 then some (.str (toString i:String)) else none
 |_=>none
theorem gr:gm X (.type "str") (rGC (gx X) uH):=by
 intro π s σ H xs us Q I r h;obtain⟨O,ds,d,m,hx,hr,q⟩:=h
 match ds,hr with
 |[.int i],hr=>
  obtain⟨hz,rfl⟩:=oif hr;obtain⟨v,rfl,hv⟩:=oN hx;cases bQ hv;exact xV π s σ H _ us Q I r ⟨i,rfl,hz,q _ _ (aD.refl _)<|.str _⟩
noncomputable def pH:List D->Option D
 |[.lst ds]=>some<|.tup ds
 |[.tup ds]=>some<|.tup ds
 |_=>none
theorem jO:gm X (.type "tuple") (rGC (gx X) pH):=by
 intro π s σ H xs us Q I r h;obtain⟨O,ds,d,m,hx,hr,q⟩:=h
 match ds,hr with
 |[.lst ds],hr=>
  cases hr;obtain⟨v,rfl,hv⟩:=oN hx;obtain⟨p,xs,rfl,hp,hd⟩:=gM hv;exact oW π s σ H _ us Q I r ⟨p,xs,rfl,.inl ⟨hp,λl hl=>q _ _ (bJ hl _)<|.tup (SqU.of aH)<|hd.mono<|bJ hl _⟩⟩
 |[.tup ds],hr=>
  cases hr;obtain⟨v,rfl,hv⟩:=oN hx;obtain⟨p,xs,rfl,hp,hd⟩:=tZ hv;exact oW π s σ H _ us Q I r ⟨p,xs,rfl,.inr ⟨hp.sq,q _ _ (aD.refl _)<|.tup hp hd⟩⟩
noncomputable def gU:D->String
 | .non=>"NoneType"
 | .bl _=>"bool"
 | .int _=>"int"
 | .str _=>"str"
 | .tup _=>"tuple"
 | .lst _=>"list"
 | .dct _ _=>"dict"
 | .dcu _ _=>"dict"
 | .exc _ _ _=>""
 | .dcf _ _=>""
 | .adr _=>""
 | .ins _ _ _=>""
noncomputable def G8 (t T:String):Bool:=t==T||(t=="bool" && T=="int")
noncomputable def kinds:List String:=["NoneType", "bool", "int", "str", "tuple", "list", "dict"]
theorem Pj {K:aw}{t:String}:t9 K (.type t) (.type t)=some true:=by unfold t9;rw[if_pos<|by simp]
theorem MP {K:aw}:∀t∈kinds,∀T∈kinds,t9 K (.type t) (.type T)=some (G8 t T):=by
 intro t ht T hT;simp only[kinds,bo,kX,or_false] at ht hT;rcases ht with rfl|rfl|rfl|rfl|rfl|rfl|rfl<;>rcases hT with rfl|rfl|rfl|rfl|rfl|rfl|rfl<;>first|exact Pj|kernel_rfl
theorem JR {G:Gx}{O:Za}{H:Hp}{v:V}{d:D}(h:DW G O H v d)(n:gU d≠""):gU d∈kinds/\TyK G.K H v (.type<|gU d):=by
 have z:=h.any;cases z with
 |non=>exact⟨by simp[gU,kinds],.of .non⟩
 |bl b=>exact⟨by simp[gU,kinds],.of<|.bl b⟩
 |int b=>exact⟨by simp[gU,kinds],.of<|.int b⟩
 |str b=>exact⟨by simp[gU,kinds],.of<|.str b⟩
 |exc _ _=>exact absurd rfl n
 |dcf _ _ _ _=>exact absurd rfl n
 |adr _=>exact absurd rfl n
 |ins _ _ _ _ _ _=>exact absurd rfl n
 |tup hq _=>exact⟨by simp[gU,kinds],.tup hq.sq⟩
 |lst hq _=>exact⟨by simp[gU,kinds],.lst hq.sq⟩
 |dct _ e _ _ _=>exact⟨by simp[gU,kinds],.of<|.dK e⟩
 |dcu _ e _ _ _=>exact⟨by simp[gU,kinds],.of<|.dT e⟩
def dD (T:String)(f:Zl):Zl:=λm=>(f m).bind λd=>if gU d = "" then .stuck else .ok (.bl<|G8 (gU d) T)
theorem dJ {x y:Str}{py:Pos}{T:String}(ha:FB X E a fa)(hg:Gl X "isinstance")(hm:X.mg "isinstance" = none)(hv:b9 "isinstance" = some (.builtin "isinstance"))(hgy:Gl X y)(hmy:X.mg y=none)(hvy:b9 y=some (.type T))(hT:T∈kinds:=by decide)
  (hny:y≠"__name__":=by decide) (hdy:(y==("__debug__":Str))=false:=by decide)
  (he:ax [a,.Name y py] X.env=(false,eval a X.env)::ax [.Name y py] X.env:=by rfl) (he2:ax [.Name y py] X.env=(false,eval (.Name y py) X.env)::ax [] X.env:=by rfl) (θ:(gX pos<|ax [.Name y py] X.env).any (·.1)=false:=by rfl):
  FE X E (.Call (.Name "isinstance" p) [a,.Name y py] [] pos) (dD T fa):=
 bI (iM xn hg hm hv (aP ha (aP (Dm (v:=.ty T) hgy hmy hvy rfl hny hdy) bG he2) he) (by decide) (by decide) he θ) λσ H Q hE=>xq5 hE λO0 M0 H0 ow m R q=>⟨O0,M0,H0,ow,m,R,q.bind.imp (aD.refl _) λd q v H' g hv=>by
  by_cases n:gU d = ""
  ·rw[if_pos n] at q;exact q.elim
  ·rw[if_neg n] at q;obtain⟨k1,k2⟩:=JR hv n;exact⟨v,.ty T,_,_,_,rfl,rfl,k2,MP _ k1 T hT,q _ _ g<|.bl _⟩⟩
end
section
theorem cM.chg (R:cM G O0 M0 H0 ow σ H m)(ho:ow i=some a)(g:Kp (· = a) H H')(h:OV G (Ow O0 ow) H' a d')
  (hs:(m[i]? = some (.ow d)/\s'=.ow d')\/(m[i]? = some (.io d)/\s'=.io d')):cM G O0 M0 H0 ow σ H' (m.set i s'):=by
 have oa:Ow O0 ow a:=.inr ⟨i,ho⟩;have kp:Kp (Ow O0 ow) H H':=λb u e n=>g b u e λz=>n<|z▸oa;have hi:i<m.length:=by rcases hs with⟨e,_⟩|⟨e,_⟩<;>exact yK e
 have ne:∀b o,H b=some o->b≠a->H' b=H b:=λb o e n=>by rw[e];exact g b o e n
 refine⟨⟨by simp[R.len],λb u e n=>?_,λb z=>?_,λb z=>?_,R.no0,R.inj,λj hj=>R.out j (by simpa using hj),λj s e=>?_⟩,yw R.nb λ_ z=>by rcases hs with⟨_,w⟩|⟨_,w⟩<;>(rw[w] at z;cases z)⟩
 ·refine g b u (R.keep b u e n) λz=>?_;subst z;rcases hs with⟨q,_⟩|⟨q,_⟩
  ·obtain⟨a',e1,e2,_⟩:=R.slot i _ q;rw[ho] at e1;cases e1;rw[e2] at e;cases e
  ·obtain⟨a',e1,e2,_⟩:=R.slot i _ q;rw[ho] at e1;cases e1;exact n e2
 ·by_cases q:b=a
  ·rw[q]
   have:=h.mut
   intro w;rw[w] at this;rcases this with⟨_,e⟩|⟨_,e⟩|⟨_,e⟩|⟨_,e⟩<;>cases e
  ·cases w:H b with
   |none=>exact absurd w (R.m0 b z)
   |some o=>rw[g b o w q];simp
 ·by_cases q:b=a
  ·rw[q];exact h.mut
  ·have:=R.mutk b z
   rcases this with⟨_,e⟩|⟨_,e⟩|⟨_,e⟩|⟨_,e⟩
   ·rw[ne b _ e q];exact .inl ⟨_,e⟩
   ·rw[ne b _ e q];exact .inr<|.inl ⟨_,e⟩
   ·rw[ne b _ e q];exact .inr<|.inr<|.inl ⟨_,e⟩
   ·rw[ne b _ e q];exact .inr<|.inr<|.inr ⟨_,e⟩
 ·by_cases q:j=i
  ·subst q;rw[dE hi] at e;cases e;rcases hs with⟨q,rfl⟩|⟨q,rfl⟩
   ·refine o4 (R.slot j _ q) λa' e1 e2 e3 _=>?_;rw[ho] at e1;cases e1;exact⟨a,ho,e2,e3,h⟩
   ·refine o4 (R.slot j _ q) λa' e1 e2 e3 _=>?_;rw[ho] at e1;cases e1;exact⟨a,ho,e2,e3,h⟩
  ·rw[ef<|kR q] at e;have z:=R.slot j s e;have other:∀{b:Addr} {d:D},ow j=some b->OV G (Ow O0 ow) H b d->OV G (Ow O0 ow) H' b d:=λ{b d} e1 h1=>by
    have nb:b≠a:=λw=>q<|R.inj j i b e1<|w▸ho;rcases h1.mut with⟨_,e⟩|⟨_,e⟩|⟨_,e⟩|⟨_,e⟩<;>exact h1.kp R.mutk kp (ne b _ e nb)
   cases s with
   |un=>exact z
   |fz d=>obtain⟨b,x,e,q⟩:=z;exact⟨b,x,e,q.kp R.mutk kp⟩
   |ow d=>obtain⟨b,x,e,f,q'⟩:=z;exact⟨b,x,e,f,other x q'⟩
   |io d=>obtain⟨b,x,e,f,q'⟩:=z;exact⟨b,x,e,f,other x q'⟩
   |bw d=>exact(R.nb j d e).elim
   |hd w b d=>obtain⟨x,e,f,q'⟩:=z;exact⟨x,e,f,other x q'⟩
theorem Go.chg (ho:ow i=some a)(g:Kp (· = a) H H')(h:OV G (Ow O0 ow) H' a d):Go O0 ow H ow H':=
 ⟨λb u e n=>g b u e λz=>n<|z▸.inr ⟨i,ho⟩,λj b e=>.inl<|.inr ⟨j,e⟩,λb n=>by
  by_cases q:b=a
  ·rw[q]
   have:=h.mut
   intro w;rw[w] at this;rcases this with⟨_,e⟩|⟨_,e⟩|⟨_,e⟩|⟨_,e⟩<;>cases e
  ·cases w:H b with
   |none=>exact absurd w n
   |some o=>rw[g b o w q];simp⟩
theorem CJ:Kp (· = a) H (L2.upd H a o):=λb u e n=>by rw[L2.aM n];exact e
noncomputable def jC (m:Me)(i:Nat):Option (Bool×List D):=match m[i]? with
 |some (.ow<|.lst ds)=>some (true,ds)
 |some (.io<|.lst ds)=>some (false,ds)
 |_=>none
noncomputable def putL (m:Me)(i:Nat)(k:Bool)(ds:List D):Me:=m.set i<|if k then .ow (.lst ds) else .io (.lst ds)
theorem t8 (R:Rel G O0 M0 H0 ow σ H m){i:Nat}{k:Bool}{ds:List D}(e:jC m i=some (k,ds)):∃a xs,ow i=some a/\σ[i]? = some (some<|.ref a)/\H a=some (.lst xs)/\DVs G (Ow O0 ow) H xs ds/\((m[i]? = some (.ow<|.lst ds)/\k=true)\/(m[i]? = some (.io<|.lst ds)/\k=false)):=by
 unfold jC at e;split at e
 ·rename_i q;cases e;obtain⟨a,e1,e2,e3,xs,e4,e5⟩:=R.slot i _ q;exact⟨a,xs,e1,e3,e4,e5,.inl ⟨q,rfl⟩⟩
 ·rename_i q;cases e;obtain⟨a,e1,e2,e3,xs,e4,e5⟩:=R.slot i _ q;exact⟨a,xs,e1,e3,e4,e5,.inr ⟨q,rfl⟩⟩
 ·cases e
theorem cM.put (R:cM G O0 M0 H0 ow σ H m)(ho:ow i=some a)(hm:(m[i]? = some (.ow<|.lst ds)/\k=true)\/(m[i]? = some (.io<|.lst ds)/\k=false))(hd:DVs G (Ow O0 ow) H ys es):
  cM G O0 M0 H0 ow σ (L2.upd H a<|.lst ys) (putL m i k es)/\Go O0 ow H ow (L2.upd H a<|.lst ys):=by
 have oa:Ow O0 ow a:=.inr ⟨i,ho⟩;have kp:Kp (Ow O0 ow) H (L2.upd H a<|.lst ys):=λb u e n=>CJ b u e λz=>n<|z▸oa;have ov:OV G (Ow O0 ow) (L2.upd H a<|.lst ys) a (.lst es):=⟨ys,L2.aH,hd.kp R.mutk kp⟩;refine⟨R.chg (d:=.lst ds) (d':=.lst es) ho CJ ov ?_,Go.chg ho CJ ov⟩;rcases hm with⟨e,rfl⟩|⟨e,rfl⟩
 ·exact .inl ⟨e,rfl⟩
 ·exact .inr ⟨e,rfl⟩
end
section
def eE (i:Nat)(f:Zl):Zg:=λm=>(ofO<|jC m i).bind λo=>(f m).bind λd=>if o.2.length<aT then .ok (.nx,putL m i o.1<|o.2++[d]) else .stuck
theorem jm (i:Nat)(he:FE X E e f)(hN:X.N[i]? = some x:=by rfl)(hv:Vis X.env.scope x:=by first|exact ar rfl|exact ip (ar rfl)|exact ip (ip rfl))(hd:(x==("__debug__":Str))=false:=by decide)(hcd:(x==("__classdict__":Str))=false:=by decide)
  (ν:hG (.Name x np) "append" X.env (eval (.Name x np) X.env)=eval (.Name x np) X.env:=by rfl)
  (ζ:((gX ρ<|ax [e] X.env).all (λx=>!x.1)&&(sC ρ<|l9 [] X.env).all (λx=>x.1.isSome)&&decide ([e].length+([]:List rj).length+(if([]:List rj).isEmpty then 0 else 1)<30))=true:=by rfl)
  (ω:(apos.endLine==ρ.line)=true:=by rfl) (hs:ax [e] X.env=(false,eval e X.env)::ax [] X.env:=by rfl) (hplain:(gX ρ<|ax [] X.env).any (·.1)=false:=by rfl)
  (ψ:iS (.Call (.Attribute (.Name x np) "append" apos) [e] [] ρ) none pos.line X.env=pure false:=by rfl):
  FS X E (.Expr (.Call (.Attribute (.Name x np) "append" apos) [e] [] ρ) pos) (eE i f):=
 eG (fU (wH eM jS j3 ou (aL hN hv hd hcd) (aP he bG hs) ν ζ ω hs hplain) ψ) λW σ H hE=>xq5 hE λO0 M0 H0 ow m R q=>by
  obtain⟨o,ho,q⟩:=Ss.ofO q;obtain⟨k,ds⟩:=o;refine wV (t8 R.toRel ho) λa xs e1 e2 e3 e4 e5=>?_;refine⟨_,e2,.inl ⟨rfl,xs,SqL.of e3⟩,O0,M0,H0,ow,m,R.toRel,(Ss.pu R.toRel q).imp (aD.refl _) λd q v H1 g1 hv=>?_⟩;have R1:=R.mono g1;by_cases hz:ds.length<aT
  ·rw[if_pos hz] at q;obtain⟨R2,g2⟩:=R1.put (es:=ds++[d]) (ys:=xs++[v]) e1 e5<|iC (e4.mono g1)<|.cons hv .nil;exact⟨a,xs,v,rfl,rfl,g1 _ _ e3,by rw[bR e4];exact hz,q _ _ _ R2<|(Go.refl g1).trans g2⟩
  ·rw[if_neg hz] at q;exact q.elim
def yR (i:Nat)(f:Zl):Zg:=λm=>(ofO<|jC m i).bind λo=>(f m).bind λd=>match d with
 | .lst es=>if o.2.length+es.length<=aT then .ok (.nx,putL m i o.1<|o.2++es) else .stuck
 |_=>.stuck
theorem HN (i:Nat)(he:FN X E e f)(hN:X.N[i]? = some x:=by rfl)(hv:Vis X.env.scope x:=by first|exact ar rfl|exact ip (ar rfl)|exact ip (ip rfl))(hd:(x==("__debug__":Str))=false:=by decide)(hcd:(x==("__classdict__":Str))=false:=by decide)
  (ν:hG (.Name x np) "extend" X.env (eval (.Name x np) X.env)=eval (.Name x np) X.env:=by rfl)
  (ζ:((gX ρ<|ax [e] X.env).all (λx=>!x.1)&&(sC ρ<|l9 [] X.env).all (λx=>x.1.isSome)&&decide ([e].length+([]:List rj).length+(if([]:List rj).isEmpty then 0 else 1)<30))=true:=by rfl)
  (ω:(apos.endLine==ρ.line)=true:=by rfl) (hs:ax [e] X.env=(false,eval e X.env)::ax [] X.env:=by rfl) (hplain:(gX ρ<|ax [] X.env).any (·.1)=false:=by rfl)
  (ψ:iS (.Call (.Attribute (.Name x np) "extend" apos) [e] [] ρ) none pos.line X.env=pure false:=by rfl):
  FS X E (.Expr (.Call (.Attribute (.Name x np) "extend" apos) [e] [] ρ) pos) (yR i f):=
 eG (fU (wH eM PySem.F.slot_list_extend PySem.F.type_list_extend Hs (aL hN hv hd hcd) (aP he bG hs) ν ζ ω hs hplain) ψ) λW σ H hE=>xq5 hE λO0 M0 H0 ow m R q=>by
  obtain⟨o,ho,q⟩:=Ss.ofO q;obtain⟨k,ds⟩:=o;refine wV (t8 R.toRel ho) λa xs e1 e2 e3 e4 e5=>?_;refine⟨_,e2,.inl ⟨rfl,xs,SqL.of e3⟩,O0,M0,H0,ow,m,R.toRel,(Ss.pu R.toRel q).imp (aD.refl _) λd q p H1 g1 n hv=>?_⟩;have R1:=R.mono g1;cases d with
  |lst es=>
   have q:Ss (gx X) E O0 M0 H0 ow H W (if ds.length+es.length<=aT then .ok (.nx,putL m i k<|ds++es) else .stuck):=q;obtain⟨zs,h1,h2⟩:=hv;by_cases hz:ds.length+es.length<=aT
   ·rw[if_pos hz] at q;have h2':DVs (gx X) (Ow O0 ow) H1 zs es:=h2.bZ λb z=>.inl<|.inl z;obtain⟨R2,g2⟩:=R1.put (es:=ds++es) (ys:=xs++zs) e1 e5<|iC (e4.mono g1) h2';exact⟨a,p,xs,zs,rfl,rfl,g1 _ _ e3,h1,by rw[bR e4,bR h2];exact hz,q _ _ _ R2<|(Go.refl g1).trans g2⟩
   ·rw[if_neg hz] at q;exact q.elim
  |_=>exact q.elim
def gQ (j i:Nat):Zg:=λm=>(ofO<|jC m i).bind λo=>(ofO<|o.2[o.2.length-1]?).bind λd=>.ok (.nx,(putL m i o.1 o.2.dropLast).set j<|.fz d)
theorem yg (h:DVs G O H xs ds):DVs G O H xs.dropLast ds.dropLast:=by
 rw[pk,pk,bR h];exact ue _ h
theorem w6 (j i:Nat)(hnd:X.N.Nodup)(hj:X.N[j]? = some y)(hy:Loc X.env.scope y)(hN:X.N[i]? = some x:=by rfl)(hv:Vis X.env.scope x:=by first|exact ar rfl|exact ip (ar rfl)|exact ip (ip rfl))(hd:(x==("__debug__":Str))=false:=by decide)(hcd:(x==("__classdict__":Str))=false:=by decide)
  (ν:hG (.Name x np) "pop" X.env (eval (.Name x np) X.env)=eval (.Name x np) X.env:=by rfl) (ω:(apos.endLine==ρ.line)=true:=by rfl) {yp:Pos}
  (ψ:iS (.Call (.Attribute (.Name x np) "pop" apos) [] [] ρ) (some<|.Name y yp) pos.line X.env=pure false:=by rfl) (hf:X.fn y=true\/X.env.scope.names.lookup y=some .local:=by first|exact .inl rfl|exact .inr rfl|assumption):
  FS X E (.Assign [.Name y yp] (.Call (.Attribute (.Name x np) "pop" apos) [] [] ρ) pos) (gQ j i):=
 eG (dZ hnd hj hy (Mp eM pw px Mf (aL hN hv hd hcd) ν ω) ψ hf) λW σ H hE=>xq5 hE λO0 M0 H0 ow m R q=>by
  obtain⟨o,ho,q⟩:=Ss.ofO q;obtain⟨k,ds⟩:=o;obtain⟨d,hd',q⟩:=Ss.ofO q;refine wV (t8 R.toRel ho) λa xs e1 e2 e3 e4 e5=>?_;obtain⟨v,hv,dv⟩:=vf e4 hd';obtain⟨R2,g2⟩:=R.put (es:=ds.dropLast) (ys:=xs.dropLast) e1 e5<|yg e4;have dv2:=dv.go R.mutk g2.ev;exact⟨_,e2,.inl ⟨rfl,xs,SqL.of e3⟩,a,xs,v,rfl,rfl,e3,by rw[bR e4];exact hv,q _ _ _ (R2.set dv2)<|g2.trans Go.set⟩
end
def Xs (G:Gx)(E:XK){α:Type}(O0 M0:Za)(H0:Hp)(ow:Os)(σ:L2.St)(H:Hp)(r:Res (α×Me))(k:α->Hp->Prop):Prop:=match r with
 | .ok (a,m')=>∀H',cM G O0 M0 H0 ow σ H' m'->Go O0 ow H ow H'->k a H'
 | .exc c=>∀C H',XP G H' c C->Kp M0 H0 H'->E (.ref C.1) C.2 H'
 | .stuck=>False
def tX (G:Gx)(E:XK)(f:Me->Res (D×Me)):TE:=λσ H Q=>∃O0 M0 H0 ow m,cM G O0 M0 H0 ow σ H m/\Xs G E O0 M0 H0 ow σ H (f m) λd H'=>∀v,DV G (Ow O0 ow) H' v d->Q v H'
def tXA (G:Gx)(E:XK)(f:Me->Res (List D×Me)):TA:=λσ H Q=>∃O0 M0 H0 ow m,cM G O0 M0 H0 ow σ H m/\Xs G E O0 M0 H0 ow σ H (f m) λds H'=>∀vs,DVs G (Ow O0 ow) H' vs ds->Q vs H'
abbrev FX (X:Cx)(E:XK)(e:Expr)(f:Me->Res (D×Me)):Prop:=PE X e<|tX (gx X) E f
abbrev FXA (X:Cx)(E:XK)(es:List Expr)(f:Me->Res (List D×Me)):Prop:=PA X es<|tXA (gx X) E f
section
variable {G:Gx}{E:XK}{O0 M0:Za}{H0 H H1:Hp}{ow:Os}{σ:L2.St}{m:Me}
theorem Xs.imp {α:Type}{r:Res (α×Me)}{k k':α->Hp->Prop}(h:Xs G E O0 M0 H0 ow σ H r k)(g:Go O0 ow H ow H1)(hk:∀a H' m',cM G O0 M0 H0 ow σ H' m'->Go O0 ow H1 ow H'->r=.ok (a,m')->k a H'->k' a H'):Xs G E O0 M0 H0 ow σ H1 r k':=by
 cases r with
 |ok a=>obtain⟨a,m'⟩:=a;exact λH' R g'=>hk a H' m' R g' rfl<|h H' R<|g.trans g'
 |exc c=>exact h
 |stuck=>exact h
theorem Xs.bind {α β:Type}{r:Res (α×Me)}{f:α->Me->Res (β×Me)}{k:β->Hp->Prop}(h:Xs G E O0 M0 H0 ow σ H (r.bind λp=>f p.1 p.2) k):
  Xs G E O0 M0 H0 ow σ H r λa H'=>∀m',r=.ok (a,m')->cM G O0 M0 H0 ow σ H' m'->Xs G E O0 M0 H0 ow σ H' (f a m') k:=by
 cases r with
 |ok a=>
  obtain⟨a,m1⟩:=a;intro H' R g m' e R';cases e;have h:Xs G E O0 M0 H0 ow σ H (f a m1) k:=h;cases z:f a m1 with
  |ok b=>obtain⟨b,m2⟩:=b;rw[z] at h;exact λH2 R2 g2=>h H2 R2<|g.trans g2
  |exc c=>rw[z] at h;exact h
  |stuck=>rw[z] at h;exact h
 |exc c=>exact h
 |stuck=>exact h
theorem Xs.pu {α β:Type}{r:Res α}{f:α->Res (β×Me)}{k:β->Hp->Prop}(R:Rel G O0 M0 H0 ow σ H m)(h:Xs G E O0 M0 H0 ow σ H (r.bind f) k):Pu G E r H λa=>Xs G E O0 M0 H0 ow σ H (f a) k:=by
 cases r with
 |ok a=>exact h
 |exc c=>exact λC H' e g=>h C H' e λb o e n=>g b o<|R.keep b o e n
 |stuck=>exact h
end
noncomputable def fX (f:Zl):Me->Res (D×Me):=λm=>(f m).bind λd=>.ok (d,m)
def qC:Me->Res (List D×Me):=λm=>.ok ([],m)
noncomputable def iw (fa:Me->Res (D×Me))(fs:Me->Res (List D×Me)):Me->Res (List D×Me):=λm=>(fa m).bind λp=>(fs p.2).bind λq=>.ok (p.1::q.1,q.2)
noncomputable def w5 (fs:Me->Res (List D×Me)):Me->Res (D×Me):=λm=>(fs m).bind λq=>if q.1.length<=aT then .ok (.tup q.1,q.2) else .stuck
def uX (g:List D->Option D)(fs:Me->Res (List D×Me)):Me->Res (D×Me):=λm=>(fs m).bind λq=>(ofO<|g q.1).bind λd=>.ok (d,q.2)
section
variable {X:Cx}{E:XK}{e:Expr}{es:List Expr}{f:Zl}{fa:Me->Res (D×Me)}{fs:Me->Res (List D×Me)}{pos:Pos}{i:Nat}{x:Str}
theorem Es (h:FE X E e f):FX X E e (fX f):=bI h λσ H Q hE=>xq5 hE λO0 M0 H0 ow m R q=>⟨O0,M0,H0,ow,m,R.toRel,(Xs.pu R.toRel q).imp (aD.refl _) λd q v H' g hv=>q H' (R.mono g) (Go.refl g) v hv⟩
theorem pY:FXA X E [] qC:=nT bG λσ H Q hE=>xq5 hE λO0 M0 H0 ow m R q=>q H R (Go.refl<|aD.refl _) [] .nil
theorem gB (ha:FX X E e fa)(hr:FXA X E es fs)(hs:ax (e::es) X.env=(false,eval e X.env)::ax es X.env:=by rfl):FXA X E (e::es) (iw fa fs):=
 nT (aP ha hr hs) λσ H Q hE=>xq5 hE λO0 M0 H0 ow m R q=>⟨O0,M0,H0,ow,m,R,(Xs.bind (f:=λd m1=>(fs m1).bind λq=>.ok (d::q.1,q.2)) q).imp (Go.refl<|aD.refl _) λd H1 m1 R1 g1 e1 q v hv=>⟨O0,M0,H0,ow,m1,R1,?_⟩⟩
where finally
 refine(Xs.bind (f:=λds m2=>.ok (d::ds,m2))<|q m1 e1 R1).imp (Go.refl<|aD.refl _) λds H2 m2 R2 g2 e2 q vs hvs=>?_;exact q m2 e2 R2 H2 R2 (Go.refl<|aD.refl _) (v::vs)<|.cons (hv.go R1.mutk g2.ev) hvs
theorem Be {x1}(h:FXA X E es fs):FX X E (.Tuple es x1 pos) (w5 fs):=bI (Ew h) λσ H Q hE=>xq5 hE λO0 M0 H0 ow m R q=>by
 refine⟨O0,M0,H0,ow,m,R,(Xs.bind (f:=λds m'=>if ds.length<=aT then .ok (D.tup ds,m') else .stuck) q).imp (Go.refl<|aD.refl _) λds H1 m1 R1 g1 e1 q vs hv=>?_⟩;have q:=q m1 e1 R1;by_cases hz:ds.length<=aT
 ·rw[if_pos hz] at q;exact⟨by rw[bR hv];exact hz,λp H' g e=>q H' (R1.mono g) (Go.refl g) _<|.tup (SqU.of e)<|hv.mono g⟩
 ·rw[if_neg hz] at q;exact q.elim
theorem xm {p:Pos}{T:String}{g:List D->Option D}(hc:gm X (.type T) (rGC (gx X) g))(hg:Gl X x)(hm:X.mg x=none)(hv:b9 x=some (.type T))(ha:FXA X E (e::es) fs)(hn:x≠"__name__":=by decide)(hdb:(x==("__debug__":Str))=false:=by decide)
  (he:ax (e::es) X.env=(false,eval e X.env)::ax es X.env:=by rfl) (θ:(gX pos<|ax es X.env).any (·.1)=false:=by rfl):FX X E (.Call (.Name x p) (e::es) [] pos) (uX g fs):=
 bI (oE hc hg hm hv ha hn hdb he θ) λσ H Q hE=>xq5 hE λO0 M0 H0 ow m R q=>by
  refine⟨O0,M0,H0,ow,m,R,(Xs.bind (f:=λds m'=>(ofO<|g ds).bind λd=>.ok (d,m')) q).imp (Go.refl<|aD.refl _) λds H1 m1 R1 g1 e1 q vs hv=>?_⟩;obtain⟨r,hr,k⟩:=(Xs.pu R1.toRel<|q m1 e1 R1).ofO;exact⟨_,ds,r,R1.mutk,Dh hv,hr,λv H' g d=>k H' (R1.mono g) (Go.refl g) v d⟩
def K4 (f:Me->Res (D×Me)):Zg:=λm=>(f m.let).bind λp=>.ok (.rt false p.1,p.2)
noncomputable def Jl (i:Nat)(f:Me->Res (D×Me)):Zg:=λm=>(f m).bind λp=>.ok (.nx,p.2.set i<|.fz p.1)
theorem Xs.ss {G:Gx}{O0 M0:Za}{H0 H:Hp}{ow:Os}{σ:L2.St}{W:Ends}{r:Res (D×Me)}{k:D->Zg}(h:Ss G E O0 M0 H0 ow H W (r.bind λp=>k p.1 p.2)):
  Xs G E O0 M0 H0 ow σ H r λd H'=>∀m',r=.ok (d,m')->cM G O0 M0 H0 ow σ H' m'->Ss G E O0 M0 H0 ow H' W (k d m'):=by
 cases r with
 |ok a=>
  obtain⟨d,m1⟩:=a;intro H' R g m' e R';cases e;exact Ss.go h g
 |exc c=>exact h
 |stuck=>exact h
theorem Qm (he:FX X E e fa):FS X E (.Return (some e) pos) (K4 fa):=eG (gF he) λW σ H hE=>xq5 hE λO0 M0 H0 ow m R q=>by
 obtain⟨ow',R',g1⟩:=R.let;refine⟨O0,M0,H0,ow',m.let,R',(Xs.ss (k:=λd m'=>.ok (.rt false d,m'))<|Ss.go q g1).imp (Go.refl<|aD.refl _) λd H1 m1 R1 g1 e1 q v hv=>?_⟩;exact q m1 e1 R1 v ow' σ H1 R1 (Go.refl<|aD.refl _) hv λz=>by cases z
theorem Mz {pos':Pos}(hN:X.N.Nodup)(hi:X.N[i]? = some x)(hx:Loc X.env.scope x)(he:FX X E e fa)(hs:iS e (some<|.Name x pos') pos.line X.env=pure false:=by rfl)
  (hf:X.fn x=true\/X.env.scope.names.lookup x=some .local:=by first|exact .inl rfl|exact .inr rfl|assumption):FS X E (.Assign [.Name x pos'] e pos) (Jl i fa):=eG (dZ hN hi hx he hs hf) λW σ H hE=>xq5 hE λO0 M0 H0 ow m R q=>by
 refine⟨O0,M0,H0,ow,m,R,(Xs.ss (k:=λd m'=>.ok (.nx,m'.set i<|.fz d)) q).imp (Go.refl<|aD.refl _) λd H1 m1 R1 g1 e1 q v hv=>?_⟩;exact q m1 e1 R1 _ _ _ (R1.set hv) Go.set
end
def G6 (G:Gx)(Φ:List D->List D->Res (D×List D)):Sp:=λvs H Q E=>∃O a us es ds,vs=.ref a::us/\(∀b,O b->cj (H b))/\O a/\OV G O H a (.lst es)/\DVs G O H us ds/\match Φ es ds with
 | .ok (d,es')=>∀v H',Kp (· = a) H H'->OV G O H' a (.lst es')->DV G O H' v d->Q v H'
 | .exc c=>∀C H',XP G H' c C->Kp (· = a) H H'->E (.ref C.1) C.2 H'
 | .stuck=>False
def qR (m:Me):Option (List D):=match m[(0:Nat)]? with
 |some (.io<|.lst es)=>some es
 |_=>none
def lX (N n:Nat)(g:Zg):List D->List D->Res (D×List D):=λes ds=>if ds.length+1=n then match g (.io (.lst es)::(ds.map Sl.fz++eD (N-n) Sl.un)) with
  | .ok (.rt _ d,m')=>(ofO<|qR m').bind λes'=>.ok (d,es')
  | .ok (.nx,m')=>(ofO<|qR m').bind λes'=>.ok (.non,es')
  | .exc c=>.exc c
  |_=>.stuck
 else .stuck
theorem Et {m:Me}{es:List D}(h:qR m=some es):m[(0:Nat)]? = some (.io<|.lst es):=by
 unfold qR at h;split at h
 ·rename_i q;cases h;exact q
 ·cases h
abbrev FIO (P:bb)(w:cp)(K:aw)(mg:Zs)(base:Heap)(k:Nat)(x:Str)(ps:List Str)(Φ:List D->List D->Res (D×List D)):Prop:=Hd.Fn P w K mg base k x ps<|G6 ⟨K,mg⟩ Φ
theorem Lj {O:Za}{a:Addr}(h:O a):Ow (λb=>O b/\b≠a) (owS (λ_=>none) 0<|some a)=O:=by
 funext b;refine propext ⟨λz=>?_,λz=>?_⟩
 ·rcases z with z|⟨i,e⟩
  ·exact z.1
  ·by_cases q:i=0
   ·subst q;rw[eO] at e;cases e;exact h
   ·rw[eZ q] at e;cases e
 ·by_cases q:b=a
  ·subst q;exact .inr ⟨0,eO⟩
  ·exact .inl ⟨z,q⟩
theorem Iu {G:Gx}{O:Za}{H:Hp}{N:List Str}{a:Addr}{us:List V}{es ds:List D}{n:Nat}(hm:∀b,O b->cj (H b))(oa:O a)(ho:OV G O H a (.lst es))(hd:DVs G O H us ds)(hn:ds.length+1=n):
  cM G (λb=>O b/\b≠a) (· = a) H (owS (λ_=>none) 0<|some a) (L2.start N (.ref a::us)) H (.io (.lst es)::(ds.map Sl.fz++eD (N.length-n) Sl.un)):=by
 have hl:=bR hd;have nz:∀i,i≠0->owS (λ_=>none) 0 (some a) i=none:=λi h=>eZ h;refine⟨⟨by simp[L2.start,hl];omega,λb o e _=>e,λb z=>?_,λb z=>by rw[Lj oa] at z;exact hm b z,λi b e=>?_,λi j b e1 e2=>?_,λi hi=>?_,λi s e=>?_⟩,λj d e=>?_⟩
 ·have z:b=a:=z;rw[z];obtain⟨xs,e,_⟩:=ho;rw[e];simp
 ·by_cases q:i=0
  ·subst q;rw[eO] at e;cases e;exact λz=>z.2 rfl
  ·rw[nz i q] at e;cases e
 ·by_cases q:i=0
  ·by_cases q':j=0
   ·rw[q,q']
   ·rw[nz j q'] at e2;cases e2
  ·rw[nz i q] at e1;cases e1
 ·exact nz i (by simp at hi;omega)
 ·rw[Lj oa];cases i with
  |zero=>
   cases e;exact⟨a,eO,rfl,rfl,ho⟩
  |succ i=>
   rw[hV] at e;by_cases hi:i<ds.length
   ·rw[bE (by simpa using hi),bX] at e;cases ed:ds[i]? with
    |none=>rw[ed] at e;cases e
    |some d=>
     rw[ed] at e;cases e;obtain⟨x,hx,dx⟩:=vf hd ed;refine⟨nz _ (by omega),x,?_,dx⟩;unfold L2.start;rw[bE (by simp;omega),bX,hV,hx];rfl
   ·rw[bp (by simp;omega),c8] at e;split at e
    ·cases e;exact nz _<|by omega
    ·cases e
 ·cases j with
  |zero=>cases e
  |succ j=>
   rw[hV] at e;by_cases hi:j<ds.length
   ·rw[bE (by simpa using hi),bX] at e;cases ed:ds[j]? with
    |none=>rw[ed] at e;cases e
    |some d=>rw[ed] at e;cases e
   ·rw[bp (by simp;omega),c8] at e;split at e<;>cases e
section
variable {P:bb}{w:cp}{K:aw}{mg:Zs}{base:Heap}
theorem IK {x qual:Str}{st:Stmt}{f:Addr}{fd:de}{N ps:List Str}{k:Nat}{g:Zg}(Fu:Fun K x qual st f fd)(S:aX N ps (aC st))
  (hbody:∀(cdv:ay) (A:dy) (outer:List Env) (s:aS) (H:Hp) (E:XK),fZ k (A.deeper<|qB qual (aC st) s.heap.objs.size f cdv)->
   FSs (uR (CX1 P w) P w K mg base N qual (aC st) f cdv A outer s H E) E (fM st) g):b8 P w K mg base (CX1 P w) (k+1) f fd ps (G6 ⟨K,mg⟩<|lX N.length ps.length g):=by
 have cond:∀{es ds:List D},lX N.length ps.length g es ds≠.stuck->ds.length+1=ps.length:=λ{es ds} h=>by
  by_cases z:ds.length+1=ps.length
  ·exact z
  ·unfold lX at h;rw[if_neg z] at h;exact absurd rfl h
 refine fD Fu S (λvs H Q E h=>?_) λcdv A outer s H vs Q E hr h=>?_
 ·obtain⟨O,a,us,es,ds,rfl,_,_,_,hd,q⟩:=h;rw[bS,bR hd];exact cond λz=>by rw[z] at q;exact q
 ·obtain⟨O,a,us,es,ds,rfl,hm,oa,ho,hd,q⟩:=h;have hn:=cond (es:=es) (ds:=ds) λz=>by rw[z] at q;exact q
  unfold lX at q;rw[if_pos hn] at q;refine⟨_,hbody cdv A outer s H E hr,_,_,H,_,_,Iu hm oa ho hd hn,?_⟩;have fin:∀{ow' σ' H' m' es'},cM (⟨K,mg⟩:Gx) (λb=>O b/\b≠a) (· = a) H ow' σ' H' m'->m'[(0:Nat)]? = some (Sl.io<|.lst es')->Kp (· = a) H H'/\OV ⟨K,mg⟩ O H' a (.lst es')/\∀v d,DV (⟨K,mg⟩:Gx) (Ow (λb=>O b/\b≠a) ow') H' v d->DV ⟨K,mg⟩ O H' v d:=λ{ow' σ' H' m' es'} R e=>by
   obtain⟨a',e1,e2,e3,e4⟩:=R.slot 0 _ e;have e2:a'=a:=e2;subst e2;have sub:∀b,O b->Ow (λb=>O b/\b≠a') ow' b\/H' b=none:=λb z=>by
    by_cases q:b=a'
    ·exact .inl<|.inr ⟨0,by rw[q];exact e1⟩
    ·exact .inl<|.inl ⟨z,q⟩
   exact⟨R.keep,e4.bZ sub,λv d h=>h.bZ sub⟩
  cases z:g (.io (.lst es)::(ds.map Sl.fz++eD (N.length-ps.length) Sl.un)) with
  |exc c=>rw[z] at q;exact λC H' e kp=>q C H' e kp
  |stuck=>rw[z] at q;exact q.elim
  |ok b=>
   obtain⟨fl,m'⟩:=b;rw[z] at q;cases fl with
   |bk=>exact q.elim
   |ct=>exact q.elim
   |nx=>
    intro ow' σ' H' R' _;cases e0:qR m' with
    |none=>simp only[e0] at q;exact q.elim
    |some es'=>
     simp only[e0] at q;obtain⟨k1,k2,k3⟩:=fin R'<|Et e0;exact q _ H' k1 k2 .non
   |rt fr d=>
    intro v ow' σ' H' R' _ hv _;cases e0:qR m' with
    |none=>simp only[e0] at q;exact q.elim
    |some es'=>
     simp only[e0] at q;obtain⟨k1,k2,k3⟩:=fin R'<|Et e0;exact q v H' k1 k2<|k3 _ _ hv
theorem Ud {k:Nat}{f:Addr}{fd:de}{ps:List Str}:b8 P w K mg base (CX1 P w) k f fd ps (G6 ⟨K,mg⟩ λ_ _=>.stuck):=
 ⟨λ_ _ _ _ ⟨_,_,_,_,_,_,_,_,_,_,q⟩=>q.elim,λ_ _ _ _ _ _ _ _ _ _ _ _ _ ⟨_,_,_,_,_,_,_,_,_,_,q⟩=>q.elim⟩
end
def Qh (Φ:List D->List D->Res (D×List D))(i:Nat)(fs:Ze):Me->Res (D×Me):=λm=>(ofO<|jC m i).bind λo=>(fs m).bind λds=>(Φ o.2 ds).bind λr=>.ok (r.1,putL m i o.1 r.2)
theorem QV {X:Cx}{E:XK}{es:List Expr}{fs:Ze}{pos p np:Pos}{j k:Nat}{x y:Str}{ps:List Str}{Φ:List D->List D->Res (D×List D)}(i:Nat)(Fh:FIO X.prog X.w X.K X.mg X.base k x ps Φ)(hr:fZ j X.A)(hx:Passes (CX1 X.prog X.w) X E)(ha:FAE X E es fs)(hk:k<=j:=by decide)(hg:Gl X x:=by rfl)
  (hN:X.N[i]? = some y:=by rfl) (hv:Vis X.env.scope y:=by first|exact ar rfl|exact ip (ar rfl)|exact ip (ip rfl)) (hd:(y==("__debug__":Str))=false:=by decide) (hcd:(y==("__classdict__":Str))=false:=by decide)
  (hdb:(x==("__debug__":Str))=false:=by decide) (he:ax (.Name y np::es) X.env=(false,eval (.Name y np) X.env)::ax es X.env:=by rfl) (θ:(gX pos<|ax es X.env).any (·.1)=false:=by rfl):
  FX X E (.Call (.Name x p) (.Name y np::es) [] pos) (Qh Φ i fs):=by
 obtain⟨f,fd,G,b,kp,m⟩:=Fh.ex;refine bI (pW G (hr.mono hk) hg m kp b .nil hx (aP (aL hN hv hd hcd) ha he) hdb he θ) λσ H Q hE=>xq5 hE λO0 M0 H0 ow m R q=>?_;obtain⟨o,ho,q⟩:=(Xs.pu R.toRel q).ofO;obtain⟨kk,ds0⟩:=o;obtain⟨a,xs,e1,e2,e3,e4,e5⟩:=t8 R.toRel ho;refine⟨_,e2,O0,M0,H0,ow,m,R.toRel,(Xs.pu R.toRel q).imp (aD.refl _) λds q vs H1 g1 hvs=>?_⟩;have R1:=R.mono g1;show G6 _ _ ((V.ref a::vs)++[]) _ _ _;rw[dA];refine⟨Ow O0 ow,a,vs,ds0,ds,rfl,R1.mutk,.inr ⟨i,e1⟩,⟨xs,g1 _ _ e3,e4.mono g1⟩,hvs,?_⟩;cases z:Φ ds0 ds with
 |stuck=>rw[z] at q;exact q.elim
 |exc c=>
  rw[z] at q;refine λC H' e g=>q C H' e λb o e n=>?_;refine g b o (R1.keep b o e n) λw=>?_;subst w;rcases e5 with⟨s,_⟩|⟨s,_⟩
  ·obtain⟨a',s1,s2,_⟩:=R.slot i _ s;rw[e1] at s1;cases s1;rw[s2] at e;cases e
  ·obtain⟨a',s1,s2,_⟩:=R.slot i _ s;rw[e1] at s1;cases s1;exact n s2
 |ok r=>
  obtain⟨d,es'⟩:=r;rw[z] at q;intro v H' g ov hv;have gg:Kp (· = a) H H':=λb o e n=>g b o (g1 b o e) n;refine q H' (R1.chg (d:=.lst ds0) (d':=.lst es') e1 g ov ?_) ((Go.refl g1).trans<|Go.chg e1 g ov) v hv;rcases e5 with⟨s,rfl⟩|⟨s,rfl⟩
  ·exact .inl ⟨s,rfl⟩
  ·exact .inr ⟨s,rfl⟩
noncomputable def Sl.cap:Sl->Sl
 | .ow d=>.io d
 | .hd _ a d=>.hd false a d
 |s=>s
def zQ (k:Nat)(cap:List Nat)(m:Me):Me:=eD k .un++cap.map λj=>(m.getD j .un).cap
def bkS:Sl->Sl->Sl
 | .ow _,.io d=>.ow d
 | .io _,.io d=>.io d
 |s,_=>s
def isOwn:Sl->Bool
 | .ow _=>true
 | .io _=>true
 |_=>false
def TX:Sl->Bool
 | .io _=>true
 |_=>false
def VV:Sl->Bool
 | .hd _ _ _=>true
 |_=>false
def Ah (cap:List Nat)(m inner:Me):Me:=m.mapIdx λj s=>match(cap.zip inner).lookup j with
 |some t=>bkS s t
 |none=>s
def okB (cap:List Nat)(m inner:Me):Bool:=(cap.zip inner).all λp=>(!isOwn (m.getD p.1 .un)||TX p.2)&&!VV (m.getD p.1 .un)
def lG (k:Nat)(cap:List Nat)(h:Zh)(fe:Me->Res (D×Me)):Me->List D->Res (List D×Me)
 |m,[]=>.ok ([],m)
 |m,d::ds=>match h d (zQ k cap m) with
  |none=>.stuck
  |some m1=>match fe m1 with
   | .ok (y,m2)=>if okB cap m (m2.drop k)=true then match lG k cap h fe (Ah cap m<|m2.drop k) ds with
     | .ok (ys,mf)=>.ok (y::ys,mf)
     |_=>.stuck
    else .stuck
   |_=>.stuck
def qZ (k:Nat)(cap:List Nat)(fi:Ze)(h:Zh)(fe:Me->Res (D×Me)):Me->Res (D×Me):=λm=>(fi m).bind λds=>
 if ds.length<=aT then match lG k cap h fe m ds with
  | .ok (ys,mf)=>.ok (.lst ys,mf)
  |_=>.stuck
 else .stuck
section
theorem cM.more (R:cM G O0 M0 H0 ow σ H m)(hl:H l=none)(ho:cj (some o)):cM G (Op O0 l) M0 H0 ow σ (L2.upd H l o) m:=by
 have nl:=R.BJ hl;have sub:∀b,Ow (Op O0 l) ow b->Ow O0 ow b\/b=l:=λb z=>z.elim (λy=>y.elim (λw=>.inl<|.inl w) .inr) λy=>.inl<|.inr y;have sub':∀b,Ow (Op O0 l) ow b->Ow O0 ow b\/H b=none:=λb z=>(sub b z).elim .inl λe=>.inr (by rw[e];exact hl);have g:aD H (L2.upd H l o):=bJ hl _;have R':=R.toRel.mono g;refine⟨⟨R.len,R'.keep,R'.m0,λb z=>?_,λi a e z=>?_,R.inj,R.out,λi s e=>?_⟩,R.nb⟩
 ·rcases sub b z with z|z
  ·exact R'.mutk b z
  ·rw[z,L2.aH];exact ho
 ·rcases z with z|z
  ·exact R.no0 i a e z
  ·exact nl<|z▸.inr ⟨i,e⟩
 ·exact((R.slot i s e).bZ sub' λ_ _ b _=>mI _).mono g
theorem cM.less (R:cM G (Op O0 l) M0 H0 ow σ H m):cM G O0 M0 H0 ow σ H m:=by
 have sub:∀b,Ow O0 ow b->Ow (Op O0 l) ow b:=λb z=>z.elim (λy=>.inl<|.inl y) .inr;exact⟨⟨R.len,R.keep,R.m0,λb z=>R.mutk b<|sub b z,λi a e z=>R.no0 i a e<|.inl z,R.inj,R.out,λi s e=>(R.slot i s e).bZ (λb z=>.inl<|sub b z) λ_ _ b _=>mI _⟩,R.nb⟩
theorem cM.VP (R:cM G O0 M0 H0 ow σ H m)(hl:O0 l)(h0:H0 l=none)(ho:cj (some o)):cM G O0 M0 H0 ow σ (L2.upd H l o) m/\Kp (Ow O0 ow) H (L2.upd H l o):=by
 have kp:Kp (Ow O0 ow) H (L2.upd H l o):=λb u e n=>by rw[L2.aM<|show b≠l from λz=>n<|z▸.inl hl];exact e
 refine⟨⟨⟨R.len,λb u e n=>?_,λb z=>?_,λb z=>?_,R.no0,R.inj,R.out,λi s e=>?_⟩,R.nb⟩,kp⟩
 ·rw[L2.aM (show b≠l from λz=>by rw[z,h0] at e;cases e)];exact R.keep b u e n
 ·by_cases q:b=l
  ·rw[q,L2.aH];simp
  ·rw[L2.aM q];exact R.m0 b z
 ·by_cases q:b=l
  ·rw[q,L2.aH];exact ho
  ·rw[L2.aM q];exact R.mutk b z
 ·have z:=R.slot i s e;cases s with
  |un=>exact z
  |fz d=>obtain⟨b,x,e,q⟩:=z;exact⟨b,x,e,q.kp R.mutk kp⟩
  |ow d=>obtain⟨b,x,e,f,q⟩:=z;exact⟨b,x,e,f,q.kp R.mutk kp<|L2.aM λw=>R.no0 i b x<|w▸hl⟩
  |io d=>obtain⟨b,x,e,f,q⟩:=z;exact⟨b,x,e,f,q.kp R.mutk kp<|L2.aM λw=>R.no0 i b x<|w▸hl⟩
  |bw d=>exact(R.nb i d e).elim
  |hd w b d=>obtain⟨x,e,f,q⟩:=z;exact⟨x,e,f,q.kp R.mutk kp<|L2.aM λw=>R.no0 i b x<|w▸hl⟩
end
def owI (k:Nat)(cap:List Nat)(ow:Os):Os:=λi=>if k<=i then(cap[i-k]?).bind ow else none
def M0I (k:Nat)(cap:List Nat)(ow:Os):Za:=λb=>∃i,owI k cap ow i=some b
def O0I (k:Nat)(cap:List Nat)(O0:Za)(ow:Os):Za:=λb=>Ow O0 ow b/\¬M0I k cap ow b
section
variable {G:Gx}{O0 M0:Za}{H0 H H':Hp}{ow:Os}{σ:L2.St}{m:Me}{k:Nat}{cap:List Nat}
theorem Bl (e:owI k cap ow i=some a):k<=i/\∃j,cap[i-k]? = some j/\ow j=some a:=by grind[owI]
theorem pB (h:M0I k cap ow b):∃(p j:Nat),cap[p]? = some j/\ow j=some b:=by
 obtain⟨i,e⟩:=h;obtain⟨_,j,h1,h2⟩:=Bl e;exact⟨_,j,h1,h2⟩
theorem xY:Ow (O0I k cap O0 ow) (owI k cap ow)=Ow O0 ow:=by
 funext b;refine propext ⟨λz=>?_,λz=>?_⟩
 ·rcases z with z|z
  ·exact z.1
  ·obtain⟨p,j,_,e⟩:=pB z;exact .inr ⟨j,e⟩
 ·by_cases q:M0I k cap ow b
  ·exact .inr q
  ·exact .inl ⟨z,q⟩
theorem HR {l:List α}(nd:l.Nodup){p q:Nat}{x:α}(h1:l[p]? = some x)(h2:l[q]? = some x):p=q:=by
 obtain⟨hp,e1⟩:=eC.mp h1;obtain⟨hq,e2⟩:=eC.mp h2;exact(List.getElem_inj nd).mp (e1.trans e2.symm)
theorem Hn (nd:cap.Nodup)(R:cM G O0 M0 H0 ow σ H m):cM G (O0I k cap O0 ow) (M0I k cap ow) H (owI k cap ow) (cSt k cap σ) H (zQ k cap m):=by
 have slot:∀i s,(zQ k cap m)[i]? = some s->(i<k/\s=.un)\/∃j,k<=i/\cap[i-k]? = some j/\s=(m.getD j .un).cap:=λi s e=>by
  unfold zQ at e;by_cases hi:i<k
  ·rw[bE (by simpa using hi),c8,if_pos hi] at e;cases e;exact .inl ⟨hi,rfl⟩
  ·rw[bp (by simp;lia),ff,bX] at e;cases ec:cap[i-k]? with
   |none=>rw[ec] at e;cases e
   |some j=>rw[ec] at e;cases e;exact .inr ⟨j,by lia,rfl,rfl⟩
 have eσ:∀i j,k<=i->cap[i-k]? = some j->(cSt k cap σ)[i]? = some (σ[j]?).join:=λi j hi ec=>by
  unfold cSt;rw[bp (by simp;lia),ff,bX,ec];rfl
 refine⟨⟨by simp[cSt,zQ],λb o e _=>e,λb z=>?_,λb z=>by rw[xY] at z;exact R.mutk b z,λi a e z=>z.2 ⟨i,e⟩,λi j a e1 e2=>?_,λi hi=>?_,λi s e=>?_⟩,λi d e=>?_⟩
 ·obtain⟨p,j,_,e⟩:=pB z
  have:=R.mutk b<|.inr ⟨j,e⟩
  intro w;rw[w] at this;rcases this with⟨_,e⟩|⟨_,e⟩|⟨_,e⟩|⟨_,e⟩<;>cases e
 ·obtain⟨h1,p,c1,o1⟩:=Bl e1;obtain⟨h2,q,c2,o2⟩:=Bl e2
  have:=R.inj p q a o1 o2
  subst this
  have:=HR nd c1 c2
  lia
 ·have hi':k+cap.length<=i:=by simpa[zQ] using hi
  unfold owI;rw[if_pos (by lia),pj<|by lia];rfl
 ·rw[xY];rcases slot i s e with⟨hi,rfl⟩|⟨j,hi,ec,rfl⟩
  ·show owI k cap ow i=none;unfold owI;rw[if_neg<|by lia]
  ·have eo:owI k cap ow i=ow j:=by unfold owI;rw[if_pos hi,ec];rfl
   rw[eσ i j hi ec];cases ej:m[j]? with
   |none=>
    have:m.getD j .un=.un:=by simp[kL,ej]
    rw[this];show owI k cap ow i=none;rw[eo];exact R.out j<|List.getElem?_eq_none_iff.mp ej
   |some s0=>
    have:m.getD j .un=s0:=by simp[kL,ej]
    rw[this];have z:=R.slot j s0 ej;cases s0 with
    |un=>exact eo.trans z
    |fz d=>obtain⟨z1,x,e1,hv⟩:=z;exact⟨eo.trans z1,x,by rw[e1];rfl,hv⟩
    |ow d=>obtain⟨a,h1,h2,h3,h4⟩:=z;exact⟨a,eo.trans h1,⟨i,eo.trans h1⟩,by rw[h3];rfl,h4⟩
    |io d=>obtain⟨a,h1,h2,h3,h4⟩:=z;exact⟨a,eo.trans h1,⟨i,eo.trans h1⟩,by rw[h3];rfl,h4⟩
    |bw d=>exact(R.nb j d ej).elim
    |hd w a d=>obtain⟨h1,h2,h3,h4⟩:=z;exact⟨eo.trans h1,(λz=>by cases z),λ_=>⟨i,eo.trans h1⟩,h4⟩
 ·rcases slot i _ e with⟨_,w⟩|⟨j,hi,ec,w⟩
  ·cases w
  ·cases ej:m[j]? with
   |none=>
    have:m.getD j .un=.un:=by simp[kL,ej]
    rw[this] at w;cases w
   |some s0=>
    have:m.getD j .un=s0:=by simp[kL,ej]
    rw[this] at w;cases s0 with
    |bw d'=>exact R.nb j d' ej
    |_=>cases w
theorem uI:∀{l:List Nat} {r:List β} {j:Nat} {t:β},(l.zip r).lookup j=some t->∃(p:Nat),l[p]? = some j/\r[p]? = some t
 |[],_,_,_,h=>by simp at h
 |_::_,[],_,_,h=>by simp at h
 |a::l,b::r,j,t,h=>by
  rw[mM,cc] at h;split at h
  ·rename_i e;cases h
   have:j=a:=by simpa using e
   exact⟨0,by simp[this],by simp⟩
  ·obtain⟨p,h1,h2⟩:=uI h;exact⟨p+1,by simpa using h1,by simpa using h2⟩
theorem lZ:∀{l:List Nat} {r:List β} {j p:Nat},(l.zip r).lookup j=none->l.length<=r.length->l[p]? = some j->False
 |[],_,_,_,_,_,h=>by simp at h
 |a::l,[],_,_,_,hl,_=>by simp at hl
 |a::l,b::r,j,p,h,hl,hp=>by
  rw[mM,cc] at h;split at h
  ·cases h
  ·rename_i e;cases p with
   |zero=>simp at hp;simp[hp] at e
   |succ p=>exact lZ h (by simpa using hl) (p:=p) (by simpa using hp)
theorem yr:∀{l:List Nat} {r:List β} {p j:Nat} {t:β},l[p]? = some j->r[p]? = some t->(j,t)∈l.zip r
 |[],_,_,_,_,h,_=>by simp at h
 |_::_,[],_,_,_,_,h=>by simp at h
 |a::l,b::r,0,j,t,h1,h2=>by simp at h1 h2;simp[h1,h2]
 |a::l,b::r,p+1,j,t,h1,h2=>by
  rw[mM];exact ah _<|yr (by simpa using h1) (by simpa using h2)
theorem BV (R:cM G O0 M0 H0 ow σ H m)(R5:cM G (O0I k cap O0 ow) (M0I k cap ow) H ow' σ' H' m2)(hdr:σ'.drop k=(cSt k cap σ).drop k)(hok:okB cap m (m2.drop k)=true):
  cM G O0 M0 H0 ow σ H' (Ah cap m<|m2.drop k)/\(∀b,Ow O0 ow b->Ow (O0I k cap O0 ow) ow' b)/\Kp (Ow O0 ow) H H':=by
 have dr:(cSt k cap σ).drop k=cap.map λj=>(σ[j]?).join:=by unfold cSt;rw[List.drop_left'<|by simp]
 rw[dr] at hdr;have η:(m2.drop k).length=cap.length:=by
  have:=congrArg rh hdr
  rw[i7,dQ] at this;rw[i7,← R5.len];exact this
 have kp:Kp (Ow O0 ow) H H':=λb o e n=>R5.keep b o e λz=>by
  obtain⟨p,j,_,eo⟩:=pB z;exact n<|.inr ⟨j,eo⟩
 have own:∀p j a,cap[p]? = some j->ow j=some a->∃d' ,m2[k+p]? = some (.io d')/\ow' (k+p)=some a/\OV G (Ow (O0I k cap O0 ow) ow') H' a d':=λp j a hc ho=>by
  have hjm:j<m.length:=by
   by_cases z:j<m.length
   ·exact z
   ·rw[R.out j<|by lia] at ho;cases ho
  have hp:p<(m2.drop k).length:=by rw[η];exact yK hc
  have et:(m2.drop k)[p]? = some ((m2.drop k)[p]):=cf hp;have hio0:=i9.mp hok _<|yr hc et;have hio0:=k8.mp hio0;have hw:isOwn (m.getD j .un)=true/\σ[j]? = some (some<|.ref a):=by
   have ej:m[j]? = some m[j]:=cf hjm
   have:m.getD j .un=m[j]:=by simp[kL,ej]
   rw[this];rw[this] at hio0;have z:=R.slot j _ ej;cases q:m[j] with
   |hd w b d=>rw[q] at hio0;cases hio0.2
   |un=>rw[q] at z;rw[show ow j=none from z] at ho;cases ho
   |fz d=>rw[q] at z;rw[z.1] at ho;cases ho
   |bw d=>rw[q] at z;rw[z.1] at ho;cases ho
   |ow d=>rw[q] at z;obtain⟨a',h1,h2,h3,h4⟩:=z;rw[ho] at h1;cases h1;exact⟨rfl,h3⟩
   |io d=>rw[q] at z;obtain⟨a',h1,h2,h3,h4⟩:=z;rw[ho] at h1;cases h1;exact⟨rfl,h3⟩
  have hio:=hio0.1;simp only[hw.1,r6,Bool.false_or] at hio;have em:m2[k+p]? = some ((m2.drop k)[p]):=by rw[← et,gu]
  cases q:(m2.drop k)[p] with
  |io d'=>
   rw[q] at em;refine o4 (R5.slot _ _ em) λa' h1 h2 h3 h4=>?_;have es:σ'[k+p]? = some (σ[j]?).join:=by rw[← gu,hdr,bX,hc];rfl
   rw[h3,hw.2] at es;cases es;exact⟨d',em,h1,h4⟩
  |_=>rw[q] at hio;cases hio
 have sup:∀b,Ow O0 ow b->Ow (O0I k cap O0 ow) ow' b:=λb z=>by
  by_cases q:M0I k cap ow b
  ·obtain⟨p,j,hc,ho⟩:=pB q;obtain⟨d',_,h,_⟩:=own p j b hc ho;exact .inr ⟨_,h⟩
  ·exact .inl ⟨z,q⟩
 have gi:∀j,(Ah cap m<|m2.drop k)[j]? = m[j]?.map λs=>match(cap.zip<|m2.drop k).lookup j with|some t=>bkS s t|none=>s:=λj=>by unfold Ah;rw[List.getElem?_mapIdx]
 refine⟨⟨⟨by rw[R.len];unfold Ah;simp,λb o e n=>?_,λb z=>?_,λb z=>?_,R.no0,R.inj,λj hj=>R.out j (by unfold Ah at hj;simpa using hj),λj s e=>?_⟩,λj d e=>?_⟩,sup,kp⟩
 ·refine R5.keep b o (R.keep b o e n) λz=>?_;obtain⟨p,j,_,ho⟩:=pB z;have hjm:j<m.length:=by
   by_cases z:j<m.length
   ·exact z
   ·rw[R.out j<|by lia] at ho;cases ho
  have ej:m[j]? = some m[j]:=cf hjm;have z:=R.slot j _ ej;cases q:m[j] with
  |hd w b' d=>
   rw[q] at z;obtain⟨h1,h2,h3,h4⟩:=z;rw[ho] at h1;cases h1;cases w with
   |true=>rw[h2 rfl] at e;cases e
   |false=>exact n (h3 rfl)
  |un=>rw[q] at z;rw[show ow j=none from z] at ho;cases ho
  |fz d=>rw[q] at z;rw[z.1] at ho;cases ho
  |bw d=>rw[q] at z;rw[z.1] at ho;cases ho
  |ow d=>rw[q] at z;obtain⟨a',h1,h2,h3,h4⟩:=z;rw[ho] at h1;cases h1;rw[h2] at e;cases e
  |io d=>rw[q] at z;obtain⟨a',h1,h2,h3,h4⟩:=z;rw[ho] at h1;cases h1;exact n h2
 ·cases q:H b with
  |none=>exact absurd q (R.m0 b z)
  |some o=>
   by_cases w:M0I k cap ow b
   ·exact R5.m0 b w
   ·rw[R5.keep b o q w];simp
 ·exact R5.mutk b<|sup b z
 ·rw[gi] at e;cases ej:m[j]? with
  |none=>rw[ej] at e;cases e
  |some s0=>
   rw[ej] at e;have z:=R.slot j s0 ej;have e:(match(cap.zip<|m2.drop k).lookup j with|some t=>bkS s0 t|none=>s0)=s:=cx e;have plain:∀d,s0=.fz d->zy G (Ow O0 ow) M0 H0 (ow j) σ[j]? H' (.fz d):=λd w=>by
    subst w;obtain⟨z1,x,e1,hv⟩:=z;exact⟨z1,x,e1,hv.kp R.mutk kp⟩
   cases el:(cap.zip<|m2.drop k).lookup j with
   |some t=>
    rw[el] at e;obtain⟨p,hc,ht⟩:=uI el;cases s0 with
    |un=>cases e;exact z
    |fz d=>cases e;exact plain d rfl
    |bw d=>exact(R.nb j d ej).elim
    |hd w a d=>
     have hq:=(k8.mp<|i9.mp hok _<|yr hc ht).2;rw[show m.getD j .un=.hd w a d by simp[kL,ej]] at hq;cases hq
    |ow d=>
     refine o4 z λa h1 h2 h3 h4=>?_;obtain⟨d',k1,k2,k3⟩:=own p j a hc h1;rw[gu] at ht;rw[k1] at ht;cases ht;cases e;exact⟨a,h1,h2,h3,k3.bZ λb z=>.inl<|sup b z⟩
    |io d=>
     refine o4 z λa h1 h2 h3 h4=>?_;obtain⟨d',k1,k2,k3⟩:=own p j a hc h1;rw[gu] at ht;rw[k1] at ht;cases ht;cases e;exact⟨a,h1,h2,h3,k3.bZ λb z=>.inl<|sup b z⟩
   |none=>
    rw[el] at e;cases e;have keepA:∀a,ow j=some a->H' a=H a:=λa ho=>by
     have nm:¬M0I k cap ow a:=λw=>by
      obtain⟨p,j',hc,ho'⟩:=pB w
      have:=R.inj j j' a ho ho'
      subst this;exact lZ el (by rw[η];exact aI _) hc
     rcases R.mutk a (.inr ⟨j,ho⟩) with⟨_,e⟩|⟨_,e⟩|⟨_,e⟩|⟨_,e⟩<;>rw[e]<;>exact R5.keep a _ e nm
    cases s0 with
    |un=>exact z
    |fz d=>exact plain d rfl
    |bw d=>exact(R.nb j d ej).elim
    |hd w a d=>obtain⟨h1,h2,h3,h4⟩:=z;exact⟨h1,h2,h3,h4.kp R.mutk kp<|keepA a h1⟩
    |ow d=>obtain⟨a,h1,h2,h3,h4⟩:=z;exact⟨a,h1,h2,h3,h4.kp R.mutk kp<|keepA a h1⟩
    |io d=>obtain⟨a,h1,h2,h3,h4⟩:=z;exact⟨a,h1,h2,h3,h4.kp R.mutk kp<|keepA a h1⟩
 ·rw[gi] at e;cases ej:m[j]? with
  |none=>rw[ej] at e;cases e
  |some s0=>
   rw[ej] at e;have e:(match(cap.zip<|m2.drop k).lookup j with|some t=>bkS s0 t|none=>s0)=.bw d:=cx e;cases s0 with
   |bw d'=>exact R.nb j d' ej
   |un=>split at e<;>cases e
   |hd w a d=>split at e<;>cases e
   |fz d=>split at e<;>cases e
   |ow d=>split at e<;>(try (rename_i t _;cases t))<;>cases e
   |io d=>split at e<;>(try (rename_i t _;cases t))<;>cases e
end
section
variable {X:Cx}{E:XK}{k:Nat}{cap:List Nat}{fi:Ze}{h:Zh}{fe:Me->Res (D×Me)}
theorem wI {O0:Za}{ow:Os}{l b:Addr}(z:Ow (Op O0 l) ow b):Ow O0 ow b\/b=l:=z.elim (λy=>y.elim (λw=>.inl<|.inl w) .inr) λy=>.inl<|.inr y
theorem KZ {σ:L2.St}{H:Hp}{Q:VK}(nd:cap.Nodup)(hq:tX (gx X) E (qZ k cap fi h fe) σ H Q):zr k cap (tI (gx X) E fi) (tG (gx X) k h) RT (tX (gx X) E0 fe) σ H Q:=by
 obtain⟨O0,M0,H0,ow,m,R,q⟩:=hq;refine⟨O0,M0,H0,ow,m,R.toRel,(Xs.pu R.toRel q).imp (aD.refl _) λds q J H1 g1 it l hl=>?_⟩;by_cases hz:ds.length<=aT
 case neg=>rw[if_neg hz] at q;exact q.elim
 rw[if_pos hz] at q;cases hc:lG k cap h fe m ds with
 |exc c=>rw[hc] at q;exact q.elim
 |stuck=>rw[hc] at q;exact q.elim
 |ok r=>
  obtain⟨ys,mf⟩:=r;rw[hc] at q;have R1:=R.mono g1;have h0l:H0 l=none:=R1.toRel.Jt hl;have nl:¬Ow O0 ow l:=R1.toRel.BJ hl;have mtk:∀zs:List V,cj (some<|.lst zs):=λzs=>.inl ⟨zs,rfl⟩;refine⟨λi n zs H'=>n=ds.length-i/\i<=ds.length/\zs.length<=i/\H' l=some (.lst zs)/\Go O0 ow H1 ow H'/\∃mi es rest,cM (gx X) (Op O0 l) M0 H0 ow σ H' mi/\DVs (gx X) (Ow (Op O0 l) ow) H' zs es/\lG k cap h fe mi (ds.drop i)=.ok (rest,mf)/\es++rest=ys,
   ⟨ds.length,by simp,eW _,aI _,aH,Go.refl<|bJ hl _,m,[],ys,R1.more hl<|mtk [],.nil,hc,rfl⟩,?_⟩
  rintro i n zs H' ⟨rfl,hi,hzi,hH,g2,mi,es,rest,Ri,hes,hcr,hys⟩;obtain⟨i1,i2,i3⟩:=it (Ow (Op O0 l) ow) H' ⟨λb z=>(wI z).elim .inl λe=>.inr (by rw[e];exact hl),g2.keep⟩;by_cases hlt:i<ds.length
  ·refine .inr ⟨i1 i hlt,λx H2 y=>?_⟩;obtain⟨g3,d,hd,dv⟩:=i2 i x H2 hlt y;have ed:ds.drop i=d::ds.drop (i+1):=by
    rw[i0 hlt];rw[cf hlt] at hd;cases hd;rfl
   rw[ed] at hcr;unfold lG at hcr;cases eh:h d (zQ k cap mi) with
   |none=>rw[eh] at hcr;cases hcr
   |some m1=>
    rw[eh] at hcr;have R2:=Ri.mono g3;have RI:=Hn (k:=k) nd R2;refine⟨_,_,_,_,_,d,m1,RI.toRel,by rw[xY];exact dv,eh,λow' σ' R' g' nb hdr=>⟨hdr,?_⟩⟩;dsimp only[RT];rw[if_pos rfl];refine⟨_,_,_,ow',m1,⟨R',nb RI.nb⟩,?_⟩;simp only[] at hcr;cases ee:fe m1 with
    |exc c=>rw[ee] at hcr;cases hcr
    |stuck=>rw[ee] at hcr;cases hcr
    |ok r=>
     obtain⟨y',m2⟩:=r;rw[ee] at hcr;intro H5 R5 g5 v hv;simp only[] at hcr;by_cases hok:okB cap mi (m2.drop k)=true
     case neg=>rw[if_neg hok] at hcr;cases hcr
     rw[if_pos hok] at hcr;cases er:lG k cap h fe (Ah cap mi<|m2.drop k) (ds.drop<|i+1) with
     |exc c=>rw[er] at hcr;cases hcr
     |stuck=>rw[er] at hcr;cases hcr
     |ok r'=>
      obtain⟨rest',mf'⟩:=r';rw[er] at hcr;cases hcr;obtain⟨RB,sup,kp⟩:=BV R2 R5 hdr hok;have nM:¬M0I k cap ow l:=λz=>by
       obtain⟨p,j,_,e⟩:=pB z;exact nl<|.inr ⟨j,e⟩
      have h5l:H5 l=some (.lst zs):=R5.keep l _ (g3 _ _ hH) nM;obtain⟨RU,kpu⟩:=RB.VP (l:=l) (o:=.lst<|zs++[v]) (.inr rfl) h0l<|mtk _;refine⟨h5l,by omega,ds.length-(i+1),by omega,rfl,hlt,by rw[be,gc];omega,aH,?_,_,es++[y'],rest',RU,?_,er,by rw[bP];exact hys⟩
      ·refine⟨λb o e n=>?_,λj a e=>.inl<|.inr ⟨j,e⟩,λb n w=>?_⟩
       ·have nb:b≠l:=λz=>by rw[z,hl] at e;cases e
        refine kpu b o (kp b o (g3 b o<|g2.keep b o e n) ?_) ?_
        ·exact λz=>(wI z).elim n nb
        ·exact λz=>(wI z).elim n nb
       ·have n':=g2.dom b n;by_cases nb:b=l
        ·rw[nb,hl] at n;exact n rfl
        ·rw[aM nb] at w;cases q2:H2 b with
         |none=>
          cases q1:H' b with
          |none=>exact n' q1
          |some o=>rw[g3 b o q1] at q2;cases q2
         |some o=>
          by_cases mm:M0I k cap ow b
          ·exact R5.m0 b mm w
          ·rw[R5.keep b o q2 mm] at w;cases w
      ·have h5:DVs (gx X) (Ow (Op O0 l) ow) H5 zs es:=(hes.mono g3).kp R2.mutk kp;have hv':DV (gx X) (Ow (Op O0 l) ow) H5 v y':=hv.bZ λb z=>.inl<|sup b z;exact iC (h5.kp RB.mutk kpu)<|.cons (hv'.kp RB.mutk kpu) .nil
  ·have e:i=ds.length:=by omega
   subst e;rw[oq] at hcr;cases hcr;rw[dA] at hys;subst hys;refine .inl ⟨i3,q H' Ri.less ((Go.refl g1).trans g2) _<|.lst (.inl ⟨nl,.inl hH⟩)<|hes.bZ λb z=>.inl<|z.elim (λy=>.inl<|.inl y) .inr⟩
theorem Ft {tg iter elt:Expr}{scope:mo}{pos:Pos}(sc:mo)(N' caps:List Str)(k:Nat)(cap:List Nat)(hcalm:X.calm=true)(S:CSc sc scope caps)(hcap:h8 (λj x=>X.N[j]? = some x) cap caps)(nd:cap.Nodup)
  (hi:FI X E tg iter fi) (hg:∀cl C sE HE fp π,FG (cC X N' scope cl C sE HE fp π) k tg h) (he:∀cl C sE HE fp π,FX (cC X N' scope cl C sE HE fp π) E0 elt fe)
  (hsc:X.env.scope=sc:=by rfl) (hN:N'.drop k=caps:=by rfl) (hk:k<=N'.length:=by decide) (hs:∀x,eT iter X.env x=pure x:=by intro _;rfl):
  FX X E (.ListComp elt [⟨tg,iter,[],0⟩] scope pos) (qZ k cap fi h fe):=bI (Dk sc N' caps k cap hcalm S hcap hi hg (λ_ _ _ _ _ _=>Dt) he hsc hN hk hs) λ_ _ _ q=>KZ nd q
end
section
variable {X:Cx}{E:XK}{e:Expr}{f:Zl}{fu:Me->Res Unit}{x:Str}{np ρ pos:Pos}{C:Addr}{bmB:List ay}{B newId initId:String}
end
section
variable {X:Cx}{j k:Nat}{x y:Str}{ps:List Str}{Φ:Zf}{p pos ρ pos':Pos}{e:Expr}{es:List Expr}{fs:Ze}{i:Nat}
end
theorem Rel.more {G:Gx}{O0 M0:Za}{H0 H H1:Hp}{ow:Os}{σ:L2.St}{m:Me}{l:Addr}(R:Rel G O0 M0 H0 ow σ H m)(g:aD H H1)(hl:H l=none)(ho:cj (H1 l)):Rel G (Op O0 l) M0 H0 ow σ H1 m:=by
 have nl:=R.BJ hl;have sub':∀b,Ow (Op O0 l) ow b->Ow O0 ow b\/H b=none:=λb z=>(wI z).elim .inl λe=>.inr (by rw[e];exact hl);have R':=R.mono g;refine⟨R.len,R'.keep,R'.m0,λb z=>?_,λi a e z=>?_,R.inj,R.out,λi s e=>?_⟩
 ·rcases wI z with z|z
  ·exact R'.mutk b z
  ·rw[z];exact ho
 ·rcases z with z|z
  ·exact R.no0 i a e z
  ·exact nl<|z▸.inr ⟨i,e⟩
 ·exact((R.slot i s e).bZ sub' λ_ _ b _=>mI _).mono g
def Q9 (Φ:List D->List D->Res (D×List D))(f0:Zl)(fs:Ze):Zl:=λm=>(f0 m).bind λd=>match d with
 | .lst es=>(fs m).bind λds=>(Φ es ds).bind λr=>.ok r.1
 |_=>.stuck
theorem Sg {X:Cx}{E:XK}{e:Expr}{es:List Expr}{f0:Zl}{fs:Ze}{pos p:Pos}{j k:Nat}{x:Str}{ps:List Str}{Φ:List D->List D->Res (D×List D)}(Fh:FIO X.prog X.w X.K X.mg X.base k x ps Φ)(hr:fZ j X.A)(hx:Passes (CX1 X.prog X.w) X E)(h0:FN X E e f0)(ha:FAE X E es fs)(hk:k<=j:=by decide)(hg:Gl X x:=by rfl)
  (hdb:(x==("__debug__":Str))=false:=by decide) (he:ax (e::es) X.env=(false,eval e X.env)::ax es X.env:=by rfl) (θ:(gX pos<|ax es X.env).any (·.1)=false:=by rfl):
  FE X E (.Call (.Name x p) (e::es) [] pos) (Q9 Φ f0 fs):=by
 obtain⟨f,fd,G,b,kp,m⟩:=Fh.ex;refine bI (pW G (hr.mono hk) hg m kp b .nil hx (aP h0 ha he) hdb he θ) λσ H Q hE=>xq5 hE λO0 M0 H0 ow m R q=>⟨O0,M0,H0,ow,m,R,q.bind.imp (aD.refl _) λd q a H1 g1 n ov=>?_⟩;cases d with
 |lst es0=>
  have q:Pu (gx X) E ((fs m).bind λds=>(Φ es0 ds).bind λr=>.ok r.1) H _:=q;have R1:=R.more g1 n ov.mut;refine⟨_,_,_,_,_,R1,q.bind.imp g1 λds q vs H2 g2 hv=>?_⟩;show G6 _ _ ((V.ref a::vs)++[]) _ _ _;rw[dA];refine⟨Ow (Op O0 a) ow,a,vs,es0,ds,rfl,(R1.mono g2).mutk,.inl<|.inr rfl,(ov.bZ λb z=>.inl<|wI z).mono g2,hv,?_⟩;have same:∀{H'},Kp (· = a) H2 H'->aD H H':=λg b o e=>g b o (g2 b o<|g1 b o e) λz=>by rw[z,n] at e;cases e
  cases z:Φ es0 ds with
  |stuck=>rw[z] at q;exact q.elim
  |exc c=>rw[z] at q;exact λC H' e g=>q C H' e<|same g
  |ok r=>
   obtain⟨d,es'⟩:=r;rw[z] at q;exact λv H' g _ hv'=>q v H' (same g)<|hv'.bZ λb z=>.inl<|z.elim (λy=>.inl<|.inl y) .inr
 |_=>exact q.elim
section
noncomputable def vR:List D->Option (List Str)
 |[]=>some []
 | .str x::ds=>(vR ds).map (x::·)
 |_::_=>none
theorem Gd:∀{vs:List V} {ds:List D} {zs:List Str},DVs G O H vs ds->vR ds=some zs->vs=zs.map V.str
 |_,_,_,.nil,e=>by cases e;rfl
 |_,_,_,.cons (d:=d) h hs,e=>by
  cases d with
  |str i=>
   obtain⟨ns,e1,rfl⟩:=omap (by simpa[vR] using e);cases h;rw[Gd hs e1];rfl
  |_=>cases e
def jN:D->List D->Option D
 | .str z,[.lst es]=>match vR es with
  |some zs=>if u3 z zs=true then some (.str<|qk z zs) else none
  |none=>none
 |_,_=>none
theorem qp:MtR X "str.join" (rGM (gx X) jN):=by
 intro π s σ H x vs v us Q I rx rv h;refine lV h λO d ds r m hx hy hr q=>?_;unfold jN at hr;split at hr
 ·rename_i z es;cases cW hx;obtain⟨y,rfl,hy2⟩:=oN hy;obtain⟨p,xs,rfl,hp,hd⟩:=gM hy2;have hr:(match vR es with|some zs=>if u3 z zs=true then some (D.str<|qk z zs) else none|none=>none)=some r:=hr;cases e1:vR es with
  |none=>rw[e1] at hr;cases hr
  |some zs=>
   rw[e1] at hr;obtain⟨ok,rfl⟩:=oif hr
   have:=Gd hd e1
   subst this;exact M7 X.K rfl π s σ H _ _ v us Q I rx rv ⟨z,p,zs,rfl,rfl,hp,ok,q _ _ (aD.refl _)<|.str _⟩
 ·cases hr
end
def Er (K:aw):Sp:=λvs H Q _=>∃(a:Addr) (ns:List Int),vs=[.ref a]/\SqL K H a (ns.map V.int)/\ns.length<=63/\∀H',Q (.bl true) H'
theorem zx:∀ns:List Int,DVs G O H (ns.map V.int) (ns.map D.int)
 |[]=>.nil
 |n::ns=>.cons (.int n)<|zx ns
theorem Ob {P:bb}{w:cp}{K:aw}{mg:Zs}{base:Heap}{CX:CXT}{k:Nat}{f:Addr}{fd:de}{ps:List Str}{Φ:Zf}(h:∀ns:List Int,ns.length<=63->∃fr,Φ [.lst<|ns.map D.int]=.ok (fr,.bl true))
  (F:b8 P w K mg base CX k f fd ps (spF ⟨K,mg⟩ Φ)):b8 P w K mg base CX k f fd ps (Er K):=F.imp λvs H Q E hE=>by
 refine rZ hE λa ns e hS hl q=>?_;subst e;obtain⟨fr,e⟩:=h ns hl;refine⟨λ_=>False,[.lst<|ns.map D.int],λ_ z=>z.elim,.cons (.lst (hS.elim (λz=>.inl ⟨id,z⟩) .inr)<|zx ns) .nil,?_⟩;rw[e];intro v H' _ hv _;cases hv;exact q H'
section
variable {X:Cx}{E:XK}{e a:Expr}{f fa:Zl}{fu:Me->Res Unit}{x y:Str}{np ρ pos p py:Pos}{i:Nat}
end
section
variable {X:Cx}
def vOf:D->V
 | .bl b=>.bl b
 | .int i=>.int i
 | .str x=>.str x
 |_=>.non
theorem J7 {G:Gx}{O:Za}{H:Hp}{v:V}{d:D}(f:flat d=true)(h:DW G O H v d):v=vOf d:=by
 cases d with
 |non=>exact u9 h
 |bl b=>exact yZ h
 |int i=>exact bQ h
 |str x=>exact cW h
 |_=>cases f
theorem zu {d:D}(f:flat d=true):o6 (vOf d)=true:=by cases d<;>first|rfl|cases f
theorem Fw {G:Gx}{O:Za}{H:Hp}:∀{vs:List V} {ds:List D},DVs G O H vs ds->ds.all flat=true->vs=ds.map vOf
 |_,_,.nil,_=>rfl
 |_,_,.cons (d:=d) (ds:=ds) h hs,f=>by
  have f':flat d=true/\ds.all flat=true:=by simpa using f
  rw[J7 f'.1<|.inl h,Fw hs f'.2];rfl
def inD (x:D)(ds:List D):Option Bool:=if flat x=true/\ds.all flat=true then some (inV (vOf x)<|ds.map vOf) else none
def gIn:D->D->Option Bool
 | .str i,.str j=>some<|!(cS j i 0 j.length 1).isEmpty
 |x,.lst ds=>inD x ds
 |x,.tup ds=>inD x ds
 |_,_=>none
def xN (d e:D):Option Bool:=(gIn d e).map (!·)
theorem IW (ds:List D):ds.all flat=true->(ds.map vOf).all o6=true:=by
 induction ds with
 |nil=>intro;rfl
 |cons d ds ih=>
  intro h;have h':flat d=true/\ds.all flat=true:=by simpa using h
  rw[cE,nE,zu h'.1,ih h'.2];rfl
theorem xF {O:Za}{H:Hp}{x y:V}{d:D}{b:Bool}{ds:List D}{neg:Bool}{Q:VK}(hx:DW (gx X) O H x d)(hy:(∃p xs,y=.ref p/\(SqL X.K H p xs\/SqT X.K H p xs)/\DVs (gx X) O H xs ds))(h:inD d ds=some b)(q:Q (.bl<|if neg then !b else b) H):rIn X.K neg x y H Q:=by
 obtain⟨p,xs,rfl,hp,hd⟩:=hy;obtain⟨⟨f1,f2⟩,rfl⟩:=oif h;rw[J7 f1 hx]
 have:=Fw hd f2
 subst this;exact⟨p,_,rfl,hp,zu f1,IW _ f2,q⟩
theorem Ao:OpR X (cy .In) (rGB (gx X) gIn):=by
 intro π s σ H x y v u Q I rx ry h;obtain⟨O,d,e,r,m,hx,hy,hr,q⟩:=h;unfold gIn at hr;split at hr
 ·cases hr;exact GP π s σ H x y v u Q I rx ry ⟨_,_,cW hx,cW hy,q⟩
 ·obtain⟨p,xs,rfl,hp,hd⟩:=gM hy;exact wN π s σ H x _ v u Q I rx ry<|xF (neg:=false) hx ⟨p,xs,rfl,.inl hp,hd⟩ hr q
 ·obtain⟨p,xs,rfl,hp,hd⟩:=qM hy;exact wN π s σ H x _ v u Q I rx ry<|xF (neg:=false) hx ⟨p,xs,rfl,.inr hp,hd⟩ hr q
 ·cases hr
theorem xO:OpR X (cy .NotIn) (rGB (gx X) xN):=by
 intro π s σ H x y v u Q I rx ry h;obtain⟨O,d,e,r,m,hx,hy,hr,q⟩:=h;obtain⟨c,hc,rfl⟩:=omap hr;unfold gIn at hc;split at hc
 ·cases hc;exact xQ π s σ H x y v u Q I rx ry ⟨_,_,cW hx,cW hy,q⟩
 ·obtain⟨p,xs,rfl,hp,hd⟩:=gM hy;exact pN π s σ H x _ v u Q I rx ry<|xF (neg:=true) hx ⟨p,xs,rfl,.inl hp,hd⟩ hc q
 ·obtain⟨p,xs,rfl,hp,hd⟩:=qM hy;exact pN π s σ H x _ v u Q I rx ry<|xF (neg:=true) hx ⟨p,xs,rfl,.inr hp,hd⟩ hc q
 ·cases hc
noncomputable def o8:List D->Option (List Bool)
 |[]=>some []
 | .bl b::ds=>(o8 ds).map (b::·)
 |_::_=>none
theorem zG {G:Gx}{O:Za}{H:Hp}:∀{vs:List V} {ds:List D} {bs:List Bool},DVs G O H vs ds->o8 ds=some bs->vs=bs.map V.bl
 |_,_,_,.nil,e=>by cases e;rfl
 |_,_,_,.cons (d:=d) h hs,e=>by
  cases d with
  |bl b=>
   obtain⟨bs,e1,rfl⟩:=omap (by simpa[o8] using e);cases h;rw[zG hs e1];rfl
  |_=>cases e
def vD:List D->Option D
 |[.lst ds]=>(o8 ds).map λbs=>.bl<|bs.all id
 |_=>none
end
section
theorem zY:∀{bs:List Bool} {us:List ay},Vals (bs.map V.bl) us->LSm.BoolsAre us bs
 |[],_,.nil=>.nil
 |b::bs,_,.cons r t=>by cases r;exact .cons b<|zY t
theorem jZ (hc:X.calm=true):gm X (.builtin "all") (rGC (gx X) vD):=by
 intro π s σ H xs us Q I r h;refine K6 h λO ds d m hx hr q=>?_;unfold vD at hr;split at hr
 ·rename_i ds;obtain⟨bs,e1,rfl⟩:=omap hr;obtain⟨v,rfl,hv⟩:=oN hx;obtain⟨p,xs,rfl,hp,hd⟩:=gM hv
  have:=zG hd e1
  subst this;obtain⟨u,rfl,rx⟩:=vals1 r;cases rx;obtain⟨wa,r',pl,hz⟩:=I.list hp;have ba:=zY r';have li:=pl.isList;have lt1:p<s.heap.objs.size:=by obtain⟨_,e,_⟩:=li;exact a7 e
  refine call_all_walk<|mS li ?_;refine⟨s.heap.objs.size,[s.heap.objs.size,p],[s.heap.objs.size],wa.toArray.size,_,_,λi=>(bs[i]?).getD true,rfl,Walks.list (A:=X.A.in1) (I.ok.hd hc) _ p (b0 lt1) wa.toArray,
   ⟨⟨_,bq _ rfl,rfl,rfl⟩,li.push _⟩,λi v sn Qn En pv qv=>?_,λh' tk kp=>?_⟩
  ·obtain⟨b,e,rfl⟩:=ba.get i v (by simpa using pv);simp only[e,Option.getD_some] at qv;exact fv qv
  ·have e:((eJ wa.toArray.size).all λi=>(bs[i]?).getD true)=bs.all id:=by
    rw[a8,ba.length];exact LSm.range_all bs
   rw[e];exact⟨.bl _,H,I.kept<|LSm.kept_iter kp,rfl,q _ _ (aD.refl _)<|.bl _⟩
 ·cases hr
end
section
variable {X:Cx}{tg:Expr}
end
theorem Lz:typeLookup (.type "list_reverseiterator") "__len__" = pure none:=by rfl
theorem Ou:typeLookup (.type "list_reverseiterator") "__length_hint__" = pure (some<|.builtin "list_reverseiterator.__length_hint__"):=by rfl
section
variable {pr:bb}{wo:cp}{A:dy}{s:aS}{R:Result->aS->Prop}
variable {St:Nat->aS->Prop}{P:Nat->ay->Prop}{n:Nat}{I:Addr}{fp wr:List Addr}{G:Array kB->Array kB->Prop}
theorem Nv (W:WalksS pr wo A.in1 I fp wr G n P St)(ty:∀i s,St i s->s.TypeIs (.ref I) "list_reverseiterator")(S:Addr)(res:ay)(c:Nat)(st:St 0 s)(nf:S∉fp)(mi:I∈fp)
  (oS:s.heap.get? S=some { cls:=.type "list",data:=.seq #[] c })
  (fin:∀s' ac c',Moved (S::wr) G s s'->s'.heap.get? S=some { cls:=.type "list",dict:=none,data:=.seq ac c',slots:=#[] }->ItemsOf P ac n->R (.ok<|.ret res) s') (hn:n<=aT):
  cb (cw pr wo) A.in1 (iq (.ref S) (.ref I) res)
   (λf t=>match f with|.done f=>R (.ok f) t|.again c'=>c'.quiet=true/\nN (cw pr wo) A c' R t) (λe t=>R (.error e) t) s:=by
 have ne:S≠I:=λe=>nf<|e▸mi;have sr:nv (.ref S) (.ref I)=false:=by simp[nv,ne]
 unfold iq;refine af<|pb (ty 0 _ st) ?_;rw[if_neg (by rw[sr];decide)];refine af<|W.self 0 _ _ _ st<|af<|la ?_;unfold Builtin.List.listLengthHint;refine af<|ka (ty 0 _ st) Lz ?_;show cb (cw pr wo) A.in1 (specialOf (c9 I) (ae "__length_hint__") >>= _) _ _ _;refine af<|ka (ty 0 _ st) Ou ?_;generalize hid:("list_reverseiterator.__length_hint__":String)=id0
 wp_delta
 rw[show splitId id0=some ("list_reverseiterator", "__length_hint__") from by subst hid;decide +kernel];subst hid;refine af<|wpAny_isInstance (b:=true) (ty 0 _ st) (by rw[isSubtype_type];kernel_rfl)<|bg ?_;rw[if_neg<|by decide];exact bg ⟨plainId_quiet F.plain_extend_loop _,codeAny_extend_loopS W hn _ nf _ n 0 _ _ _ rfl (eW _) st oS (ItemsOf.nil P) fin⟩
end
section
theorem HD {items:Array ay}(h:ItemsOf (λi v=>items[items.size-1-i]? = some v) ac items.size):ac=items.reverse:=by
 obtain⟨z,h⟩:=h;refine Array.ext (by simp[z]) λi h1 h2=>?_
 have:=h i ac[i]<|by simp
 rw[Array.getElem_reverse];obtain⟨_,e⟩:=fS.mp this;exact e.symm
theorem vL {items:Array ay}(hh:A.handled=none)(li:s.heap.IsList l items)(ri:s.heap.IsRevIter I l ((items.size:Int)-1))(ne:l≠I)(hn:items.size<=aT)
  (fin:∀t tk c,(∀b o,b≠I->s.heap.get? b=some o->t.get? b=some o)->t.get? s.heap.objs.size=some { cls:=.type "list",dict:=none,data:=.seq items.reverse c,slots:=#[] }->Q (.ref s.heap.objs.size) { s with heap:=t,toks:=tk }):
  cb (cw pr wo) A (call (.type "list") [.ref I]) Q E s:=by
 obtain⟨oi,ei,ci,di⟩:=id ri;obtain⟨ol,el,cl⟩:=id li;have ltI:I<s.heap.objs.size:=a7 ei;have ltl:l<s.heap.objs.size:=a7 el;have nf:s.heap.objs.size∉[I,l]:=λhm=>by
  rcases bo.mp hm with z|z
  ·exact kF ltI z
  ·exact kF ltl<|ck.mp z
 have W:=(Walks.listRev (prog:=pr) (w:=wo) (A:=A.in1.in1) hh I l ne items).toS;refine callType_codes (Q₁:=λo t=>o=.ref s.heap.objs.size/\t={ s with heap:=s.heap.push { cls:=.type "list",data:=.seq #[] } }) F.called_list (F.typeCall_list_1 _) F.entry_list_init (code_list_new _ ⟨rfl,rfl⟩) λo t ht=>?_;obtain⟨rfl,rfl⟩:=ht;have oS:(s.heap.push { cls:=.type "list",data:=.seq #[] }).get? s.heap.objs.size=some { cls:=.type "list",data:=.seq #[] }:=bq _ rfl;refine⟨⟨_,oS,rfl⟩,F.args_list_init_2 _ _,?_⟩;show cb (cw pr wo) A.in1.in1 (do let old←oD (.ref s.heap.objs.size);Builtin.List.listUpdate (.ref s.heap.objs.size) (λ_=>#[]);letGo old.toList.reverse;iq (.ref s.heap.objs.size) (.ref I) .none) _ _ _;refine af ?_;unfold oD;refine af<|wpAny_seqItems oS rfl<|bg ?_;refine af (m:=updateSeq s.heap.objs.size λ_=>#[])<|wpAny_updateSeq oS rfl ?_;have oS2:=kK (sR λ_=>(#[]:Array ay)) oS rfl;refine af<|wpAny_letGo ?_;have kp:∀b o,b≠s.heap.objs.size->s.heap.get? b=some o->((s.heap.push { cls:=.type "list",data:=.seq #[] }).update s.heap.objs.size<|sR λ_=>(#[]:Array ay)).get? b=some o:=
  λb o hb e=>(dP _ _<|kR hb).trans<|ag _ e
 have st0:(0:Nat)<=items.size/\s.heap.IsRevIter I l ((items.size:Int)-1-((0:Nat):Int))/\s.heap.IsList l items:=⟨eW _,by simpa using ri,li⟩;refine Nv W (λi t x=>x.2.1.typeIs) _ .none _ ⟨st0.1,st0.2.1.at λo e=>kp I o (b0 ltI) e,st0.2.2.at λo e=>kp l o (b0 ltl) e⟩ nf (by simp) oS2 (λt ac c mv oS3 it=>?_) hn;refine⟨rfl,?_⟩;rw[Moved.eq_with mv];rw[HD it] at oS3;exact fin _ _ c (λb o hb e=>mv.heap b o (λhm=>by
  rcases bo.mp hm with z|hm
  ·exact eL _<|z▸a7 e
  ·exact hb<|ck.mp hm) (kp b o (b0<|a7 e) e)) oS3
end
section
theorem Dw:b9 "list" = some (.type "list"):=by decide +kernel
theorem Rw:b9 "reversed" = some (.type "reversed"):=by decide +kernel
def Vh (K:aw):List V->Hp->VK->Prop:=λxs H Q=>∃p ys,xs=[.ref p]/\SqL K H p ys/\∀l,H l=none->Q (.ref l) (upd H l<|.lst ys.reverse)
theorem O1 (hc:X.calm=true)(hg:Gl X "list")(hm:X.mg "list" = none)(hg':Gl X "reversed")(hm':X.mg "reversed" = none)(ha:PA X [e] ta)
  (hs:ax [e] X.env=[(false,eval e X.env)]:=by rfl) (hs':ax [.Call (.Name "reversed" p') [e] [] pos'] X.env=[(false,eval (.Call (.Name "reversed" p') [e] [] pos') X.env)]:=by rfl):
  PE X (.Call (.Name "list" p) [.Call (.Name "reversed" p') [e] [] pos'] [] pos) (tCB (Vh X.K) ta):=by
 intro π s σ H Q I h;refine f7<|rM I hg hm Dw<|fw ?_ hs' rfl;rw[hs'];refine so<|f7<|rM I hg' hm' Rw<|fw (thn (ha pos' π s σ H _ I h) λus s1 hE=>xq2 hE λvs H1 I1 r1 q1=>?_) hs rfl;obtain⟨l,ys,rfl,hq,q⟩:=q1;obtain⟨u,rfl,rx⟩:=vals1 r1;cases rx;obtain⟨χ,rv,pl,hz⟩:=I1.list hq;have η:=rv.length;refine call_reversed_list pl.isList<|Calls.spliced_nil ?_;have el:l<s1.heap.objs.size:=by obtain⟨_,e,_⟩:=pl.isList;exact a7 e
 refine vL (s:={ s1 with heap:=s1.heap.push (revObj l<|(χ.toArray.size:Int)-1) }) (I1.ok.hd hc) (pl.isList.push _) ⟨_,bq _ rfl,rfl,rfl⟩ (b0 el) (by simp only[a8]<;>lia) λt tk c kp oS=>?_;have sz:s1.heap.objs.size<=(s1.heap.push<|revObj l<|(χ.toArray.size:Int)-1).objs.size:=by rw[kD];exact rg _
 refine⟨.ref _,_,I1.laid (t':=tk) (λb o e=>kp b o (b0<|a7 e)<|ag _ e) sz<|show dH X.prog X.w _ t _ (.lst ys.reverse) from⟨by simp;lia,χ.reverse,c,rv.reverse,by simpa using oS⟩,rfl,q _<|I1.hok.fresh sz⟩
noncomputable def Jg:List D->Option D
 |[.lst ds]=>some<|.lst ds.reverse
 |_=>none
theorem O9 (hc:X.calm=true)(hg:Gl X "list")(hm:X.mg "list" = none)(hg':Gl X "reversed")(hm':X.mg "reversed" = none)(ha:FAB X E [e] fs)
  (hs:ax [e] X.env=[(false,eval e X.env)]:=by rfl) (hs':ax [.Call (.Name "reversed" p') [e] [] pos'] X.env=[(false,eval (.Call (.Name "reversed" p') [e] [] pos') X.env)]:=by rfl):
  FN X E (.Call (.Name "list" p) [.Call (.Name "reversed" p') [e] [] pos'] [] pos) (aU Jg fs):=
 bI (O1 hc hg hm hg' hm' ha hs hs') λσ H Q h=>by
  refine Gj h λO0 M0 H0 ow m R q=>?_;refine⟨O0,M0,H0,ow,m,R,q.bind.imp (aD.refl _) λds q vs H1 g1 hv=>?_⟩;obtain⟨r,hr,k⟩:=q.ofO
  match ds,hr with
  |[.lst ds],hr=>
   cases hr;obtain⟨v,rfl,hw⟩:=oN hv;obtain⟨l,xs,rfl,hp,hd⟩:=gM hw;exact⟨l,xs,rfl,hp,λb hb=>k b _ (g1.trans<|bJ hb _) (g1.free hb) ⟨_,aH,((Dr hd).bZ λc z=>z.elim .inl λe=>.inr (by rw[e];exact hb)).mono<|bJ hb _⟩⟩
end
def signs (z:Str):List D:=z.cps.toList.map λc=>.str ⟨#[c]⟩
def Its (z:Str):It:=⟨λi _=>i<z.cps.size,λi H v H'=>H'=H/\∃c,z.cps[i]? = some c/\v=.str ⟨#[c]⟩,λi _=>i=z.cps.size⟩
theorem zX {P:bb}{w:cp}{K:aw}{tg:Expr}{ty:String}(it:Addr)(z:Str)(t:Tok)
  (wk:∀A:dy,A.handled=none->Walks P w A it [it] [it] z.cps.size (SignAt z) (λi h=>h.IsStrIter it ty z t i))
  (sf:∀(A:dy) (i:Nat) (s:aS) (Q:Zv) (E:Zv),s.heap.IsStrIter it ty z t i->Q (.ref it) s->cb (cw P w) A (pyIter<|.ref it) Q E s)
  (hn:["enumerate", "zip", "dict_itemiterator", "dict_reverseitemiterator", "odict_iterator", "itertools.zip_longest", "itertools.pairwise"].contains ty=false):Turn Calm P w K tg (Its z) [it] it (λi h=>h.IsStrIter it ty z t i) where
 mem:=by simp
 obj:=λi h st b hb=>by
  cases ck.mp hb;obtain⟨o,e,c,d⟩:=st;exact⟨o,e,λv y=>by rw[d] at y;cases y⟩
 keep:=λi h h' st k=>by
  obtain⟨o,e,r⟩:=st;exact⟨o,k it (by simp) o e,r⟩
 item:=by
  intro X hP hw hK hc i π s σ H E I hf st hg;subst hP hw hK;refine rR (hf it<|by simp) λf0 f1 f2 f3 f4 f5=>?_;refine(wk X.A<|I.ok.hd hc).item i s _ _ hg st λv h' tk hv st' kk=>?_;obtain⟨c,u,e1,rfl⟩:=hv;have I1:Inv X π σ H { s with heap:=h',toks:=tk }:=I.turned (λb o hb e=>kk b o (by simpa using hb) e) f0 f1 f3 f4 f5;obtain⟨o,e,cl,d⟩:=id st';exact⟨_,rfl,Fz (s:={ s with heap:=h',toks:=tk }) (n:=ty) e cl d hn ⟨.str ⟨#[c]⟩,H,I1,⟨u,rfl⟩,⟨rfl,c,e1,rfl⟩,st',λb hb=>(hf b hb).1⟩⟩
 done:=by
  intro X hP hw hK hc i π s σ H E I hf st hg;subst hP hw hK;cases(show i=z.cps.size from hg);refine rR (hf it<|by simp) λf0 f1 f2 f3 f4 f5=>?_;exact(wk X.A<|I.ok.hd hc).done s _ _ st λh' tk kk=>⟨rfl,I.turned (λb o hb e=>kk b o (by simpa using hb) e) f0 f1 f3 f4 f5⟩
 self:=λA i s Q E st h=>sf A i s Q E st h
section
def Wg (tl:TE):TI:=λσ H R=>tl σ H λx H1=>∃z,x=.str z/\R (Its z) H1
theorem RV (hl:PE X l tl):PI Calm X tg l (Wg tl):=by
 intro π s σ H R I h;refine thn (hl π s σ H _ I h) λv s1 hE=>xq2 hE λx H1 I1 r1 q1=>?_;obtain⟨z,rfl,q⟩:=q1;obtain⟨t,rfl⟩:=r1;refine wpAny_pyIter_strU ?_;have fp:∀b∈[s1.heap.objs.size],sV X π H1 b:=λb hb=>by
  cases ck.mp hb;exact I1.NQ (aI _)<|I1.hok.fresh<|aI _
 have st:(s1.heap.push { cls:=.type<|rl z,data:=.fields #[.str z t,.int 0 0] }).IsStrIter s1.heap.objs.size (rl z) z t 0:=⟨_,bq _ rfl,rfl,rfl⟩;refine⟨s1.heap.objs.size,[s1.heap.objs.size],(λi h=>h.IsStrIter s1.heap.objs.size (rl z) z t i),Its z,H1,rfl,I1.kept (t':=s1.toks) λb o e=>ag _ e,?_,st,fp,q⟩;unfold rl;split
 ·exact zX _ z t (λA hA=>Walks.strAscii hA _ z t) (λ_ _ _ _ _ a b=>wpAny_pyIter_striter_ascii a b)<|by decide
 ·exact zX _ z t (λA hA=>Walks.strWide hA _ z t) (λ_ _ _ _ _ a b=>wpAny_pyIter_striter_wide a b)<|by decide
theorem Tv:vV G (Its z) (signs z) P:=by
 intro O H _;refine⟨λi hi=>(show i<z.cps.size by simpa[signs] using hi),λi x H' hi y=>?_,show _=_ by simp[signs]⟩;obtain⟨rfl,c,e,rfl⟩:=y;have e':z.cps.toList[i]? = some c:=by simpa using e
 exact⟨aD.refl _,.str ⟨#[c]⟩,by simp[signs,e],.str _⟩
def Il (f:Zl):Ze:=λm=>(f m).bind λd=>match d with
 | .str z=>.ok<|signs z
 |_=>.stuck
theorem Kw (h:FE X E e f):FI X E tg e (Il f):=oh (RV h) λσ H R hE=>xq5 hE λO0 M0 H0 ow m Re q=>⟨O0,M0,H0,ow,m,Re,q.bind.imp (aD.refl _) λd q v H' g hv=>by
 cases d with
 |str z=>
  cases hv with
  |str=>exact⟨_,rfl,q _ H' g Tv⟩
 |_=>exact q.elim⟩
end
section
end
section
end
section
end
section
end
section
end
def Ha:D->Option D
 | .str z=>if z.length<=aT then some (.str z) else none
 | .int i=>if i.natAbs.log2<1920 then some (.str (toString i:String)) else none
 |_=>none
section
theorem Ks (h:FB X E e f):FE X E (.FormattedValue e (-1) none pos) (fUn Ha f):=by
 intro π s σ H Q I ⟨O0,M0,H0,ow,m,R,q⟩;refine FormattedValue_plain<|thn (h π s σ H (λx H1=>aD H H1/\∃d r,DW (gx X) (Ow O0 ow) H1 x d/\Ha d=some r/\∀v H',aD H H'->DV (gx X) (Ow O0 ow) H' v r->Q v H') I ⟨O0,M0,H0,ow,m,R,q.bind.imp (aD.refl _) λd q x H1 g1 hx=>?_⟩) λu s1 ⟨x,H1,I1,rx,g1,d,r,hx,e1,k⟩=>?_
 ·obtain⟨r,hr,k⟩:=q.ofO;exact⟨g1,d,r,hx,hr,k⟩
 ·match d,e1 with
  | .str z,e1=>
   obtain⟨hz,rfl⟩:=oif e1;cases cW hx;obtain⟨t,rfl⟩:=rx;exact formatField_str (λt' tk=>⟨.str z,H1,I1.tok _,⟨t',rfl⟩,k _ _ g1<|.str z⟩) hz
  | .int i,e1=>
   obtain⟨hz,rfl⟩:=oif e1;cases bQ hx;obtain⟨t,rfl⟩:=rx;exact formatField_int_small hz ⟨.str _,H1,I1.tok _,⟨_,rfl⟩,k _ _ g1<|.str _⟩
def FJ (X:Cx)(E:XK)(es:List Expr)(f:Str->Me->Res Str):Prop:=∀(π:Zo) (s:aS) (σ:L2.St) (H:Hp) (Q:VK) (out:Str),Inv X π σ H s->
 (∃O0 M0 H0 ow m,Rel (gx X) O0 M0 H0 ow σ H m/\Pu (gx X) E (f out m) H λz=>∀H',aD H H'->Q (.str z) H')->cb (cw X.prog X.w) X.A (joinParts out<|ui es X.env) (EP X π σ Q) X.xe s
def TF:Str->Me->Res Str:=λout _=>if out.length<=aT then .ok out else .stuck
def Am (f:Zl)(g:Str->Me->Res Str):Str->Me->Res Str:=λout m=>(f m).bind λd=>match d with
 | .str y=>if(out++y).length<=aT then g (out++y) m else .stuck
 |_=>.stuck
theorem R7:FJ X E [] TF:=by
 intro π s σ H Q out I ⟨O0,M0,H0,ow,m,R,q⟩;obtain⟨hz,k⟩:=z7 q;exact joinParts_nil ⟨.str out,H,I.tok _,⟨_,rfl⟩,k H<|aD.refl _⟩ hz
theorem xR (h:FE X E e f)(hr:FJ X E es g)(hs:ui (e::es) X.env=eval e X.env::ui es X.env:=by rfl):FJ X E (e::es) (Am f g):=by
 intro π s σ H Q out I ⟨O0,M0,H0,ow,m,R,q⟩;rw[hs];refine joinParts_cons<|thn (h π s σ H (λx H1=>∃y,x=.str y/\(out++y).length<=aT/\∃O0 M0 H0 ow m,Rel (gx X) O0 M0 H0 ow σ H1 m/\Pu (gx X) E (g (out++y) m) H1 λz=>∀H',aD H1 H'->Q (.str z) H') I ⟨O0,M0,H0,ow,m,R,q.bind.imp (aD.refl _) λd q x H1 g1 hx=>?_⟩) λu s1 ⟨x,H1,I1,rx,y,ex,hz,q1⟩=>?_
 ·cases d with
  |str y=>
   cases hx;by_cases hz:(out++y).length<=aT
   ·simp only[if_pos hz] at q;exact⟨y,rfl,hz,O0,M0,H0,ow,m,R.mono g1,q.imp g1 λz k H' g'=>k H'<|g1.trans g'⟩
   ·simp only[if_neg hz] at q;exact q.elim
  |_=>exact q.elim
 ·subst ex;obtain⟨t,rfl⟩:=rx;exact⟨hz,hr π s1 σ H1 Q (out++y) I1 q1⟩
def yo (g:Str->Me->Res Str):Zl:=λm=>(g kG m).bind λz=>.ok<|.str z
theorem Hb (h:FJ X E (v₁::v₂::es) g)(hs:ui (v₁::v₂::es) X.env=eval v₁ X.env::eval v₂ X.env::ui es X.env:=by rfl):FE X E (.JoinedStr (v₁::v₂::es) pos) (yo g):=by
 intro π s σ H Q I ⟨O0,M0,H0,ow,m,R,q⟩;refine JoinedStr_many ?_;rw[← hs];exact h π s σ H Q kG I ⟨O0,M0,H0,ow,m,R,q.bind.imp (aD.refl _) λz k H' g=>k _ H' g<|.str z⟩
end
noncomputable def Ww:List D->Option D
 |[.int i,.int j]=>some<|.int<|if j<i then j else i
 |_=>none
section
noncomputable def vP:List D->Option D
 |[.bl b]=>some<|.int<|if b then 1 else 0
 |[.str x]=>if x.length<=640 then(PySem.intText? x).map D.int else none
 |_=>none
theorem oK:gm X (.type "int") (rGC (gx X) vP):=by
 intro π s σ H xs us Q I r h;refine K6 h λO ds d m hx hr q=>?_;unfold vP at hr;split at hr
 ·rename_i b;cases hr;obtain⟨v,rfl,hv⟩:=oN hx;have e:v=.bl b:=by
   rcases hv with hv|⟨_,_,_,z⟩
   ·cases hv;rfl
   ·exact z.elim
  subst e;obtain⟨u,rfl,rx⟩:=vals1 r;cases rx;exact call_int_bool ⟨.int _,H,I.tok _,⟨_,rfl⟩,q _ _ (aD.refl _)<|.int _⟩
 ·rename_i x;obtain⟨v,rfl,hv⟩:=oN hx;cases cW hv;have hr:(if x.length<=640 then(PySem.intText? x).map D.int else none)=some d:=hr;by_cases hl:x.length<=640
  ·rw[if_pos hl] at hr;obtain⟨n,hn,rfl⟩:=omap hr;obtain⟨u,rfl,rx⟩:=vals1 r;obtain⟨t,rfl⟩:=rx;exact W.KIN.call_text hn hl ⟨.int n,H,I.tok _,⟨_,rfl⟩,q _ _ (aD.refl _)<|.int _⟩
  ·rw[if_neg hl] at hr;cases hr
 ·cases hr
end
section
def lU:D->List D->Option D
 | .str z,[.str y]=>some<|.bl<|hZ z y
 |_,_=>none
theorem Bs:MtR X "str.startswith" (rGM (gx X) lU):=by
 intro π s σ H x vs v us Q I rx rv h;refine lV h λO d ds r m hx hy hr q=>?_;unfold lU at hr;split at hr
 ·rename_i z y;cases hr;cases cW hx;obtain⟨w,rfl,hw⟩:=oN hy;cases cW hw;obtain⟨t,rfl⟩:=rx;obtain⟨u,rfl,ru⟩:=rv.one;obtain⟨t2,rfl⟩:=ru;exact SC.startswith ⟨.bl _,H,I,rfl,q _ _ (aD.refl _)<|.bl _⟩
 ·cases hr
def lu:D->List D->Option D
 | .str z,[.str y]=>if z.length<=aT/\(y.length==0)=false then some (.tup [.str (d4 z y).1,.str (d4 z y).2.1,.str (d4 z y).2.2]) else none
 |_,_=>none
theorem vC:MtR X "str.partition" (rGM (gx X) lu):=by
 intro π s σ H x vs v us Q I rx rv h;refine lV h λO d ds r m hx hy hr q=>?_;unfold lu at hr;split at hr
 ·rename_i z y;obtain ⟨⟨h1,h2⟩,rfl⟩:=oif hr;cases cW hx;obtain ⟨w,rfl,hw⟩:=oN hy;cases cW hw;obtain ⟨t,rfl⟩:=rx;obtain ⟨u,rfl,ru⟩:=rv.one;obtain ⟨t2,rfl⟩:=ru;refine sT mx (mT _ _ _) PySem.F.entry_str_partition (PySem.F.args_str_partition_2 _ _) (meets_str_partition z y t t2 h2 h1) ?_;have go:∀(a b c:Str) (ta tb tc tk:Tok),(∀v H',aD H H'->DV (gx X) O H' v (.tup [.str a,.str b,.str c])->Q v H')->
    EP X π σ Q (.ref s.heap.objs.size) { s with toks:=tk,heap:=s.heap.push { cls:=.type "tuple",data:=.seq [.str a ta,.str b tb,.str c tc].toArray } }:=by
   intro a b c ta tb tc tk q;have I2:Inv X π σ (upd H s.heap.objs.size (.tup [.str a,.str b,.str c])) { s with toks:=tk,heap:=s.heap.push { cls:=.type "tuple",data:=.seq [.str a ta,.str b tb,.str c tc].toArray } }:=
    I.laid (t':=tk) (λb o e=>ag _ e) (aI _) (show dH X.prog X.w _ _ _ (.tup [.str a,.str b,.str c]) from ⟨by show 3<=aT;decide,[.str a ta,.str b tb,.str c tc],.cons ⟨ta,rfl⟩ (.cons ⟨tb,rfl⟩ (.cons ⟨tc,rfl⟩ .nil)),yt.new _ _⟩)
   exact ⟨.ref s.heap.objs.size,_,I2,rfl,q _ _ (bJ (I.hok.fresh (aI _)) _) (.tup (SqU.of aH) (.cons (.str _) (.cons (.str _) (.cons (.str _) .nil))))⟩
  unfold d4 at q
  revert q
  cases cS z y 0 z.length 1 with
  |nil=>intro q;exact go _ _ _ _ _ _ _ q
  |cons i r=>intro q;exact go _ _ _ _ _ _ _ q
 ·cases hr
end
section
end
section
variable {X:Cx}{E:XK}
variable {a b:Expr}{fa fb:Zl}{pos:Pos}
end
section
variable {G:Gx}{O0 M0:Za}{H0:Hp}{ow:Os}{σ:L2.St}{H:Hp}{m:Me}
end
section
variable {X:Cx}{E:XK}{e ke:Expr}{f fk:Zl}{pos spos np:Pos}{x:Str}
end
section
end
section
end
section
variable {X:Cx}{E:XK}{rest:List Stmt}{k:Zg}
end
section
variable {X:Cx}{tg:Expr}
end
section
end
noncomputable def met (f:Nat->Str):Nat->List Str
 |0=>[]
 |i+1=>if(met f i).any (· == f i) then met f i else met f i++[f i]
theorem Dj (f:Nat->Str):∀i,(met f i).length<=i
 |0=>aI _
 |i+1=>by
  have:=Dj f i
  rw[met];split
  ·lia
  ·rw[be,gc];lia
theorem PB (f:Nat->Str)(i:Nat):(met f<|i+1).length=if(met f i).any (· == f i) then(met f i).length else(met f i).length+1:=by
 rw[met];split<;>simp
theorem Ot (f:Nat->Str)(i:Nat)(z:Str):(met f<|i+1).any (· == z)=((met f i).any (· == z)||decide (z=f i)):=by grind[met]
theorem zZ {h:Heap}(x:h.SetOf (me pr wo) a S n)(e:∀k,S k=S' k)(en:n=n'):h.SetOf (me pr wo) a S' n':=by
 cases(funext e:S=S');cases en;exact x
theorem uJ {h h':Heap}(x:h.SetOf (me pr wo) a S n)(k:∀o,h.get? a=some o->h'.get? a=some o):h'.SetOf (me pr wo) a S n:=by
 obtain⟨o,es,ep,t,e,r⟩:=x;exact⟨o,es,ep,t,k _ e,r⟩
section
variable {pr:bb}{wo:cp}{A:dy}{R:Result->aS->Prop}{I:Addr}{fp wr:List Addr}{G:Array kB->Array kB->Prop}{n:Nat}{P:Nat->ay->Prop}{St:Nat->aS->Prop}
theorem setLoop (W:WalksS pr wo A.in1 I fp wr G n P St)(S:Addr)(nf:S∉fp)(f:Nat->Str)(hf:∀i v,P i v->∃t,v=.str (f i) t)(hb:n+1<kl):
  ∀(k i:Nat) (s:aS),n-i=k->i<=n->St i s->s.heap.SetOf (me pr wo) S (λz=>(met f i).any (· == z)) (met f i).length->
   (∀t,Moved (S::wr) G s t->t.heap.SetOf (me pr wo) S (λz=>(met f n).any (· == z)) (met f n).length->R (.ok<|.ret .none) t)->
   nN (cw pr wo) A (.builtin "set.update.loop" ⟨[.ref S,.ref I],[]⟩) R s:=by
 have nw:S∉wr:=λz=>nf<|W.sub _ z;have up:∀b∈wr,b∈S::wr:=λb z=>.tail _ z;intro k;induction k with
 |zero=>
  intro i s ek hi st x fin;obtain rfl:i=n:=by lia
  refine pz i4 ?_;rw[qq fq _];show cb (cw pr wo) A.in1 (pyNext (.ref I) >>= _) _ _ _;refine af<|W.done s _ _ st λt mv=>?_;show cb (cw pr wo) A.in1 (ret fT) _ _ t;exact bg<|fin t (mv.mono up)<|uJ x λo e=>mv.heap S o nw e
 |succ k ih=>
  intro i s ek hi st x fin;have lt:i<n:=by lia
  refine pz i4 ?_;rw[qq fq _];show cb (cw pr wo) A.in1 (pyNext (.ref I) >>= _) _ _ _;refine af<|W.item i s _ _ lt st λv t hv st' mv=>?_;obtain⟨tk,rfl⟩:=hf i v hv;have x':=uJ (h':=t.heap) x λo e=>mv.heap S o nw e;show cb (cw pr wo) A.in1 (holding [ly (f i) tk] (setAdd S<|.str (f i) tk) >>= _) _ _ t;refine af<|la ?_;unfold setAdd;refine la<|af<|(me pr wo).pyHash (k:=f i) (tf _ _ _ _) ?_;have rm:(met f i).length+1<kl:=by have:=Dj f i;lia
  refine wpAny_setAddHashed_of (knd:=me pr wo) (s:={ t with toks:=t.toks+1 }) (tf _ _ _ _) rfl x' rm λh' sb x2=>?_;have x3:=zZ x2 (λz=>(Ot f i z).symm) (PB f i).symm;refine bg ⟨plainId_quiet fq _,ih (i+1) _ (by lia) lt (W.frame _ t _ _ st' (rg _) λb hb' o e=>?_) x3 λt2 mv2 x4=>?_⟩
  ·rw[sb.2 b λz=>nf<|z▸hb'];exact e
  ·refine fin t2 (Moved.trans W.gtrans ((mv.mono up).then_heap (rg _) λb o hb' e=>?_) mv2) x4;rw[sb.2 b λz=>hb'<|z▸.head _];exact e
end
section
abbrev kW (b:Bool):Obj:={ cls:=.type "set",dict:=none,data:=.set #[] 0 (.fresh 0 0 b) }
theorem Hk {v:Array ay}(hh:A.handled=none)(li:s.heap.IsList l v)(hf:∀(i:Nat) (u:ay),v[i]? = some u->∃t,u=ly (f i) t)(hb:v.size+1<kl)
  (fin:∀(h':Heap) (tk:Nat),h'.SetOf (me pr wo) s.heap.objs.size (λz=>(met f v.size).any (· == z)) (met f v.size).length->
   (∀b o,s.heap.get? b=some o->h'.get? b=some o)->Q (.ref s.heap.objs.size) { s with heap:=h',toks:=tk }):
  cb (cw pr wo) A (call (.type "set") [.ref l]) Q E s:=by
 obtain⟨c0,tl0,e0⟩:=eP.mro;have e1:=eP.made;have e2:=eP.sub;have e3:=eP.notType;have e4:=eP.canCreate;have e5:=PySem.F.typeCall_set_1<|.ref l;refine wpAny_call<|codeAny_of_tree ?_;show cb _ _ (callAny (.type "set") _) _ _ s;refine bg ⟨Code.quiet_builtin _ (by decide +kernel),pz PySem.F.entry_type_call ?_⟩;rw[Around.under_plain (weight_type_call_type "set" [.ref l] []) rfl]
 repeat (any_goals (first|(assumption)|(wp_step)))
 refine kH (code_set_new_1 (.ref l) (E:=E) (Q₁:=λo t=>∃b:Bool,o=.ref s.heap.objs.size/\t={ s with heap:=s.heap.push (kW b) }) λb=>⟨b,rfl,rfl⟩) λr t ht=>?_
 match r,ht with
 | .error e,ht=>exact ht
 | .ok (.ret o),ht=>
  obtain⟨b,rfl,rfl⟩:=ht;have oS:(s.heap.push<|kW b).get? s.heap.objs.size=some (kW b):=bq _ rfl;have ty:Shared.TypeIs { s with heap:=s.heap.push (kW b) } (.ref s.heap.objs.size) "set":=⟨_,oS,rfl⟩;have e6:=eP.init.lookup;have e7:=eP.init.bind<|.ref s.heap.objs.size
  repeat (any_goals (first|(assumption)|(wp_step)))
  refine kH (codeAny_call_builtin (R:=wants (λu t=>u=.none/\∃h' tk,t={ s with heap:=h',toks:=tk }/\h'.SetOf (me pr wo) s.heap.objs.size (λz=>(met f v.size).any (· == z)) (met f v.size).length/\
    ∀b o,s.heap.get? b=some o->h'.get? b=some o) E) eP.init.plain PySem.F.entry_set_init (check_set_init_1 ty ?_)) λr2 t2 ht2=>?_
  ·obtain⟨⟨c1,d1,dt1,sl1⟩,ol,hc,n1,hd⟩:=id li;simp only at hc hd;subst hc hd;have ol':=ag (kW b) ol;have li':=li.push<|kW b;have s1:=PySem.F.sub_list_set;have s2:=PySem.F.sub_list_frozenset;have s3:(sQ "list"==sQ "dict")=false:=by decide
   unfold Builtin.«set.__init__» noKeywords Builtin.Frozenset.updateFrom;generalize ei:pyIter=it0
   wp_walk
   subst ei;refine mS li'<|af<|wpAny_runValue ?_;have lt:l<s.heap.objs.size:=a7 ol;have hx:A.in1.in1.in1.handled=none:=by simp[hh]
   have sz:(s.heap.push<|kW b).objs.size=s.heap.objs.size+1:=kD _ _;refine setLoop ((Walks.list hx _ l (by rw[sz];exact b0<|Nat.lt_succ_of_lt lt) v).toS) s.heap.objs.size (by rw[sz];exact λm=>(bo.mp m).elim (λz=>b0 (i6 _) z) λm=>kF lt<|ck.mp m) f hf hb v.size 0 _ rfl (eW _)
    ⟨⟨_,bq _ rfl,rfl,rfl⟩,li'.push _⟩ (zZ ((PyProof.Rows.setObjOf_fresh (knd:=me pr wo) b).setOf (ag _ oS) (by unfold kl;lia)) (λ_=>rfl) rfl) λt mv x=>?_
   obtain⟨h',g',d',tk',os'⟩:=t;obtain rfl:g'=s.gens:=mv.gens;obtain rfl:d'=s.drawn:=mv.drawn;obtain rfl:os'=s.os:=mv.os;show cb _ _ _ _ _ _;refine bg ?_;show cb _ _ (ret fT) _ _ _;refine bg ⟨rfl,h',tk',rfl,x,λc o e=>mv.heap c o ?_<|ag _<|ag _ e⟩;have ltc:=a7 e;rw[sz];exact λm=>(bo.mp m).elim (λz=>b0 ltc z) λm=>b0 (Nat.lt_succ_of_lt ltc)<|ck.mp m
  ·match r2,ht2 with
   | .error e,ht2=>exact ht2
   | .ok (.ret u),ht2=>
    obtain⟨rfl,h',tk,rfl,x,kp⟩:=ht2
    repeat (any_goals (first|(assumption)|(wp_step)))
    exact fin _ _ x kp
end
def stp (l:List Str)(x:Str):List Str:=if l.any (· == x) then l else l++[x]
def cnt (zs:List Str):Nat:=(zs.foldl stp []).length
theorem Ai (f:Nat->Str):∀n,met f n=((eJ n).map f).foldl stp []
 |0=>rfl
 |n+1=>by rw[met,Ai f n,List.range_succ,List.map_append,List.foldl_append];rfl
theorem LQ (zs:List Str):(met (λi=>zs.getD i "") zs.length).length=cnt zs:=by
 have:(eJ zs.length).map (λi=>zs.getD i "")=zs:=by
  refine List.ext_getElem (by simp) λi h1 h2=>?_;simp[kL,h2]
 rw[Ai,this];rfl
theorem Ph (l:List Str)(x:Str):(stp l x).length<=l.length+1:=by unfold stp;split<;>simp
theorem Eb:∀(zs l:List Str),(zs.foldl stp l).length<=l.length+zs.length
 |[],_=>aI _
 |x::zs,l=>by
  have:=Eb zs<|stp l x
  have:=Ph l x
  simp only[ko,bS]
  lia
theorem uV:∀(zs l:List Str),(l++zs).Nodup->zs.foldl stp l=l++zs
 |[],l,_=>by simp
 |x::zs,l,h=>by
  have hx:l.any (· == x)=false:=by
   rw[List.any_eq_false];intro y hy
   have:=(List.nodup_append.mp h).2.2 y hy x<|.head _
   simpa using this
  rw[ko,stp,hx,if_neg av,uV zs (l++[x])<|by simpa using h]
  simp
theorem Hu (h:zs.Nodup):cnt zs=zs.length:=by rw[cnt,uV zs []<|by simpa using h];rfl
section
def JM (pr:bb)(wo:cp)(a:Addr)(n:Nat)(h:Heap):Prop:=∃S,h.SetOf (me pr wo) a S n
theorem Oo:b9 "len" = some (.builtin "len"):=by decide +kernel
theorem Jp:b9 "set" = some (.type "set"):=by decide +kernel
def Vi (X:Cx):List V->Hp->VK->Prop:=λxs H Q=>∃p zs,xs=[.ref p]/\SqL X.K H p (zs.map V.str)/\zs.length+1<kl/\∀l,H l=none->Q (.ref l) (upd H l<|.ext<|JM X.prog X.w l<|cnt zs)
theorem mV:∀{zs:List Str} {χ:List ay},Vals (zs.map V.str) χ->∀(i:Nat) (u:ay),χ[i]? = some u->∃t,u=ly (zs.getD i "") t
 |[],_,h,i,u,e=>by cases h;cases e
 |z::zs,_,h,i,u,e=>by
  cases h with
  |cons a b=>
   cases i with
   |zero=>obtain⟨t,ea⟩:=a;subst ea;cases e;exact⟨t,rfl⟩
   |succ i=>exact mV b i u e
theorem GD (hc:X.calm=true):gm X (.type "set") (Vi X):=by
 intro π s σ H xs us Q I r h;obtain⟨p,zs,rfl,hq,hb,q⟩:=h;obtain⟨u,rfl,rx⟩:=vals1 r;cases rx;obtain⟨χ,rv,pl,_⟩:=I.list hq;have hl:=rv.length;rw[dQ] at hl;refine Hk (f:=λi=>zs.getD i "") (I.ok.hd hc) pl.isList (λi u e=>mV rv i u<|by simpa using e) (by rw[a8,← hl];exact hb) λh' tk x kp=>?_;have es:χ.toArray.size=zs.length:=by rw[a8,← hl]
 rw[es,LQ] at x;have y:=x;obtain⟨o,es,ep,t,e,_⟩:=y;exact⟨.ref _,_,I.laid (t':=tk) kp (aI _)<|show dH X.prog X.w _ h' _ (.ext<|JM X.prog X.w s.heap.objs.size<|cnt zs) from⟨⟨_,x⟩,⟨o,e⟩,λh1 h2 ⟨S,z⟩ k=>⟨S,uJ z k⟩⟩,rfl,q _<|I.hok.fresh<|aI _⟩
def Vg (X:Cx):List V->Hp->VK->Prop:=λxs H Q=>∃p n,xs=[.ref p]/\H p=some (.ext<|JM X.prog X.w p n)/\n<kl/\Q (.int n) H
theorem Hq:gm X (.builtin "len") (Vg X):=by
 intro π s σ H xs us Q I r h;obtain⟨p,n,rfl,hp,hn,q⟩:=h;obtain⟨u,rfl,rx⟩:=vals1 r;cases rx;obtain⟨⟨S,o,es,ep,t,ho,hex,hd,_,_,_,hf,e⟩,_⟩:=I.hok p _ hp;subst e;refine call_len_set ho hex hd hf (by unfold kl at hn;lia) ?_;exact⟨.int _,_,I.tok _,⟨_,rfl⟩,q⟩
def txs:List D->Option (List Str)
 |[]=>some []
 | .str x::ds=>(txs ds).map (x::·)
 |_=>none
def qI:List D->Option D
 |[.lst ds]=>match txs ds with
  |some zs=>if zs.length+1<kl then some (.int<|cnt zs) else none
  |none=>none
 |_=>none
theorem DY:∀{xs:List V} {ds:List D} {zs:List Str},DVs G O H xs ds->txs ds=some zs->xs=zs.map V.str
 |_,_,zs,.nil,e=>by cases e;rfl
 |_,_,zs,.cons (d:=d) a b,e=>by
  cases d with
  |str x=>
   rw[txs] at e;cases ez:txs _ with
   |none=>rw[ez] at e;cases e
   |some ys=>
    rw[ez] at e;cases e;cases a;rw[DY b ez];rfl
  |_=>cases e
theorem Hz (hc:X.calm=true)(hg:Gl X "len")(hm:X.mg "len" = none)(hg':Gl X "set")(hm':X.mg "set" = none)(ha:FAB X E [e] fs)
  (hs:ax [e] X.env=(false,eval e X.env)::ax [] X.env:=by rfl) (hs':ax [.Call (.Name "set" p') [e] [] pos'] X.env=(false,eval (.Call (.Name "set" p') [e] [] pos') X.env)::ax [] X.env:=by rfl):
  FE X E (.Call (.Name "len" p) [.Call (.Name "set" p') [e] [] pos'] [] pos) (aU qI fs):=
 bI (iM Hq hg hm Oo (aP (oE (GD hc) hg' hm' Jp ha (by decide) (by decide) hs rfl) bG hs') (by decide) (by decide) hs' rfl) λσ H Q h=>by
  refine Gj h λO0 M0 H0 ow m R q=>?_;refine⟨O0,M0,H0,ow,m,R,q.bind.imp (aD.refl _) λds q vs H1 g1 hv=>?_⟩;obtain⟨r,hr,k⟩:=q.ofO
  match ds,hr with
  |[.lst ds],hr=>
   rw[qI] at hr;cases ez:txs ds with
   |none=>rw[ez] at hr;cases hr
   |some zs=>
    rw[ez] at hr;obtain⟨hb,rfl⟩:=oif hr;obtain⟨v,rfl,hw⟩:=oN hv;obtain⟨l,xs,rfl,hp,hd⟩:=gM hw;have ex:=DY hd ez;subst ex;have hle:cnt zs<=zs.length:=by have:=Eb zs [];simpa[cnt] using this
    exact⟨l,zs,rfl,hp,hb,λb hb'=>⟨b,cnt zs,rfl,aH,by lia,k _ _ (g1.trans<|bJ hb' _)<|.int _⟩⟩
end
section
variable {X:Cx}{E:XK}{e a b c ke:Expr}{es:List Expr}{st:Stmt}{rest sa sb:List Stmt}{f fa fb fk:Zl}{fs:Ze}{ft:Zb}{gg k ga gb:Zg}{pos pos' apos ρ np spos p:Pos}{i:Nat}{x:Str}
end
section
variable {pr:bb}{wo:cp}{A:dy}{E:Zv}{s:aS}{κ:Type}[DecidableEq κ]{kn:HeapKind pr wo κ}
end
section
end
section
end
section
variable {prog:bb}{w:cp}{A:dy}{E:Zv}{s:aS}{d it v:Addr}{es:Array DictEntry}{ep i:Nat}
end
section
variable {X:Cx}
end
section
end
section
end
section
end
section
end
section
end
section
variable {pr:bb}{wo:cp}{κ:Type}[DecidableEq κ]{kn:KeyKind pr wo κ}{A:dy}{R:Result->aS->Prop}{I:Addr}{fp wr:List Addr}{G:Array kB->Array kB->Prop}{n:Nat}{P:Nat->ay->Prop}{St:Nat->aS->Prop}
end
section
variable {pr:bb}{wo:cp}{κ:Type}[DecidableEq κ]{kn:KeyKind pr wo κ}{A:dy}{E:Zv}{s:aS}
end
section
end
section
end
section
end
section
end
section
variable {X:Cx}
end
section
end
section
end
section
variable {G:Gx}{O0 M0:Za}{H0:Hp}{ow:Os}{σ:L2.St}{H:Hp}{m:Me}
end
section
variable {P:bb}{w:cp}{K:aw}{mg:Zs}{base:Heap}
end
section
variable {X:Cx}{E:XK}{e:Expr}{es:List Expr}{fa:Zl}{fs:Ze}{i p:Nat}{y:Str}{np:Pos}
end
section
variable {G:Gx}{O0 M0:Za}{H0 H H':Hp}{ow:Os}{σ:L2.St}{m m':Me}
end
section
variable {X:Cx}{E:XK}{e b ke:Expr}{f fb fk:Zl}{pos spos:Pos}
end
section
variable {P:bb}{w:cp}{K:aw}{mg:Zs}{base:Heap}
end
section
end
section
variable {X:Cx}{E:XK}
end
section
end
end F
namespace L2
open PySem PySem.Spec PyProof.Rows
section
variable {X:Cx}{tg:Expr}
end
end L2
namespace F
open PySem PySem.Spec PyProof.Rows L2 Hd
section
variable {X:Cx}{E:XK}{tg e a b c:Expr}{f:Zl}{fs:Ze}{fa:Me->Res (D×Me)}{p pos:Pos}
def yD:Zg:=λ_=>.stuck
theorem um {st:Stmt}:FS X E st yD:=λ_ _ _ _ _ _ ⟨_,_,_,_,_,_,z⟩=>z.elim
end
section
end
end F
namespace L2
open PySem PySem.Spec PyProof.Rows
section
variable {X:Cx}{e st:Expr}{te:TE}{tst:TO}{p2 pos:Pos}
end
end L2
namespace F
open PySem PySem.Spec PyProof.Rows L2 Hd
section
variable {X:Cx}{E:XK}{e st:Expr}{f:Zl}{fk:Me->Res (Option Int)}{p2 pos:Pos}
end
end F
namespace Pk
open PySem L2 Hd F
section
def fW:Zb:=
 (aN gNe (aj 3)<|fC<|.int 0)
def fY:Zg:=
 (aR (cA 4<|aA cX (aj 2)<|aj 3)
 (aR (cA 2<|bH 3)
 (cA 3<|bH 4)))
def jB:Zg:=
 (jU fW fY)
def ie (l_3:Zg):Zg:=
 (aR (cA 2<|aU Py<|au (aj 0) aF)
 (aR (cA 3<|aU Py<|au (aj 1) aF)
 (aR l_3
 (bu<|bH 2))))
def gV:Zg:=
 (ie jB)
def cG:Zf:=bF 5 2 gV
def qK (φ_common_divisor:Zf):Zg:=
 (aR (cA 2<|fFn φ_common_divisor<|au (bH 0)<|au (bH 1) aF)
 (aR (gIf (aN gLt (aj 1)<|fC<|.int 0) (cA 2<|fUn pU<|aj 2) gNx)
 (bu<|gR<|au (aA cZ (aj 0)<|aj 2)<|au (aA cZ (aj 1)<|aj 2) aF)))
def qJ:Zg:=
 (qK cG)
def jr:Zf:=bF 3 2 qJ
end
end Pk
namespace Hd
noncomputable def gI (a b:Int):Int:=(pE a b:Nat)
theorem PL (ha:0<=a)(hb:0<b):gI b (a%b)=gI a b:=by
 unfold gI pE;have e:(a%b).natAbs=a.natAbs%b.natAbs:=by
  obtain⟨n,rfl⟩:=n9 ha;obtain⟨m,rfl⟩:=n9<|Int.le_of_lt hb;rfl
 rw[e,tF a.natAbs b.natAbs,Nat.gcd_rec b.natAbs a.natAbs,tF]
theorem Oc (ha:0<=a):gI a 0=a:=by
 unfold gI;rw[Int.gcd_zero_right]
 lia
theorem S6 (a b:Int):gI (if a<0 then -a else a) (if b<0 then -b else b)=gI a b:=by
 unfold gI pE;have h:∀x:Int,(if x<0 then -x else x).natAbs=x.natAbs:=λx=>by split<;>lia
 rw[h,h]
theorem UG (a b:Int):0<=gI a b:=Int.natCast_nonneg _
theorem ug (hb:b≠0):0<gI a b:=by
 have:0<pE a b:=Nat.pos_of_ne_zero λh=>hb (Int.gcd_eq_zero_iff.mp h).2
 unfold gI;lia
theorem sZ (a b:Int):gI a b ∣ a:=Int.gcd_dvd_left a b
theorem nJ (a b:Int):gI a b ∣ b:=Int.gcd_dvd_right a b
theorem Ug (hb:b≠0):(gI a b).natAbs<=b.natAbs:=by
 have h:(gI a b).natAbs ∣ b.natAbs:=kN.mpr<|nJ a b;exact Nat.le_of_dvd (by lia) h
def dv (t b:Int):Int:=if b<0 then -gI t b else gI t b
theorem JC (hb:b≠0):dv t b≠0:=by
 have:=ug (a:=t) hb
 unfold dv;split<;>lia
theorem Le (t b:Int):(dv t b).natAbs=(gI t b).natAbs:=by unfold dv;split<;>lia
def lt (t b:Int):Int:=t.fdiv<|dv t b
def lb (t b:Int):Int:=b.fdiv<|dv t b
theorem vh {a d q:Int}(hd:d≠0)(h:a=d*q):a.fdiv d=q:=by simp_all
theorem Oi (t b:Int):dv t b ∣ t:=by
 unfold dv;split
 ·exact Int.neg_dvd.mpr<|sZ t b
 ·exact sZ t b
theorem Ml (t b:Int):dv t b ∣ b:=by
 unfold dv;split
 ·exact Int.neg_dvd.mpr<|nJ t b
 ·exact nJ t b
theorem lt_mul (hb:b≠0):dv t b*lt t b=t:=by
 obtain⟨q,hq⟩:=Oi t b;have e:lt t b=q:=vh (JC hb) hq;rw[e];exact hq.symm
theorem Cg (hb:b≠0):dv t b*lb t b=b:=by
 obtain⟨q,hq⟩:=Ml t b;have e:lb t b=q:=vh (JC hb) hq;rw[e];exact hq.symm
theorem Q8 (hb:b≠0):1<=lb t b:=by
 have e:=Cg (t:=t) hb;have g:=ug (a:=t) hb;by_cases h:lb t b<=0
 ·exfalso;unfold dv at e;split at e
  ·have:0<=-gI t b*lb t b:=Int.mul_nonneg_of_nonpos_of_nonpos (by lia) h
   lia
  ·have:gI t b*lb t b<=0:=Int.mul_nonpos_of_nonneg_of_nonpos (by lia) h
   lia
 ·lia
theorem Qk (hb:b≠0):gI (lt t b) (lb t b)=1:=by
 have e1:=lt_mul (t:=t) hb;have e2:=Cg (t:=t) hb;have g:=ug (a:=t) hb;have q:gI t b=(dv t b).natAbs*gI (lt t b) (lb t b):=by
  have:pE (dv t b*lt t b) (dv t b*lb t b)=(dv t b).natAbs*pE (lt t b) (lb t b):=Int.gcd_mul_left ..
  rw[e1,e2] at this;unfold gI;rw[this];push_cast;rfl
 have ed:((dv t b).natAbs:Int)=gI t b:=by rw[Le];have:=UG t b;lia
 rw[ed] at q;have h:gI t b*gI (lt t b) (lb t b)=gI t b*1:=by rw[Int.mul_one];exact q.symm
 exact Int.eq_of_mul_eq_mul_left (by lia) h
theorem Ho (hb:b≠0):lt t b*b=t*lb t b:=by
 have e1:=lt_mul (t:=t) hb;have e2:=Cg (t:=t) hb
 calc lt t b*b=lt t b*(dv t b*lb t b):=by rw[e2]
  _=(dv t b*lt t b)*lb t b:=by rw[← Int.mul_assoc,tJ (lt t b)<|dv t b]
  _=t*lb t b:=by rw[e1]
theorem lY (c:pE p q=1)(h:q ∣ p*s):q ∣ s:=by
 have h2:q.natAbs ∣ p.natAbs*s.natAbs:=by rw[← Int.natAbs_mul];exact kN.mpr h
 have c2:Nat.Coprime q.natAbs p.natAbs:=by unfold Nat.Coprime;rw[tF];exact c
 exact kN.mp<|Nat.Coprime.dvd_of_dvd_mul_left c2 h2
theorem Dd (hq:1<=q)(hs:1<=s)(g1:gI p q=1)(g2:gI r s=1)(h:p*s=r*q):p=r/\q=s:=by
 have c1:pE p q=1:=by unfold gI at g1;lia
 have c2:pE r s=1:=by unfold gI at g2;lia
 have d1:q ∣ s:=by
  have:q ∣ p*s:=⟨r,by rw[h,tJ]⟩
  exact lY c1 this
 have d2:s ∣ q:=by
  have:s ∣ r*q:=⟨p,by rw[← h,tJ]⟩
  exact lY c2 this
 have e:q=s:=Int.dvd_antisymm (by lia) (by lia) d1 d2;subst e;exact⟨Int.eq_of_mul_eq_mul_right (by lia) h,rfl⟩
theorem Qf (hq:1<=q)(g:gI p q=1):lt p q=p/\lb p q=q:=by
 have hb:q≠0:=by lia
 exact Dd (Q8 hb) hq (Qk hb) g<|by rw[Ho hb]
theorem Ej (h:n<2^m)(hk:m<=k):n<2^k:=a9 h<|k9 (by decide) hk
abbrev Q2:=Int×Int
end Hd
namespace F
open PySem L2 Hd
@[simp] theorem szl:aT=16777216:=by decide
theorem oU:∀{a b:List Char},a.map h7=b.map h7->a=b
 |[],[],_=>rfl
 |[],_::_,h=>by simp at h
 |_::_,[],h=>by simp at h
 |x::a,y::b,h=>by
  have h':x.toNat=y.toNat/\a.map h7=b.map h7:=by simpa using h
  rw[Char.toNat_inj.mp h'.1,oU h'.2]
@[simp] theorem Vw {a b:String}:(ae a=ae b)↔a=b:=by
 constructor
 ·intro h;rw[kx,kx] at h;have h2:(a.toList.map h7).toArray=(b.toList.map h7).toArray:=congrArg Str.cps h;have h3:a.toList.map h7=b.toList.map h7:=by simpa using congrArg tp h2
  exact String.toList_inj.mp<|oU h3
 ·intro h;rw[h]
mutual
def okD:D->Bool
 | .non|.bl _|.int _=>true
 | .str x=>kP x
 | .tup xs=>qW xs
 | .lst xs=>qW xs
 | .exc _ _ _|.dct _ _|.dcu _ _|.dcf _ _|.adr _|.ins _ _ _=>false
def qW:List D->Bool
 |[]=>true
 |x::xs=>okD x&&qW xs
end
mutual
def j4:D->Nat
 | .non|.bl _|.int _|.str _=>0
 | .tup xs=>jG xs+1
 | .lst xs=>jG xs+1
 | .exc _ _ _|.dct _ _|.dcu _ _|.dcf _ _|.adr _|.ins _ _ _=>0
def jG:List D->Nat
 |[]=>0
 |x::xs=>max (j4 x)<|jG xs
end
mutual
theorem Eu:∀d:D,okD d=true->∃p,toPy d=some p/\p.canLay0=true/\p.depth=j4 d/\iN p p=true
 | .non,_=>⟨.none,by simp[toPy],by simp[i5],by simp[kQ,j4],by simp[iN]⟩
 | .bl b,_=>⟨.bool b,by simp[toPy],by simp[i5],by simp[kQ,j4],by simp[iN]⟩
 | .int b,_=>⟨.int b,by simp[toPy],by simp[i5],by simp[kQ,j4],by simp[iN]⟩
 | .str b,h=>⟨.str b,by simp[toPy],by simpa[i5,okD] using h,by simp[kQ,j4],by simp[iN]⟩
 | .tup xs,h=>by
  obtain⟨ps,h1,h2,h3,h4⟩:=vd xs (by simpa[okD] using h);exact⟨.tuple ps,by simp[toPy,h1],by simpa[i5] using h2,by simp[kQ,j4,h3],by simpa[iN] using h4⟩
 | .lst xs,h=>by
  obtain⟨ps,h1,h2,h3,h4⟩:=vd xs (by simpa[okD] using h);exact⟨.list ps,by simp[toPy,h1],by simpa[i5] using h2,by simp[kQ,j4,h3],by simpa[iN] using h4⟩
 | .exc _ _ _,h=>by simp[okD] at h
 | .dct _ _,h=>by simp[okD] at h
 | .dcu _ _,h=>by simp[okD] at h
 | .adr _,h=>by simp[okD] at h
 | .ins _ _ _,h=>by simp[okD] at h
 | .dcf _ _,h=>by simp[okD] at h
theorem vd:∀ds:List D,qW ds=true->∃ps,rQ ds=some ps/\ny ps=true/\pS ps=jG ds/\sF ps ps=true
 |[],_=>⟨[],by simp[rQ],by simp[ny],by simp[pS,jG],by simp[sF]⟩
 |d::ds,h=>by
  have h':okD d=true/\qW ds=true:=by simpa[qW] using h
  obtain⟨p,h1,h2,h3,h4⟩:=Eu d h'.1;obtain⟨ps,k1,k2,k3,k4⟩:=vd ds h'.2;exact⟨p::ps,by simp[rQ,h1,k1],by simp[ny,h2,k2],by simp[pS,jG,h3,k3],by simp[sF,h4,k4]⟩
end
theorem su {d:D}(h:okD d=true)(hd:j4 d<=64):qX d d=some true:=by
 obtain⟨p,h1,h2,h3,h4⟩:=Eu d h;unfold qX;rw[h1]
 have:gp p=true:=by unfold gp;rw[h2,decide_eq_true<|by omega];rfl
 simp[this,h4]
theorem Ja {d:D}(h:okD d=true)(hd:j4 d<=64):gEq d d=some true:=by
 cases d with
 |non=>rfl
 |bl b=>simp[gEq]
 |int b=>simp[gEq]
 |str b=>simp[gEq]
 |tup xs=>exact su h hd
 |lst xs=>exact su h hd
 |exc c _ _=>simp[okD] at h
 |dct _ _=>simp[okD] at h
 |dcu _ _=>simp[okD] at h
 |adr _=>simp[okD] at h
 |ins _ _ _=>simp[okD] at h
 |dcf _ _=>simp[okD] at h
@[simp] theorem Vv (i j:Int):gEq (.int i) (.int j)=some (decide<|i=j):=rfl
@[simp] theorem Vu (i j:Str):gEq (.str i) (.str j)=some (decide<|i=j):=rfl
@[simp] theorem VB (i j:Bool):gEq (.bl i) (.bl j)=some (decide<|i=j):=rfl
@[simp] theorem Vt (i j:Int):gNe (.int i) (.int j)=some (!decide (i=j)):=rfl
@[simp] theorem Vr (i j:Str):gNe (.str i) (.str j)=some (!decide (i=j)):=rfl
@[simp] theorem Wj (i j:Bool):gNe (.bl i) (.bl j)=some (!decide (i=j)):=rfl
theorem uA {h:Zh}{g:Zg}(P:Nat->Me->Prop):∀(ds:List D) (i:Nat) (m:Me),P i m->(∀j d m,ds[j]? = some d->P (i+j) m->∃m1 m2,h d m=some m1/\g m1=.ok (.nx,m2)/\P (i+j+1) m2)->
  ∃m',gH h g ds m=.ok (.nx,m')/\P (i+ds.length) m'
 |[],i,m,p,_=>⟨m,rfl,p⟩
 |d::ds,i,m,p,st=>by
  obtain⟨m1,m2,e1,e2,p2⟩:=st 0 d m rfl p;obtain⟨m',e,q⟩:=uA P ds (i+1) m2 p2 λj d m hj p=>by
   have:=st (j+1) d m (by simpa using hj) (by rw[show i+(j+1)=i+1+j by omega];exact p)
   rw[show i+(j+1)+1=i+1+j+1 by omega] at this;exact this
  refine⟨m',?_,by rw[show i+(d::ds).length=i+1+ds.length by simp;omega];exact q⟩;unfold gH;rw[e1];simp only[e2];exact e
theorem yI {h:Zh}{ft:Zb}{fe:Zl}{m0:Me}(P:D->Prop):∀ds:List D,(∀d∈ds,∃m1 y,h d m0=some m1/\ft m1=.ok true/\fe m1=.ok y/\P y)->∃ys,gK h ft fe m0 ds=.ok ys/\ys.length=ds.length/\∀y∈ys,P y
 |[],_=>⟨[],rfl,rfl,λ_ z=>nomatch z⟩
 |d::ds,H=>by
  obtain⟨m1,y,e1,e2,e3,p⟩:=H d aE;obtain⟨ys,e,l,q⟩:=yI P ds λd hd=>H d<|ah _ hd;refine⟨y::ys,?_,by simp[l],λz hz=>?_⟩
  ·unfold gK;simp only[e1,e2,e3,e]
  ·rcases bo.mp hz with w|w
   ·rw[w];exact p
   ·exact q z w
noncomputable def qD (d:Q2):D:=.tup [.int d.1,.int d.2]
theorem Nj:kP "end" = true:=by decide +kernel
theorem Jc:kP "deal" = true:=by decide +kernel
theorem Jm:kP "move" = true:=by decide +kernel
def sY (zs:List Str):List Nat:=zs.flatMap λz=>z.cps.toList
theorem GK:(ae "").cps=#[]:=by decide +kernel
theorem FP:∀(zs:List Str) (acc:Array Nat),(zs.foldl (λacc p=>acc++(ae "").cps++p.cps) acc).toList=acc.toList++sY zs
 |[],acc=>by simp[sY]
 |z::zs,acc=>by
  rw[ko,FP zs,GK];simp[sY]
theorem JP (zs:List Str):(qk (ae "") zs).cps.toList=sY zs:=by
 show((zs.drop 1).foldl (λacc p=>acc++(ae "").cps++p.cps) (zs.headD kG).cps).toList=_;rw[FP];cases zs with
 |nil=>simp[sY,kG]
 |cons z zs=>simp[sY]
theorem v5:∀(zs:List Str) (n:Nat),zs.foldl (λn z=>n+z.length+(ae "").length) n=n+(sY zs).length
 |[],n=>by simp[sY]
 |z::zs,n=>by
  rw[ko,v5 zs]
  have:(ae "").length=0:=by decide +kernel
  rw[this];simp[sY,Str.length]
  lia
theorem joinOk_of (h:(sY zs).length<=16777216):u3 (ae "") zs=true:=by
 unfold u3;rw[List.foldl_toArray,v5];simp[rp]
 lia
def One (P:Nat->Prop)(d:D):Prop:=∃c,P c/\d=.str ⟨#[c]⟩
theorem ones:∀ys:List D,(∀y∈ys,One P y)->∃cs:List Nat,vR ys=some (cs.map λc=>⟨#[c]⟩)/\cs.length=ys.length/\∀c∈cs,P c
 |[],_=>⟨[],rfl,rfl,λ_ z=>nomatch z⟩
 |y::ys,h=>by
  obtain⟨c,pc,rfl⟩:=h y aE;obtain⟨cs,e,l,q⟩:=ones ys λy hy=>h y<|ah _ hy;refine⟨c::cs,by simp[vR,e],by simp[l],λd hd=>?_⟩;rcases bo.mp hd with w|w
  ·rw[w];exact pc
  ·exact q d w
theorem wU (cs:List Nat):sY (cs.map λc=>(⟨#[c]⟩:Str))=cs:=by
 induction cs with
 |nil=>rfl
 |cons c cs ih=>simp[sY] at ih ⊢;exact ih
theorem join_ones (h:∀y∈ys,One P y)(hl:ys.length<=16777216):∃cs:List Nat,jN (.str "") [.lst ys]=some (.str ⟨cs.toArray⟩)/\cs.length=ys.length/\∀c∈cs,P c:=by
 obtain⟨cs,e,l,q⟩:=ones ys h;refine⟨cs,?_,l,q⟩;have hj:u3 (ae "") (cs.map λc=>(⟨#[c]⟩:Str))=true:=joinOk_of (by rw[wU];lia);have hc:=JP<|cs.map λc=>(⟨#[c]⟩:Str);rw[wU] at hc
 have:qk (ae "") (cs.map λc=>(⟨#[c]⟩:Str))=⟨cs.toArray⟩:=by
  rcases hz:qk (ae "") (cs.map λc=>(⟨#[c]⟩:Str)) with⟨a⟩
  rw[hz] at hc
  have:a=cs.toArray:=by rw[← hc]
  rw[this]
 simp[jN,e,hj,this]
theorem OD (hz:z.length<=16777216)(hP:∀c∈z.cps.toList,P c)(h0:0<=i)(h1:i<z.cps.toList.length):∃y,gIx (.str z) (.int i)=some y/\One P y:=by
 have hi:i.toNat<z.cps.toList.length:=by lia
 have e:atI z.cps.toList i=some (z.cps.toList[i.toNat]):=by
  unfold atI ixN;rw[if_pos h0,if_pos<|by lia];simp[cf hi]
 refine⟨.str ⟨#[z.cps.toList[i.toNat]]⟩,?_,_,hP _<|List.getElem_mem hi,rfl⟩;simp only[gIx,szl,if_pos hz,e];rfl
theorem KD {cs:List Nat}(h:∀c∈cs,c<128):kP ⟨cs.toArray⟩=true:=by
 unfold kP;simp only[List.all_toArray,i9,decide_eq_true_eq];intro c hc
 have:=h c hc
 lia
theorem cL (h1:-1000000000000000000000000000000<=i)(h2:i<=1000000000000000000000000000000):Bg i:=by
 have:i.natAbs<2^100:=by
  have e:(2:Nat)^100=1267650600228229401496703205376:=by decide
  lia
 exact Qq<|Ej this<|by decide
theorem Q3 {ns:List Int}{k:Int}(h0:0<=k)(h:k<(ns.length:Int)):∃c:Int,c∈ns/\atI (ns.map D.int) k=some (.int c):=by simp_all[if_pos,cf,atI,ixN]
theorem z9 (h:((eJ n).map λ(i:Nat)=>D.int i)[j]? = some d):j<n/\d=.int j:=by grind
theorem Ql (h:f m=.ok [.int j])(h1:-1000000000<=j)(h2:j<=1000000000):o5 f m=.ok ((eJ j.toNat).map λ(i:Nat)=>D.int i):=by
 unfold o5;rw[h];show(if -(2^62)<=j/\j<2^62 then _ else _)=_;rw[if_pos ⟨by lia,by lia⟩]
theorem NB (h:xs≠[]):∃ys x,xs=ys++[x]:=⟨xs.dropLast,xs.getLast h,(List.dropLast_concat_getLast h).symm⟩
open PySem PySem.NumText
def dg (n:Nat):List Nat:=(pT 10 n).map h7
def sg (i:Int):List Nat:=(if i<0 then[45] else[])++dg i.natAbs
def tx (l:List Nat):Str:=⟨l.toArray⟩
theorem du (l:List Nat):(tx l).cps.toList=l:=rfl
theorem bB (l:List Nat):(tx l).length=l.length:=by rfl
theorem Ag (h:x.cps.toList=l):x=tx l:=by
 cases x with
 |mk a=>subst h;unfold tx;simp
theorem lF (a b:List Nat):tx a++tx b=tx (a++b):=Ag (by show(a.toArray++b.toArray).toList=_;simp)
theorem yJ:tx a=tx b↔a=b:=⟨λh=>by have:=congrArg (λz:Str=>z.cps.toList) h;exact this,λh=>by rw[h]⟩
theorem j8:∀d:Nat,d<10->dg d=[48+d]:=by decide
theorem t7 (h:10<=n):dg n=dg (n/10)++[48+n%10]:=by
 have hm:n%10<10:=Nat.mod_lt n (by decide);have t:pT 10 (n/10)++pT 10 (n%10)=pT 10 (10*(n/10)+n%10):=Nat.toDigits_append_toDigits (by decide) (by lia) hm;rw[Nat.div_add_mod] at t;have e:=j8 _ hm;unfold dg at e ⊢;rw[← t,List.map_append,e]
theorem pD (n:Nat):AllDigits (dg n):=by
 induction n using pV with
 |_ n ih=>
  by_cases h:n<10
  ·rw[j8 n h];intro c hc;rw[ck.mp hc]
   lia
  ·rw[t7<|by lia];intro c hc;rcases eB.mp hc with w|w
   ·exact ih (n/10) (by lia) c w
   ·rw[ck.mp w]
    lia
theorem LR (n:Nat):dg n≠[]:=by
 by_cases h:n<10
 ·rw[j8 n h];exact List.cons_ne_nil _ _
 ·rw[t7<|by lia];simp
theorem Je (n:Nat):digitsVal (dg n)=n:=by
 induction n using pV with
 |_ n ih=>
  by_cases h:n<10
  ·rw[j8 n h];show 0*10+(48+n-48)=n
   lia
  ·rw[t7 (by lia),digitsVal_snoc,ih (n/10)<|by lia]
   lia
theorem rP:∀(k n:Nat),n<10^(k+1)->(dg n).length<=k+1
 |0,n,h=>by rw[j8 n<|by simpa using h];exact aI _
 |k+1,n,h=>by
  by_cases z:n<10
  ·rw[j8 n z];simp
  ·rw[t7 (by lia),be]
   have:=rP k (n/10) (by rw[Nat.pow_succ] at h;lia)
   simp
   lia
theorem Fe (n:Nat):1<=(dg n).length:=by
 have:=LR n
 cases h:dg n with
 |nil=>exact absurd h this
 |cons a b=>simp
theorem R9 (i:Int):ae (toString i)=tx (sg i):=by
 rw[kx];unfold tx sg dg;congr 2
 match i with
 | .ofNat m=>
  show(Nat.repr m).toList.map h7=_;rw[Nat.toList_repr];rfl
 | .negSucc m=>
  show("-"++Nat.repr (m+1)).toList.map h7=_;rw[String.toList_append,Nat.toList_repr];rw[if_pos<|Int.negSucc_lt_zero m];rfl
theorem KR (h:i.natAbs<10^30):intText? (tx<|sg i)=some i/\(tx<|sg i).length<=31:=by
 have hl:=rP 29 i.natAbs h;have hz:(tx<|sg i).length<=31:=by
  rw[bB];unfold sg;rw[be];split<;>simp<;>lia
 refine⟨?_,hz⟩;by_cases n:i<0
 ·have e:sg i=45::dg i.natAbs:=by unfold sg;rw[if_pos n];rfl
  rw[intText_neg (x:=tx<|sg i) (cs:=dg i.natAbs) (by rw[du,e]) (pD _) (LR _) (by lia),Je];congr 1
  lia
 ·have e:sg i=dg i.natAbs:=by unfold sg;rw[if_neg n];rfl
  rw[intText_digits (x:=tx<|sg i) (by rw[du,e];exact pD _) (by rw[du,e];exact LR _) (by lia),du,e,Je];congr 1
  lia
theorem ur:StrLaws.At x ⟨#[c]⟩ x.length i↔x.cps.toList[i]? = some c:=StrLaws.subAt_one x c i
theorem Bu (h:c∉l):cS (tx l) ⟨#[c]⟩ 0 (tx l).length 1=[]:=by
 rcases oz (tx l) ⟨#[c]⟩ 1 (aI 1) with⟨h0,_⟩|⟨i,r,h0,hi,hn⟩
 ·exact h0
 ·have:=ur.mp hi
  exact absurd (gL this) h
theorem Fo (h:c∈l):(cS (tx l) ⟨#[c]⟩ 0 (tx l).length 1).isEmpty=false:=by
 rcases oz (tx l) ⟨#[c]⟩ 1 (aI 1) with⟨h0,hn⟩|⟨i,r,h0,hi,hn⟩
 ·obtain⟨j,hj⟩:=List.getElem?_of_mem h;exact absurd (ur.mpr hj)<|hn j
 ·rw[h0];rfl
theorem Tu (h:c∉a):∃r,cS (tx (a++c::b)) ⟨#[c]⟩ 0 (tx (a++c::b)).length 1=a.length::r:=by
 rcases oz (tx (a++c::b)) ⟨#[c]⟩ 1 (aI 1) with⟨h0,hn⟩|⟨i,r,h0,hi,hn⟩
 ·exact absurd (ur.mpr<|show(a++c::b)[a.length]? = some c by simp) (hn a.length)
 ·refine⟨r,?_⟩;have e:i=a.length:=by
   by_cases z:i<a.length
   ·have:=ur.mp hi
    have w:(a++c::b)[i]? = some c:=this;rw[bE z] at w;exact absurd (gL w) h
   ·by_cases y:a.length<i
    ·exact absurd (ur.mpr<|show(a++c::b)[a.length]? = some c by simp) (hn _ y)
    ·lia
  rw[h0,e]
end F
namespace Pk
open PySem L2 Hd F
theorem gW:∀l:List α,(∀c∈l,∃m1,h (g c) m0=some m1/\ft m1=.ok true/\fe m1=.ok (f c))->gK h ft fe m0 (l.map g)=.ok (l.map f)
 |[],_=>rfl
 |d::ds,H=>by
  obtain⟨m1,e1,e2,e3⟩:=H d aE;have ih:=gW ds λd hd=>H d<|ah _ hd;rw[cE];unfold gK;simp only[e1,e2,e3,ih,cE]
theorem xZ (h1:t m=.ok true)(h2:b m=.ok (.nx,m'))(h3:wh t b n m'=some r):wh t b (n+1) m=some r:=by
 unfold wh;rw[h1,h2];exact h3
theorem Eo (h1:t m=.ok false):wh t b 1 m=some (.ok (.nx,m)):=by
 unfold wh;rw[h1]
end Pk
namespace F
open PySem L2 Hd
end F
namespace Pk
open PySem L2 Hd F
theorem Oa (x y:Sl):∀(n:Nat) (a b:Int) (z:Sl),b.toNat=n->0<=a->0<=b->∃k z',wh fW fY k [x,y,.fz<|.int a,.fz<|.int b,z] =
  some (.ok (.nx,[x,y,.fz<|.int<|gI a b,.fz<|.int 0,z'])):=by
 intro n;induction n using pV with
 |_ n ih=>
  intro a b z hn ha hb;by_cases h0:b=0
  ·subst h0;refine⟨1,z,?_⟩;rw[Oc ha];exact Eo rfl
  ·have hb':0<b:=by lia
   have hm:=h9 a hb';have hm0:=ku a h0;obtain⟨k,z',e⟩:=ih (a%b).toNat (by lia) b (a%b) (.fz<|.int<|a%b) rfl hb hm0;rw[PL ha hb'] at e;refine⟨k+1,z',xZ (m':=[x,y,.fz<|.int b,.fz<|.int<|a%b,.fz<|.int<|a%b]) ?_ ?_ e⟩
   ·simp[fW,aN,aj,fC,h0]
   ·simp[fY,aR,cA,aA,aj,bH,cX,mdI,h0,hb']
theorem fQ (a b:Int):cG [.int a,.int b]=.ok (false,.int<|gI a b):=by
 obtain⟨k,z',e⟩:=Oa (.fz<|.int a) (.fz<|.int b) _ (if a<0 then -a else a) (if b<0 then -b else b) .un rfl (by split<;>lia) (by split<;>lia);rw[S6] at e;have e2:=wj k e;simp[cG,bF,gV,ie,jB,aR,cA,aU,au,aF,aj,Py,e2,bu,Me.let,Sl.let,bH]
theorem Qo (h:i.natAbs<2^k)(hk:k<=4000:=by decide):Bq i:=Ux<|Ej h<|by lia
theorem Af (hb:b≠0)(hB:Bq b):jr [.int t,.int b]=.ok (false,.tup [.int<|lt t b,.int<|lb t b]):=by
 have hd:=JC (t:=t) hb;have hB':Bq (dv t b):=by
  have h1:=Ug (a:=t) hb;have h2:=Le t b;unfold Bq at hB ⊢
  lia
 have e1:dvI t (dv t b)=lt t b:=by
  unfold dvI lt;split
  ·rw[iP t<|by lia]
  ·rfl
 have e2:dvI b (dv t b)=lb t b:=by
  unfold dvI lb;split
  ·rw[iP b<|by lia]
  ·rfl
 by_cases h:b<0
 ·have e:dv t b=-gI t b:=if_pos h;rw[e] at e1 e2 hd hB';have hg:gI t b≠0:=by lia
  simp[hg,jr,bF,qJ,qK,aR,cA,fFn,au,aF,bH,aj,fQ,gIf,aN,fC,gLt,h,fUn,pU,bu,Me.let,Sl.let,gR,aA,cZ,hB',e1,e2]
 ·have e:dv t b=gI t b:=if_neg h;rw[e] at e1 e2 hd hB';have hg:gI t b≠0:=by lia
  simp[hg,jr,bF,qJ,qK,aR,cA,fFn,au,aF,bH,aj,fQ,gIf,aN,fC,gLt,h,gNx,bu,Me.let,Sl.let,gR,aA,cZ,hB',e1,e2,hd]
theorem ix0:atI [a,b] 0=some a:=rfl
theorem ix1:atI [a,b] 1=some b:=rfl
end Pk
namespace Lw
open PySem L2 Hd F Pk
section
end
section
variable {e:En}{A:Addr×Addr}{a r dep:Nat}{N:Nd}{m:Int×Int}{rc:Rc}
end
section
variable {e:En}{A:Addr×Addr}{a r dep:Nat}{N:Nd}{m:Int×Int}{rc:Rc}{x y:Int}
end
end Lw
namespace F
open PySem PySem.Spec PyProof.Rows L2 Hd
section
end
structure FMt (P:bb)(w:cp)(K:aw)(mg:Zs)(base:Heap)(k:Nat)(c m:Str)(ps:List Str)(sp:Sp):Prop where
 ex:∃C g fd,mg c=some (.ref C)/\Cls K C/\Meth K C m g/\b8 P w K mg base (CX1 P w) k g fd ps sp/\Binds K fd ps []
section
variable {X:Cx}{E:XK}{j k:Nat}{c m:Str}{ps:List Str}{Φ:Zf}{apos pos:Pos}{o e:Expr}{es:List Expr}{f0:Zl}{fs:Ze}{pl:Sem Bool}
end
section
variable {P:bb}{w:cp}{K:aw}{mg:Zs}{base:Heap}
end
section
end
section
variable {X:Cx}{E:XK}{e:Expr}{g:Zl}{k:Zg}{c f x kn vn:Str}{fs:List Str}{pos pos' pos2 pos3 spos np np2 kp vp:Pos}{rest:List Stmt}
end
section
variable {X:Cx}{E:XK}{e:Expr}{g:Zl}{c f x:Str}{fs:List Str}{pos pos' np:Pos}
end
section
variable {P:bb}{w:cp}{K:aw}{mg:Zs}{base:Heap}
end
section
end
structure MkT (P:bb)(w:cp)(K:aw)(mg:Zs)(base:Heap)(k:Nat)(c:Str)(ps:List Str)(sp:Sp):Prop where
 ex:∃C g fd,mg c=some (.ref C)/\Mk K C g/\b8 P w K mg base (CX1 P w) k g fd ps sp/\Binds K fd ps []
section
variable {X:Cx}{E:XK}{jj k:Nat}{c f y:Str}{ps:List Str}{Φ:List D->Res (List Str×List D×D)}{py pos ρ np:Pos}{e:Expr}{es:List Expr}{fs:Ze}{rest:List Stmt}{kk:Zg}
end
end F
namespace Hd
open PySem L2
end Hd
namespace F
open PySem L2 Hd
section
variable {X:Cx}{E:XK}{es:List Expr}{b:Expr}{fs:Ze}{fa fb:Zl}{pos:Pos}
end
open PySem PySem.Spec PyProof.Rows L2 Hd
section
end
section
end
section
end
section
end
section
variable {X:Cx}{E:XK}{jj k:Nat}{x y:Str}{ps:List Str}{Φ:Zf}{py pos ρ np:Pos}{e:Expr}{es:List Expr}{fs:Ze}{rest:List Stmt}{kk:Zg}
end
section
end
section
end
section
end
section
end
section
end
section
end
section
end
section
end
section
end
section
variable {X:Cx}{E:XK}{y:Str}{py pos lp:Pos}{es:List Expr}{fs:Ze}{rest:List Stmt}{kk:Zg}
end
section
variable {X:Cx}
end
section
variable {pr:bb}{wo:cp}{Ar:dy}{Ex:Zv}{st:aS}
end
section
variable {pr:bb}{wo:cp}{Ar:dy}{Ex:Zv}{st:aS}
end
theorem mm4 {α:Type}{P:α->Prop}{a b c d:α}(h1:P a)(h2:P b)(h3:P c)(h4:P d):∀x∈[a,b,c,d],P x:=by simp[h1,h2,h3,h4]
theorem mm5 {α:Type}{P:α->Prop}{a b c d e:α}(h0:P e)(h1:P a)(h2:P b)(h3:P c)(h4:P d):∀x∈[e,a,b,c,d],P x:=by simp[h0,h1,h2,h3,h4]
theorem Wx {α:Type}{x a b c d:α}(h:x∉[a,b,c,d]):x≠a/\x≠b/\x≠c/\x≠d:=by simpa using h
theorem Wv {α:Type}{a b c d e:α}:∀x∈[e,b,c,d],x∈[e,a,b,c,d]:=mm4 (by simp) (by simp) (by simp)<|by simp
section
variable {X:Cx}
end
end F
namespace Pk
open PySem L2 Hd F
section
def uz:Zg:=
 (bu<|gh (dD "int" (aj 0))<|Nk<|dD "bool" (aj 0))
def uv:Zg:=
 uz
def gj:Zf:=bF 1 1 uv
def pA (φ_is_whole:Zf)(φ_common_divisor:Zf):Zg:=
 (aR (gIf (dF (cB<|fTv<|dD "tuple" (aj 0))<|aN gNe (aU dj<|au (aj 0) aF)<|fC<|.int 2) (bu<|fC<|.bl false) gNx)
 (aR (gIf (dF (cB<|fTv<|fFn φ_is_whole<|au (aA gIx (aj 0)<|fC<|.int 0) aF)<|cB<|fTv<|fFn φ_is_whole<|au (aA gIx (aj 0)<|fC<|.int 1) aF) (bu<|fC<|.bl false) gNx)
 (bu<|gh (jd gGe (aA gIx (aj 0)<|fC<|.int 1)<|fC<|.int 1)<|jd gEq (fFn φ_common_divisor<|au (aA gIx (aj 0)<|fC<|.int 0)<|au (aA gIx (aj 0)<|fC<|.int 1) aF)<|fC<|.int 1)))
def pI:Zg:=
 (pA gj cG)
def gf:Zf:=bF 1 1 pI
end
end Pk
namespace Lw
open PySem L2 Hd F Pk
section
end
end Lw
namespace F
open PySem PySem.Spec PyProof.Rows L2 Hd
section
end
section
end
section
variable {A:Type}{p:List A->Prop}
theorem xb1 (h:∀a,p [a])(us:List A)(e:us.length=1):p us:=by
 cases us with
 |nil=>cases e
 |cons a t=>cases t with
  |nil=>exact h a
  |cons _ _=>cases e
theorem xb0 (h:∀a t,t.length=n->p (a::t))(us:List A)(e:us.length=n+1):p us:=by
 cases us with
 |nil=>cases e
 |cons a t=>exact h a t (Nat.succ.inj e)
theorem xb2 (h:∀a b,p [a,b]):∀us:List A,us.length=2->p us:=xb0 λa=>xb1 (p:=λt=>p (a::t))<|h a
theorem xb3 (h:∀a b c,p [a,b,c]):∀us:List A,us.length=3->p us:=xb0 λa=>xb2 (p:=λt=>p (a::t))<|h a
end
structure QD (K:aw)(x:Str)(st:Stmt):Prop where
 ex:∃f fd,Fun K x x st f fd/\fg K br x=some (some (.ref f))
structure QM (K:aw)(C:Addr)(x q:Str)(st:Stmt):Prop where
 ex:∃f fd,Fun K x q st f fd/\fR K (.ref C) x=some (some (.ref f))/\W.isFn K (.ref f)=true
section
variable {P:bb}{w:cp}{K:aw}{mg:Zs}{base h:Heap}{x q c:Str}{st:Stmt}{ps:List Str}{C f:Addr}{oc:ay}{od an:Option Addr}{osl:Array (Option ay)}{kV doc pm cdv ct:ay}{k:Nat}{sp:Sp}
theorem qd (a:fg K br x=some (some<|.ref f))(l:K.lookup f=some ⟨oc,od,.func<|oT x x (iD st) (fM st) (aC st) .none kV doc pm an cdv ct,osl⟩)(c:ub K cdv x=true)(k:kC K (.ref f)=true):QD K x st:=⟨f,_,JD l c k,a⟩
theorem qm (a:fR K (.ref C) x=some (some<|.ref f))(i:W.isFn K (.ref f)=true)(l:K.lookup f=some ⟨oc,od,.func<|oT x q (iD st) (fM st) (aC st) .none kV doc pm an cdv ct,osl⟩)(c:ub K cdv q=true)(k:kC K (.ref f)=true):QM K C x q st:=⟨f,_,JD l c k,a,i⟩
theorem QD.df (Q:QD K x st)(X:K.In h)(G:h.Ns br mg)(hb:∀(kV doc pm:ay) (an:Option Addr) (cdv ct:ay) (us:List ay),us.length=ps.length->ua (oT x x (iD st) (fM st) (aC st) .none kV doc pm an cdv ct) ⟨us,[]⟩=pure (ps.zip us)):Df K mg x st ps:=by
 obtain⟨f,fd,F,a⟩:=Q.ex;exact⟨f,fd,F,F.binds hb,mh X G a⟩
theorem QM.mt (Q:QM K C x q st)(M:mg c=some (.ref C))(L:Cls K C)(ok:∀f fd,Fun K x q st f fd->b8 P w K mg base (CX1 P w) k f fd ps sp)
  (hb:∀(kV doc pm:ay) (an:Option Addr) (cdv ct:ay) (us:List ay),us.length=ps.length->ua (oT x q (iD st) (fM st) (aC st) .none kV doc pm an cdv ct) ⟨us,[]⟩=pure (ps.zip us)):FMt P w K mg base k c x ps sp:=by
 refine uE Q.ex λf fd F a i=>?_;exact⟨C,f,fd,M,L,⟨a,i,F.kp⟩,ok f fd F,F.binds hb⟩
theorem QM.mkT (Q:QM K C "__init__" q st)(M:mg c=some (.ref C))(m:sk K C=true)(kc:kC K (.ref C)=true)(ok:∀f fd,Fun K "__init__" q st f fd->b8 P w K mg base (CX1 P w) k f fd ps sp)
  (hb:∀(kV doc pm:ay) (an:Option Addr) (cdv ct:ay) (us:List ay),us.length=ps.length->ua (oT "__init__" q (iD st) (fM st) (aC st) .none kV doc pm an cdv ct) ⟨us,[]⟩=pure (ps.zip us)):MkT P w K mg base k c ps sp:=by
 refine uE Q.ex λf fd F a i=>?_;exact⟨C,f,fd,M,⟨m,a,i,kc⟩,ok f fd F,F.binds hb⟩
end
section
variable {X:Cx}{E:XK}{e a b tg iter:Expr}{body:List Stmt}{f fa fb:Zl}{fi:Ze}{g:Zg}{h:Zh}{pos pos':Pos}{i:Nat}{x:Str}
end
section
variable {P:bb}{w:cp}{K:aw}{mg:Zs}{base:Heap}{x:Str}{st:Stmt}{N ps:List Str}{k:Nat}{g:Zg}{i j:Int}
end
section
end
section
end
end F
namespace Pk
open PySem L2 Hd F
section
def wY:Zg:=
 (bu<|gh (dD "tuple" (aj 0))<|jd gEq (aU dj<|au (aj 0) aF)<|fC<|.int 2)
def wL:Zg:=
 wY
def nW:Zf:=bF 1 1 wL
end
end Pk
namespace F
open PySem PySem.NumText Hd
def jl (s:List Nat):List (List Nat)->List Nat
 |[]=>[]
 |[a]=>a
 |a::b::r=>a++s++jl s (b::r)
theorem Ei (s:List Nat):∀l:List (List Nat),Str.join (tx s) (l.map tx)=tx (jl s l)
 |[]=>rfl
 |[a]=>rfl
 |a::b::r=>by
  have ih:=Ei s (b::r);show tx a++tx s++Str.join (tx s) ((b::r).map tx)=_;rw[ih,lF,lF];rfl
def kO (l:List (List Nat)):Nat:=(l.map rh).sum
theorem Di (s:List Nat):∀(l:List (List Nat)) (n:Nat),(l.map tx).foldl (λn z=>n+z.length+(tx s).length) n=n+kO l+l.length*s.length
 |[],n=>by simp[kO]
 |a::r,n=>by
  rw[cE,ko,Di s r,bB,bB];simp[kO,u4];omega
theorem Uk {s:List Nat}{l:List (List Nat)}(h:kO l+l.length*s.length<=16777216):u3 (tx s) (l.map tx)=true:=by
 unfold u3;rw[List.foldl_toArray,Di];simp[rp]
 have:aT=16777216:=rfl
 omega
theorem Ds:∀l:List (List Nat),vR (l.map λa=>D.str<|tx a)=some (l.map tx)
 |[]=>rfl
 |a::r=>by simp[vR,Ds r]
theorem Ef {s:List Nat}{l:List (List Nat)}(h:kO l+l.length*s.length<=16777216):jN (.str<|tx s) [.lst<|l.map λa=>D.str<|tx a]=some (.str<|tx<|jl s l):=by
 have e:qk (tx s) (l.map tx)=tx (jl s l):=(StrLaws.glued_eq_join _ _).trans<|Ei s l;simp[jN,Ds,Uk h,e]
open PySem PySem.Spec PyProof.Rows L2 Hd
section
variable {X:Cx}{tg:Expr}
end
section
variable {X:Cx}
end
section
variable {X:Cx}{E:XK}{a:Expr}{fa:Zl}{y:Str}{pos p py:Pos}
end
end F
namespace Hd
open PySem PySem.Spec PyProof.Rows L2
section
variable {X:Cx}{i j k:Nat}{x:Str}{ps:List Str}{sp:Sp}{p pos:Pos}{e:Expr}{es:List Expr}{t:TA}{f:Addr}{fd:de}
end
end Hd
namespace F
open PySem PySem.Spec PyProof.Rows L2 Hd
section
variable {X:Cx}{E:XK}{i j k l:Nat}{x y z:Str}{ps qs:List Str}{p pos ρ:Pos}{e:Expr}{es:List Expr}{fs:Ze}{Φ Ψ:Zf}{a b:Addr}
end
section
variable {prog:bb}{w:cp}{A:dy}{E:Zv}{s:aS}
end
section
variable {X:Cx}{tg:Expr}
end
section
variable {X:Cx}{E:XK}{tg e:Expr}{f:Zl}
end
section
variable {P:bb}{w:cp}{K:aw}{mg:Zs}{base:Heap}
end
section
variable {X:Cx}{CX:CXT}{j k:Nat}{f:Addr}{fd:de}{ps:List Str}{sp:Sp}{dvs:List V}{ds:List ay}{E:XK}{x:Str}{p pos:Pos}{e:Expr}{es:List Expr}{t:TA}{Φ:Zf}{fs:Ze}
end
section
variable {P:bb}{w:cp}{K:aw}{mg:Zs}{base:Heap}{N:List Str}{qual:Str}{scope:mo}{f:Addr}{cd:ay}{A:dy}{outer:List Env}{s:aS}{H:Hp}{E:XK}
end
section
variable {X:Cx}{CX:CXT}{i j k:Nat}{f:Addr}{fd:de}{ps:List Str}{sp:Sp}{dvs:List V}{ds:List ay}{E:XK}{x y:Str}{p pos pos' ρ:Pos}{e:Expr}{es:List Expr}{t:TA}{Φ:Zf}{fs:Ze}
end
section
variable {prog:bb}{w:cp}{A:dy}{E:Zv}{s:aS}
end
end F
namespace Hd
open PySem PySem.Spec PyProof.Rows L2
section
variable {prog:bb}{w:cp}{A:dy}{E:Zv}{h:Heap}{g:Array kB}{d:Drawn}{t:Nat}{os:OsState}
variable {nm q:Str}{C N fI:Addr}{bs bm bmB:List ay}{hdct:Bool}{sn:List Str}{sub:List ay}{ab:Bool}{col:Option Bool}{dd:Option Addr}{k0 k1 k2 k3 k5:Option ay}{B newId initId:String}
end
section
variable {prog:bb}{w:cp}{A:dy}{E:Zv}{s:aS}{x C:Addr}{ox:Obj}{od:Option Obj}{K:aw}{f:Str}{v:ay}{Q:Unit->aS->Prop}
end
section
variable {prog:bb}{w:cp}{A:dy}{E:Zv}{h:Heap}{g:Array kB}{d:Drawn}{t:Nat}{os:OsState}{a C dx:Addr}{o:Obj}{K:aw}{f:Str}{v:ay}{mA:Zs}
end
section
variable {P:bb}{w:cp}{H:Hp}{h:Heap}{e dx:Addr}{ob:Obj}{fs:List (Str×V)}
end
section
variable {X:Cx}{π:Zo}{σ:St}{H:Hp}{s:aS}{e dx C fI:Addr}{ob:Obj}{fs:List (Str×V)}{φ:Heap->Prop}{f:Str}{v:V}{u:ay}{A:dy}{E:Zv}{Q:Unit->aS->Prop}
end
section
variable {X:Cx}{o value:Expr}{f:Str}{pos pos':Pos}{ta tv:TE}
end
section
variable {P:bb}{w:cp}{K:aw}{mg:Zs}{base:Heap}{q a b:Str}{st:Stmt}{f C:Addr}{fd:de}{p1 p2 p3 p4 p5 p6 p7 p8:Pos}
end
section
variable {X:Cx}{k:Nat}{f C:Addr}{fd:de}{ps ns:List Str}{x:Str}{p pos ρ:Pos}{e:Expr}{es:List Expr}{t:TA}
end
section
variable {P:bb}{w:cp}{K:aw}{mg:Zs}{base:Heap}{N:List Str}{qual:Str}{scope:mo}{f:Addr}{cd:ay}{A:dy}{outer:List Env}{s:aS}{H:Hp}{E:XK}
end
end Hd
namespace F
open PySem PySem.Spec PyProof.Rows L2 Hd
section
variable {X:Cx}{E:XK}{e a:Expr}{es:List Expr}{fs:Ze}{fa:Zl}{x f:Str}{np ρ pos p:Pos}{j k:Nat}{ns:List Str}
end
end F
namespace Hd
open PySem PySem.Spec PyProof.Rows L2
section
variable {M:Model}{A:dy}{E:Zv}{s:aS}{B:Heap}{env:Env}{l:List Env}{L e:Addr}{o:Obj}{us vs:Array ay}{Q:Unit->aS->Prop}{fl:ay}
end
section
variable {X:Cx}{E:XK}{N' caps:List Str}{scope sc:mo}{cl:List (Str×Addr)}{C:Addr}{sE:aS}{HE:Hp}{fp:List Addr}{π:Zo}
end
section
variable {X:Cx}{Cm:Cx->Prop}{E:XK}{tg iter elt:Expr}{ifs:List Expr}{sc scope:mo}{caps N':List Str}{cap:List Nat}{k:Nat}{wi:TI}{g:TG}{tt:TT}{te:TE}{pos:Pos}
end
end Hd
namespace F
open PySem PySem.Spec PyProof.Rows L2 Hd
section
variable {X:Cx}{E:XK}{k:Nat}{cap:List Nat}{fi:Ze}{h:Zh}{ft:Zb}{fe:Zl}
section
variable {tg iter elt:Expr}{ifs:List Expr}{scope:mo}{pos:Pos}
end
end
section
variable {prog:bb}{w:cp}{A:dy}{E:Zv}{s:aS}
end
section
variable {X:Cx}{k:Nat}{es:List Expr}{hs:List D->Me->Option Me}{pos:Pos}
end
section
variable {X:Cx}{tg:Expr}
end
section
variable {G:Gx}{O:Za}{H H':Hp}{a:Addr}{ι:List (Key×V)}
end
section
variable {X:Cx}{π:Zo}{s:aS}{σ:L2.St}{H:Hp}{a:Addr}{ι:List (Key×V)}{o:Obj}
end
section
variable {G:Gx}{E:XK}{O0 M0:Za}{H0 H:Hp}{ow:Os}{a:Addr}{o:Obj}{ι:List (Key×V)}{W:Ends}
end
section
variable {X:Cx}{π:Zo}{s:aS}{σ:L2.St}{H:Hp}{a:Addr}{o:Obj}{u:HO}{vals:List V}
end
section
variable {X:Cx}{tg:Expr}
end
section
variable {X:Cx}{tg:Expr}
end
section
variable {prog:bb}{w:cp}{A:dy}{E:Zv}{s:aS}
end
section
variable {X:Cx}
end
section
variable {X:Cx}
end
section
variable {X:Cx}{E:XK}{o e:Expr}{es:List Expr}{fa:Zl}{fs:Ze}{apos ρ:Pos}
end
section
variable {X:Cx}
end
section
variable {X:Cx}{E:XK}{b e:Expr}{fb f:Zl}{pos apos ρ:Pos}
end
open PySem.AutoSeq1 (wpAny_loadPart')
open PySem.MeetsSeq PySem.MeetsSeq2 PySem.MeetsSeq3
section
variable {P:bb}{w:cp}{Ar:dy}{st:aS}
end
section
variable {X:Cx}
end
open PySem.AutoSeq1 (wpAny_loadPart')
section
variable {P:bb}{w:cp}{Ar:dy}{st:aS}
end
section
variable {X:Cx}{π:Zo}{s:aS}{σ:L2.St}{H:Hp}{O:Za}
end
open PySem.AutoSeq1 (wpAny_loadPart')
section
variable {prog:bb}{w:cp}{A:dy}{E:Zv}{s:aS}
theorem oM {t sl:Addr}{items:Array ay}{vl vu:ay}{lo hi:Option Int}{Q:Zv}(ht:IsTup s.heap t items)(hs:s.heap.IsSliceOf sl vl vu .none)(pl:qE vl lo)(pu:qE vu hi)
  (hw:HT.sIx items.size 0 lo=0/\HT.sIx items.size items.size hi=items.size) (h:Q (.ref t) s):cb (cw prog w) A (qV (.ref t)<|.ref sl) Q E s:=by
 obtain⟨os,hos,hcs,hds⟩:=id hs;have hTs:s.TypeIs (.ref sl) "slice":=⟨os,hos,hcs⟩;unfold qV
 try with_reducible refine la ?_
 first|refine af (bg ?_)|skip
 refine af<|wpAny_sequenceKey ht.typeIs (by decide) ?_;refine af (wpAny_callSpecial?_slot (name:=ae "__getitem__") ht.typeIs dc
  (oe dc ht.typeIs entry_tuple_getitem ?_<|args_tuple_getitem _ _))
 show cb _ _ (iO (.ref t) >>= _) _ _ s;refine af<|tupleItemsOf_ ht ?_;refine af<|pb hTs ?_;rw[if_pos<|by decide];refine af<|HT.j5 hs pl pu ?_;have hyes:((((HT.sIx items.size 0 lo:Nat):Int)==0&&(1:Int)==1&&(HT.sIx items.size items.size hi-HT.sIx items.size 0 lo)==items.size)=true):=by
  rw[hw.1,hw.2];simp
 show cb _ _ (if(((HT.sIx items.size 0 lo:Nat):Int)==0&&(1:Int)==1&&(HT.sIx items.size items.size hi-HT.sIx items.size 0 lo)==items.size)=true then _ else _) _ _ s;rw[if_pos hyes];unfold Builtin.Tuple.tupleIsExact;refine af<|af<|pb ht.typeIs<|bg ?_;rw[if_pos<|by decide];exact af<|wpAny_rule<|bg ⟨_,rfl,bg h⟩
end
theorem GR {α:Type}{xs:List α}{lo hi:Option Int}(h:HT.sIx xs.length 0 lo=0/\HT.sIx xs.length xs.length hi=xs.length):cut xs lo hi=xs:=by
 unfold cut;rw[h.1,h.2]
 simp
section
variable {X:Cx}{E:XK}{e:Expr}{f:Zl}{pos p:Pos}
def SM:D->Option Int->Option Int->Option D
 | .tup ds,lo,hi=>some<|.tup<|cut ds lo hi
 |_,_,_=>none
def UL (G:Gx):V->Option Int->Option Int->Hp->VK->Prop:=λx lo hi H Q=>∃O d r,(∀b,O b->cj (H b))/\DW G O H x d/\SM d lo hi=some r/\∀v H',aD H H'->DV G O H' v r->Q v H'
theorem U5:SlR X (UL<|gx X):=by
 intro π s σ H x v vl vu lo hi sl Q I rx hs pl pu h;obtain⟨O,d,r,m,hx,hr,q⟩:=h
 match d,hr with
 | .tup ds,hr=>
  cases hr;obtain⟨p,xs,rfl,hp,hd⟩:=tZ hx;have lz:=bR hd;by_cases z:HT.sIx xs.length 0 lo=0/\HT.sIx xs.length xs.length hi=xs.length
  ·obtain⟨χ,rv,ht,_⟩:=I.tuple hp.sq;have η:χ.toArray.size=xs.length:=by rw[a8];exact rv.length.symm
   cases rx;refine⟨"tuple",_,dc.lookup,ht.typeIs,?_⟩;refine oM ht hs pl pu (by rw[η];exact z) ⟨.ref p,H,I,rfl,q _ _ (aD.refl _) ?_⟩;rw[GR (by rw[← lz];exact z)];exact .tup hp hd
  ·exact Mr π s σ H _ v vl vu lo hi sl Q I rx hs pl pu ⟨p,xs,rfl,hp.sq,z,λp hp'=>q _ _ (bJ hp' _)<|.tup (SqU.of aH)<|(xP hd).mono<|bJ hp' _⟩
def NK (f:Zl)(lo hi:Me->Res (Option Int)):Zl:=λm=>(f m).bind λd=>(lo m).bind λl=>(hi m).bind λu=>ofO<|SM d l u
variable {lo hi:Option Expr}{fl fh:Me->Res (Option Int)}{p2:Pos}
theorem G4 (he:FB X E e f)(hl:FO X E lo fl)(hu:FO X E hi fh):FE X E (.Subscript e (.Slice lo hi none p2) pos) (NK f fl fh):=
 bI (u6 U5 he hl hu) λσ H Q hE=>xq5 hE λO0 M0 H0 ow m R q=>⟨O0,M0,H0,ow,m,R,q.bind.imp (aD.refl _) λd q v H1 g1 hv=>⟨O0,M0,H0,ow,m,R.mono g1,q.bind.imp g1 λl q H2 g2=>⟨O0,M0,H0,ow,m,R.mono<|g1.trans g2,q.bind.imp (g1.trans g2) λu q H3 g3=>by
  obtain⟨r,hr,k⟩:=q.ofO;exact⟨_,d,r,(R.mono<|(g1.trans g2).trans g3).mutk,hv.mono<|g2.trans g3,hr,λv H' g d=>k v H' (((g1.trans g2).trans g3).trans g) d⟩⟩⟩⟩
end
end F
namespace K09
open PySem L2 Hd F
abbrev stops:List Nat:=[32,40,41,44]
def sdS (s:Int):List Nat:=if s=1 then[49] else[50]
abbrev dlT:List Nat:=[100,101,97,108,32]
abbrev mvT:List Nat:=[109,111,118,101,32]
noncomputable def hT:Option Int->List Nat->List Nat
 |none,n=>dlT++n
 |some s,n=>mvT++(sdS s++32::n)
def hD:Option Int->List Nat->D
 |none,n=>.tup [.str "deal",.str<|tx n]
 |some s,n=>.tup [.str "move",.int s,.str<|tx n]
def Led (Φ:Zf)(hd:Str)(c:List Nat)(d:D):Prop:=if hd = "deal" then ∃fr,Φ [.str<|tx c]=.ok (fr,d) else d=.str (tx c)
abbrev enT:List Nat:=[101,110,100,32]
def hN:Option Int->Str
 |none=>"deal"
 |some _=>"move"
mutual
inductive Gt where
 |fin (c:List Nat) (d:D)
 |nd (ho:Option Int) (n:List Nat) (ws:Wt)
inductive Wt where
 |one (c:List Nat) (d:D) (g:Gt)
 |more (c:List Nat) (d:D) (g:Gt) (r:Wt)
end
mutual
def tG:Gt->List Nat
 | .fin c _=>enT++c
 | .nd ho n ws=>hT ho n++40::(tW ws++[41])
def tW:Wt->List Nat
 | .one c _ g=>c++32::tG g
 | .more c _ g r=>c++32::(tG g++44::32::tW r)
end
def hP:Option Int->List Nat->List D
 |none,n=>[.str<|tx n]
 |some s,n=>[.int s,.str<|tx n]
theorem Vo (ho:Option Int)(n:List Nat):hD ho n=.tup (.str (hN ho)::hP ho n):=by cases ho<;>rfl
def clD (ho:Option Int)(n:List Nat)(ws:List D):D:=.tup (.str (hN ho)::hP ho n++[.tup ws])
mutual
def dGt:Gt->D
 | .fin _ d=>.tup [.str "end",d]
 | .nd ho n ws=>clD ho n<|dWt ws
def dWt:Wt->List D
 | .one _ d g=>[.tup [d,dGt g]]
 | .more _ d g r=>.tup [d,dGt g]::dWt r
end
section
variable (Φ Ψ:Zf)
mutual
def okG:Gt->Prop
 | .fin c d=>(∀x∈c,x∉stops)/\∃fr,Φ [.str<|tx c]=.ok (fr,d)
 | .nd ho n ws=>(∀s,ho=some s->s=1\/s=2)/\(∀x∈n,x∉stops)/\okW ho ws/\∃fr,Ψ [clD ho n<|dWt ws]=.ok (fr,.bl true)
def okW (ho:Option Int):Wt->Prop
 | .one c d g=>(∀x∈c,x∉stops)/\Led Φ (hN ho) c d/\okG g
 | .more c d g r=>(∀x∈c,x∉stops)/\Led Φ (hN ho) c d/\okG g/\okW ho r
end
end
def Rdb (Φ Ψ:Zf)(ds:List D)(g:Gt):Prop:=ds=[.str<|tx<|tG g]/\okG Φ Ψ g/\(tx<|tG g).length<=100000
open Classical in
def zN (Φ Ψ:Zf):Zf:=λds=>if h:∃g,Rdb Φ Ψ ds g then .ok (false,dGt h.choose) else .stuck
open PySem L2 Hd F Pk Lw
section
def jc:Zg:=
 (aR (cA 1<|aU uH<|au (aA gIx (aj 0)<|fC<|.int 0) aF)
 (aR (gIf (aN gEq (aA gIx (aj 0)<|fC<|.int 1)<|fC<|.int 1) (bu<|bH 1) gNx)
 (aR (cA 2<|aU uH<|au (aA gIx (aj 0)<|fC<|.int 1) aF)
 (bu<|yo<|Am (fUn Ha<|aj 1)<|Am (fC<|.str "/")<|Am (fUn Ha<|aj 2) TF))))
def jh:Zg:=
 jc
def bU:Zf:=bF 3 1 jh
def iU:Zl:=
 (jd gIn (aj 0)<|fC<|.str "0123456789")
def mj:Zl:=
 (dU 1 [] (Il<|bH 0) (hName 0) jD iU)
def dY (l_2:Zl):Zg:=
 (bu<|gh (jx gLe gLe (fC<|.int 1) (aU dj<|au (aj 0) aF)<|fC<|.int 30)<|aU vD<|au l_2 aF)
def oV:Zg:=
 (dY mj)
def dX:Zf:=bF 1 1 oV
def dI (φ_lowest:Zf)(φ_show_ratio:Zf)(φ_are_figures:Zf):Zg:=
 (aR (gIf (cB<|fTv<|dD "str" (aj 0)) yD gNx)
 (aR (cA 1<|jw "str" lu (aj 0) (au (fC<|.str "/") aF))
 (aR (cA 2<|aA gIx (aj 1)<|fC<|.int 0)
 (aR (cA 3<|fIf (aN gEq (aA gIx (aj 1)<|fC<|.int 1)<|fC<|.str "/") (aA gIx (aj 1)<|fC<|.int 2)<|fC<|.str "1")
 (aR (cA 4<|fIf (fTv<|jw "str" lU (aj 2) (au (fC<|.str "-") aF)) (fSl (aj 2) (fO1<|fC<|.int 1) fO0)<|bH 2)
 (aR (gIf (dF (cB<|fTv<|fFn φ_are_figures<|au (bH 4) aF)<|dF (cB<|fTv<|fFn φ_are_figures<|au (bH 3) aF)<|aN gEq (aU vP<|au (aj 3) aF)<|fC<|.int 0) yD gNx)
 (aR (cA 5<|fFn φ_lowest<|au (aU vP<|au (aj 2) aF)<|au (aU vP<|au (aj 3) aF) aF)
 (aR (gIf (aN gNe (fFn φ_show_ratio<|au (bH 5) aF)<|aj 0) yD gNx)
 (bu<|bH 5)))))))))
def qG:Zg:=
 (dI jr bU dX)
def fK:Zf:=bF 6 1 qG
def nG:Zl:=
 (jd gIn (aj 0)<|fC<|.str "abcdefghijklmnopqrstuvwxyz0123456789")
def mF:Zl:=
 (dU 1 [] (Il<|bH 0) (hName 0) jD nG)
def jo (l_2:Zl):Zg:=
 (aR (gIf (cB<|fTv<|dD "str" (aj 0)) (bu<|fC<|.bl false) gNx)
 (bu<|gh (jx gLe gLe (fC<|.int 1) (aU dj<|au (aj 0) aF)<|fC<|.int 8)<|aU vD<|au l_2 aF))
def wO:Zg:=
 (jo mF)
def gk:Zf:=bF 1 1 wO
def jQ:Zl:=
 (fFn nW<|au (bH 0) aF)
def jX:Zl:=
 (dU 1 [] (mq<|bH 0) (hName 0) jD jQ)
def mJ (l_2:Zl):Zg:=
 (bu<|gh (dD "tuple" (aj 0))<|gh (jx gLe gLe (fC<|.int 1) (aU dj<|au (aj 0) aF)<|aj 1)<|aU vD<|au l_2 aF)
def my:Zg:=
 (mJ jX)
def eY:Zf:=bF 2 2 my
def zU (φ_is_ratio:Zf):Zg:=
 (bu<|gh (jd gEq (aU dj<|au (aj 0) aF)<|fC<|.int 2)<|fFn φ_is_ratio<|au (aA gIx (aj 0)<|fC<|.int 1) aF)
def Ae:Zg:=
 (zU gf)
def vm:Zf:=bF 1 1 Ae
def mW:Zl:=
 (fFn gf<|au (bH 0) aF)
def nC:Zl:=
 (dU 2 [] (mq<|aA gIx (aj 0)<|fC<|.int 2) (qN 2<|dR (hName 0)<|dR (hName 1) qL) jD mW)
def rJ (φ_is_name:Zf)(φ_are_pairs:Zf)(l_2:Zl):Zg:=
 (aR (gIf (dF (aN gNe (aU dj<|au (aj 0) aF)<|fC<|.int 3)<|dF (cB<|fTv<|fFn φ_is_name<|au (aA gIx (aj 0)<|fC<|.int 1) aF)<|cB<|fTv<|fFn φ_are_pairs<|au (aA gIx (aj 0)<|fC<|.int 2)<|au (fC<|.int 64) aF) (bu<|fC<|.bl false) gNx)
 (bu<|aU vD<|au l_2 aF))
def rB:Zg:=
 (rJ gk eY nC)
def j6:Zf:=bF 1 1 rB
def mH:Zl:=
 (dU 2 [] (mq<|aA gIx (aj 0)<|fC<|.int 3) (qN 2<|dR (hName 0)<|dR (hName 1) qL) jD<|bH 0)
def ni:Zl:=
 (fFn gk<|au (bH 0) aF)
def mZ:Zl:=
 (dU 1 [] (zP<|aj 1) (hName 0) jD ni)
def rH (φ_is_whole:Zf)(φ_is_name:Zf)(φ_are_pairs:Zf)(l_1:Zl)(l_3:Zl):Zg:=
 (aR (gIf (dF (aN gNe (aU dj<|au (aj 0) aF)<|fC<|.int 4)<|dF (cB<|fTv<|fFn φ_is_whole<|au (aA gIx (aj 0)<|fC<|.int 1) aF)<|aN xN (aA gIx (aj 0)<|fC<|.int 1)<|gR<|au (fC<|.int 1)<|au (fC<|.int 2) aF) (bu<|fC<|.bl false) gNx)
 (aR (gIf (dF (cB<|fTv<|fFn φ_is_name<|au (aA gIx (aj 0)<|fC<|.int 2) aF)<|cB<|fTv<|fFn φ_are_pairs<|au (aA gIx (aj 0)<|fC<|.int 3)<|au (fC<|.int 6) aF) (bu<|fC<|.bl false) gNx)
 (aR (cA 1 l_1)
 (bu<|gh (aU vD<|au l_3 aF)<|jd gEq (aU qI<|au (aj 1) aF)<|aU dj<|au (aj 1) aF))))
def rA:Zg:=
 (rH gj gk eY mH mZ)
def j7:Zf:=bF 2 1 rA
def jH (φ_is_end:Zf)(φ_is_deal:Zf)(φ_is_move:Zf):Zg:=
 (aR (gIf (dF (cB<|fTv<|dD "tuple" (aj 0))<|dF (aN gEq (aU dj<|au (aj 0) aF)<|fC<|.int 0)<|cB<|fTv<|dD "str" (aA gIx (aj 0)<|fC<|.int 0)) (bu<|fC<|.bl false) gNx)
 (aR (gIf (aN gEq (aA gIx (aj 0)<|fC<|.int 0)<|fC<|.str "end") (bu<|fFn φ_is_end<|au (bH 0) aF) gNx)
 (aR (gIf (aN gEq (aA gIx (aj 0)<|fC<|.int 0)<|fC<|.str "deal") (bu<|fFn φ_is_deal<|au (bH 0) aF) gNx)
 (bu<|gh (jd gEq (aA gIx (aj 0)<|fC<|.int 0)<|fC<|.str "move")<|fFn φ_is_move<|au (bH 0) aF))))
def jK:Zg:=
 (jH vm j6 j7)
def dq:Zf:=bF 1 1 jK
def n8:Zg:=
 (aR (gIf (aN gEq (aA gIx (aj 0)<|fC<|.int 0)<|fC<|.str "deal") (bu<|aA bL (aA bL (fC<|.str "deal ")<|aA gIx (aj 0)<|fC<|.int 1)<|fC<|.str "(") gNx)
 (bu<|aA bL (aA bL (aA bL (aA bL (fC<|.str "move ")<|aU uH<|au (aA gIx (aj 0)<|fC<|.int 1) aF)<|fC<|.str " ")<|aA gIx (aj 0)<|fC<|.int 2)<|fC<|.str "("))
def oG:Zg:=
 n8
def fG:Zf:=bF 1 1 oG
def nU (φ_show_ratio:Zf):Zg:=
 (bu<|fIf (aN gEq (aA gIx (aj 0)<|fC<|.int 0)<|fC<|.str "deal") (fFn φ_show_ratio<|au (bH 1) aF)<|bH 1)
def nQ:Zg:=
 (nU bU)
def ik:Zf:=bF 2 2 nQ
def iz:Zg:=
 (aR (eE 1<|aA bL (aA bL (aj 2)<|fFn ik<|au (bH 0)<|au (bH 3) aF)<|fC<|.str " ")
 (aR (eE 1<|bH 4)
 (cA 2<|fC<|.str ", ")))
def iB:Zg:=
 (rK (mq<|aA gIx (aj 0)<|fUn pU<|fC<|.int 1) (qN 2<|dR (hName 3)<|dR (hName 4) qL) iz)
def gw (φ_show_ratio:Zf)(φ_head_of:Zf)(l_2:Zg):Zg:=
 (aR (gIf (aN gEq (aA gIx (aj 0)<|fC<|.int 0)<|fC<|.str "end") (Ls<|pK<|au (aA bL (fC<|.str "end ")<|fFn φ_show_ratio<|au (aA gIx (aj 0)<|fC<|.int 1) aF) aF) gNx)
 (aR (sJ 1<|pK aF)
 (aR (cA 2<|fFn φ_head_of<|au (bH 0) aF)
 (aR l_2
 (aR (eE 1<|fC<|.str ")")
 (qi 1))))))
def mQ:Zg:=
 (gw bU fG iB)
def iJ:Zf:=bF 5 1 mQ
def jn:Zb:=
 (aN gGt (aU dj<|au (aj 2) aF)<|fC<|.int 0)
def kI:Zg:=
 (aR (gQ 3 2)
 (gIf (fTv<|dD "str" (aj 3)) (eE 1<|bH 3)<|yR 2<|aU Jg<|au (fFn iJ<|au (bH 3) aF) aF))
def Hr:Zg:=
 (jU jn kI)
def uc (l_3:Zg):Zg:=
 (aR (sJ 1<|pK aF)
 (aR (sJ 2<|pK<|au (bH 0) aF)
 (aR l_3
 (bu<|jw "str" jN (fC<|.str "") (au (aj 1) aF)))))
def Fp:Zg:=
 (uc Hr)
def tM:Zf:=bF 4 1 Fp
def yO:Zf:=zN fK dq
def dB:Zg:=
 (eE 1<|aA cX (aA lR (aA bL (aA bL (aA bL (aA cX (aA gIx (aj 0)<|aj 2)<|fC<|.int 1000000007)<|aA lR (aA lR (fC<|.int 43)<|aj 2)<|aj 2)<|aA lR (fC<|.int 17)<|aj 2)<|fC<|.int 4)<|fC<|.int 40014)<|fC<|.int 1000003)
def gZ:Zg:=
 (rK (o5<|au (aU dj<|au (fSl (aj 0) fO0<|fO1<|fC<|.int 24) aF) aF) (hName 2) dB)
def gG (l_2:Zg):Zg:=
 (aR (sJ 1<|pK aF)
 (aR l_2
 (qi 1)))
def mX:Zg:=
 (gG gZ)
def gJ:Zf:=bF 3 1 mX
def jR:Zl:=
 (aA gIx (aj 1)<|aA cX (aA bL (aA cZ (aj 2)<|aA bL (aj 0)<|fC<|.int 1)<|aA lR (aA lR (aj 0)<|aj 0)<|fC<|.int 5)<|fC<|.int 36)
def o7:Zl:=
 (dU 1 [1,0] (o5<|au (aA bL (fC<|.int 1)<|aA cX (aj 0)<|fC<|.int 8) aF) (hName 0) jD jR)
def jF (l_2:Zl):Zg:=
 (aR (cA 1<|fC<|.str "abcdefghijklmnopqrstuvwxyz0123456789")
 (aR (gIf (aN gEq (aA cX (aj 0)<|fC<|.int 11)<|fC<|.int 5) (bu<|aA gIx (pK<|au (fC<|.str "end")<|au (fC<|.str "deal")<|au (fC<|.str "move")<|au (fC<|.str "1")<|au (fC<|.str "2") aF)<|aA cX (aA cZ (aj 0)<|fC<|.int 11)<|fC<|.int 5) gNx)
 (bu<|jw "str" jN (fC<|.str "") (au l_2 aF))))
def jE:Zg:=
 (jF o7)
def dG:Zf:=bF 2 1 jE
def fB:Zg:=
 (aR (gIf (aN gEq (aA cX (aj 0)<|fC<|.int 5)<|fC<|.int 4) (bu<|gR<|au (aA qO (aA qO (fC<|.int 0)<|aA Tw (fC<|.int 10)<|fC<|.int 12)<|aj 0)<|au (fC<|.int 1) aF) gNx)
 (aR (gIf (aN gEq (aA cX (aj 0)<|fC<|.int 5)<|fC<|.int 3) (bu<|gR<|au (aA qO (aA lR (fC<|.int 6)<|aA cX (aA cZ (aj 0)<|fC<|.int 5)<|fC<|.int 30)<|fC<|.int 89)<|au (fC<|.int 3) aF) gNx)
 (aR (gIf (aN gEq (aA cX (aj 0)<|fC<|.int 5)<|fC<|.int 2) (bu<|gR<|au (aA qO (aA lR (fC<|.int 2)<|aA cX (aA cZ (aj 0)<|fC<|.int 5)<|fC<|.int 9)<|fC<|.int 7)<|au (fC<|.int 2) aF) gNx)
 (bu<|gR<|au (aA qO (aA cX (aA cZ (aj 0)<|fC<|.int 5)<|fC<|.int 9)<|fC<|.int 4)<|au (fC<|.int 1) aF))))
def fO:Zg:=
 fB
def cQ:Zf:=bF 1 1 fO
def dC:Zg:=
 (aR (cA 4<|fFn dG<|au (aA bL (aA cZ (aj 0)<|aA bL (aj 3)<|fC<|.int 1)<|aA lR (fC<|.int 11)<|aj 3) aF)
 (aR (gIf (aN gIn (aj 4)<|aj 2) (cA 4<|aA bL (fC<|.str "w")<|aU uH<|au (aj 3) aF) gNx)
 (gIf (aN xN (aj 4)<|aj 2) (eE 2<|bH 4) gNx)))
def mz:Zg:=
 (rK (o5<|au (aj 1) aF) (hName 3) dC)
def je (l_2:Zg):Zg:=
 (aR (sJ 2<|pK aF)
 (aR l_2
 (qi 2)))
def qx:Zg:=
 (je mz)
def ji:Zf:=bF 5 2 qx
def eV (Φ:List D->List D->Res (D×List D)):Zl:=
 (gR<|au (gR<|au (fC<|.int 1)<|au (fC<|.int 64) aF)<|au (gR<|au (fC<|.str "end")<|au (gR<|au (aA cX (aj 0)<|fC<|.int 9)<|au (fC<|.int 1) aF) aF) aF)
def gO (Φ:List D->List D->Res (D×List D)):Zl:=
 (dU 1 [] (o5<|au (fC<|.int 64) aF) (hName 0) jD<|eV Φ)
def jq (Φ:List D->List D->Res (D×List D)):Zl:=
 (fFn cQ<|au (aA cZ (aj 1)<|aA bL (aj 0)<|fC<|.int 2) aF)
def jz (Φ:List D->List D->Res (D×List D)):Zl:=
 (dU 1 [2] (o5<|au (aA bL (fC<|.int 1)<|aA cX (aA cZ (aj 2)<|fC<|.int 6)<|fC<|.int 3) aF) (hName 0) jD<|jq Φ)
def eQ (Φ:List D->List D->Res (D×List D)):Me->Res (D×Me):=
 (w5<|iw (fX<|bH 0)<|iw (Qh Φ 1<|au (aA qO (aj 2)<|fC<|.int 1) aF) qC)
def mK (Φ:List D->List D->Res (D×List D)):Me->Res (D×Me):=
 (qZ 1 [0,1] (zP<|bH 3) (hName 0)<|eQ Φ)
def nF (Φ:List D->List D->Res (D×List D)):Me->Res (D×Me):=
 (w5<|iw (fX<|bH 0)<|iw (Qh Φ 1<|au (aA qO (aj 2)<|fC<|.int 1) aF) qC)
def mL (Φ:List D->List D->Res (D×List D)):Me->Res (D×Me):=
 (qZ 1 [0,1] (zP<|bH 4) (hName 0)<|nF Φ)
def cP (φ__law_name:Zf)(φ__law_ratio:Zf)(φ__law_words:Zf)(l_2:Zl)(l_4:Zl)(l_6:Me->Res (D×Me))(l_8:Me->Res (D×Me)):Zg:=
 (aR (cA 2<|fC<|.int 0)
 (aR (gIf (aN gGt (aU dj<|au (aj 0) aF)<|fC<|.int 0) (gQ 2 0) gNx)
 (aR (gIf (dF (aN gEq (aj 1)<|fC<|.int 0)<|dF (aN gEq (aU dj<|au (aj 0) aF)<|fC<|.int 0)<|aN gEq (aA cX (aj 2)<|fC<|.int 6)<|fC<|.int 0) (bu<|gR<|au (fC<|.str "end")<|au (fFn φ__law_ratio<|au (aA cZ (aj 2)<|fC<|.int 6) aF) aF) gNx)
 (aR (gIf (aN gLt (aA cX (aj 2)<|fC<|.int 6)<|fC<|.int 3) (aR (gIf (nO (aN gEq (aj 1)<|fC<|.int 5)<|aN gEq (aA cX (aA cZ (aj 2)<|fC<|.int 6)<|fC<|.int 5)<|fC<|.int 3) (bu<|gR<|au (fC<|.str "deal")<|au (fFn φ__law_name<|au (bH 2) aF)<|au (aU pH<|au l_2 aF) aF) gNx)
 (aR (cA 3 l_4)
 (K4<|w5<|iw (fX<|fC<|.str "deal")<|iw (fX<|fFn φ__law_name<|au (aA cZ (aj 2)<|fC<|.int 2) aF)<|iw (uX pH<|iw l_6 qC) qC))) gNx)
 (aR (cA 4<|fFn φ__law_words<|au (aA cZ (aj 2)<|fC<|.int 7)<|au (aA bL (aA bL (fC<|.int 1)<|aA cX (aA cZ (aj 2)<|fC<|.int 6)<|fC<|.int 3)<|aA lR (fC<|.int 3)<|aU vP<|au (gh (jd gEq (aA cX (aA cZ (aj 2)<|fC<|.int 18)<|fC<|.int 5)<|fC<|.int 1)<|jd gGt (aj 1)<|fC<|.int 4) aF) aF)
 (aR (Jl 5<|uX pH<|iw l_8 qC)
 (bu<|gR<|au (fC<|.str "move")<|au (aA bL (fC<|.int 1)<|aA cX (aA cZ (aj 2)<|fC<|.int 3)<|fC<|.int 2)<|au (fFn φ__law_name<|au (aA cZ (aj 2)<|fC<|.int 5) aF)<|au (bH 5) aF)))))))
def bh:Nat->List D->List D->Res (D×List D)
 |0=>λ_ _=>.stuck
 |n+1=>lX 6 2
   (cP dG cQ ji (gO<|bh n) (jz<|bh n) (mK<|bh n)<|mL<|bh n)
def eF:Zg:=
 (aR (gIf (aN gEq (aA gIx (aj 0)<|fC<|.int 1)<|fC<|.int 1) (bu<|aU uH<|au (aA gIx (aj 0)<|fC<|.int 0) aF) gNx)
 (bu<|aA bL (aA bL (aU uH<|au (aA gIx (aj 0)<|fC<|.int 0) aF)<|fC<|.str "/")<|aU uH<|au (aA gIx (aj 0)<|fC<|.int 1) aF))
def eN:Zg:=
 eF
def bO:Zf:=bF 1 1 eN
def jW (Φ:Zf):Zl:=
 (aA bL (aA bL (fFn bO<|au (bH 0) aF)<|fC<|.str " ")<|fFn Φ<|au (bH 1) aF)
def iH (Φ:Zf):Zl:=
 (dU 2 [] (mq<|aA gIx (aj 0)<|fC<|.int 2) (qN 2<|dR (hName 0)<|dR (hName 1) qL) jD<|jW Φ)
def jY (Φ:Zf):Zl:=
 (aA bL (aA bL (aj 0)<|fC<|.str " ")<|fFn Φ<|au (bH 1) aF)
def iy (Φ:Zf):Zl:=
 (dU 2 [] (mq<|aA gIx (aj 0)<|fC<|.int 3) (qN 2<|dR (hName 0)<|dR (hName 1) qL) jD<|jY Φ)
def dm (φ__law_ratio_text:Zf)(l_2:Zl)(l_4:Zl):Zg:=
 (aR (gIf (aN gEq (aA gIx (aj 0)<|fC<|.int 0)<|fC<|.str "end") (bu<|aA bL (fC<|.str "end ")<|fFn φ__law_ratio_text<|au (aA gIx (aj 0)<|fC<|.int 1) aF) gNx)
 (aR (gIf (aN gEq (aA gIx (aj 0)<|fC<|.int 0)<|fC<|.str "deal") (aR (cA 1 l_2)
 (bu<|aA bL (aA bL (aA bL (aA bL (fC<|.str "deal ")<|aA gIx (aj 0)<|fC<|.int 1)<|fC<|.str "(")<|jw "str" jN (fC<|.str ", ") (au (aj 1) aF))<|fC<|.str ")")) gNx)
 (aR (cA 1 l_4)
 (bu<|aA bL (aA bL (aA bL (aA bL (aA bL (aA bL (fC<|.str "move ")<|aU uH<|au (aA gIx (aj 0)<|fC<|.int 1) aF)<|fC<|.str " ")<|aA gIx (aj 0)<|fC<|.int 2)<|fC<|.str "(")<|jw "str" jN (fC<|.str ", ") (au (aj 1) aF))<|fC<|.str ")"))))
def bN:Nat->Zf
 |0=>λ_=>.stuck
 |n+1=>bF 2 1
   (dm bO (iH<|bN n)<|iy<|bN n)
def gP (Φ:Zf):Zg:=
 (gIf (dF (cB<|fTv<|dD "tuple" (aj 1))<|dF (aN gNe (aU dj<|au (aj 1) aF)<|fC<|.int 2)<|cB<|fTv<|fFn Φ<|au (aA gIx (aj 1)<|fC<|.int 1) aF) (bu<|fC<|.bl false) gNx)
def ju (Φ:Zf):Zg:=
 (rK (mq<|aA gIx (aj 0)<|fUn pU<|fC<|.int 1) (hName 1)<|gP Φ)
def gC (l_2:Zg):Zg:=
 (aR (gIf (dF (cB<|fTv<|dD "tuple" (aj 0))<|dF (cB<|fTv<|dD "str" (aA gIx (aj 0)<|fC<|.int 0))<|aN gLt (aU dj<|au (aj 0) aF)<|fC<|.int 2) (bu<|fC<|.bl false) gNx)
 (aR (gIf (aN gEq (aA gIx (aj 0)<|fC<|.int 0)<|fC<|.str "end") (bu<|gh (dD "tuple" (aA gIx (aj 0)<|fC<|.int 1))<|gh (Nk<|dD "bool" (aA gIx (aA gIx (aj 0)<|fC<|.int 1)<|fC<|.int 0))<|Nk<|dD "bool" (aA gIx (aA gIx (aj 0)<|fC<|.int 1)<|fC<|.int 1)) gNx)
 (aR (gIf (dF (cB<|fTv<|dD "tuple" (aA gIx (aj 0)<|fUn pU<|fC<|.int 1))<|nO (aN gEq (aA gIx (aj 0)<|fC<|.int 0)<|fC<|.str "move")<|fTv<|dD "bool" (aA gIx (aj 0)<|fC<|.int 1)) (bu<|fC<|.bl false) gNx)
 (aR l_2
 (bu<|fC<|.bl true)))))
def cR:Nat->Zf
 |0=>λ_=>.stuck
 |n+1=>bF 2 1
   (gC<|ju<|cR n)
def jL (φ_shown:Zf)(φ_read:Zf)(φ__law_text:Zf)(φ__law_kinds:Zf):Zg:=
 (aR (cA 1<|fFn φ__law_text<|au (bH 0) aF)
 (aR (cA 2<|fFn φ_shown<|au (bH 0) aF)
 (aR (gIf (dF (cB<|fTv<|dD "str" (aj 2))<|dF (aN gNe (aj 2)<|aj 1)<|aN gNe (fFn φ_shown<|au (bH 0) aF)<|aj 1) (bu<|fC<|.bl false) gNx)
 (aR (cA 3<|fFn φ_read<|au (bH 1) aF)
 (bu<|gh (fFn φ__law_kinds<|au (bH 3) aF)<|gh (jd gEq (aj 3)<|aj 0)<|jd gEq (fFn φ_shown<|au (bH 3) aF)<|aj 1)))))
def sy:Zg:=
 (jL tM yO (bN 30)<|cR 30)
def eX:Zf:=bF 4 1 sy
def tU:Zg:=
 (gIf (cB<|fTv<|fFn eX<|au (bH 3) aF) (bu<|fC<|.bl false) gNx)
def tV:Zg:=
 (rK (mq<|NK (aA gIx (aj 1)<|fUn pU<|fC<|.int 1) fO0<|fO1<|fC<|.int 8) (qN 2<|dR (hName 2)<|dR (hName 3) qL) tU)
def Gq (φ__law_numbers:Zf)(φ__law_grown:List D->List D->Res (D×List D))(φ__law_told:Zf)(l_2:Zg):Zg:=
 (aR (cA 1<|Q9 φ__law_grown (Q0 φ__law_numbers<|au (bH 0) aF)<|au (fC<|.int 5) aF)
 (aR (gIf (cB<|fTv<|fFn φ__law_told<|au (bH 1) aF) (bu<|fC<|.bl false) gNx)
 (aR (gIf (aN gNe (aA gIx (aj 1)<|fC<|.int 0)<|fC<|.str "end") l_2 gNx)
 (bu<|fC<|.bl true))))
def QG:Zg:=
 (Gq gJ (bh 30) eX tV)
def Qw:Zf:=bF 4 1 QG
end
open PySem PySem.NumText L2 Hd F Pk
open L2 (atI ixN Key)
theorem iZ:ae "/" = ⟨#[47]⟩:=by decide +kernel
theorem M6:ae "-" = ⟨#[45]⟩:=by decide +kernel
theorem R6:ae "" = tx []:=by decide +kernel
theorem MK:kG=tx []:=by decide +kernel
theorem R3:ae "0123456789" = tx [48,49,50,51,52,53,54,55,56,57]:=by decide +kernel
theorem Qu:ae "1" = tx [49]:=by decide +kernel
theorem N6 {l:List Nat}{c:Nat}(h:c∉l):d4 (tx l) ⟨#[c]⟩=(tx l,tx [],tx []):=by
 unfold d4;rw[Bu h];rfl
theorem N8 {a b:List Nat}{c:Nat}(h:c∉a):d4 (tx (a++c::b)) ⟨#[c]⟩=(tx a,⟨#[c]⟩,tx b):=by
 unfold d4;obtain⟨r,e⟩:=Tu (b:=b) h;rw[e];have e1:mN (tx (a++c::b)) 0 a.length=tx a:=Ag (by rw[p0,du];simp);have e2:mN (tx (a++c::b)) (a.length+1) (tx (a++c::b)).length=tx b:=Ag (by
  rw[p0,du,bB]
  have:(a++c::b).drop (a.length+1)=b:=by rw[← List.drop_drop,mP];rfl
  rw[this];exact oI (by simp;omega))
 show(_,_,mN (tx (a++c::b)) (a.length+1) _)=_;rw[e1,e2]
theorem Bm {l:List Nat}{c:Nat}:hZ (tx l) ⟨#[c]⟩=decide (l.head? = some c):=by
 unfold hZ;rw[oB,du,bB];cases l with
 |nil=>rfl
 |cons a r=>
  show(decide (0+1<=(a::r).length)&&([a]==[c]))=decide (some a=some c);by_cases h:a=c
  ·subst h;simp
  ·simp[h]
theorem GF {a:Nat}{l:List Nat}:kM (tx (a::l)) (some 1) none=tx l:=by
 have:=StrLaws.sliceText_from (x:=tx (a::l)) (i:=1) ⟨by decide,by rw[du];simp;omega⟩
 refine(show kM (tx (a::l)) (some 1) none=_ from this).trans ?_;refine Ag ?_;rw[du];show(l.take _)=l;exact oI<|by simp
def sh (t b:Int):List Nat:=sg t++if b=1 then[] else 47::dg b.natAbs
theorem oJ {i:Int}(h:i.natAbs<10^30):uH [.int i]=some (.str<|tx<|sg i):=by
 have:i.natAbs.log2<1920:=by
  by_cases z:i.natAbs=0
  ·rw[z];decide
  ·have e:(10:Nat)^30<=2^100:=by decide
   exact(Nat.log2_lt z).mpr (a9 (a9 h e)<|k9 (by decide)<|by decide)
 show(if i.natAbs.log2<1920 then some (D.str<|ae<|toString i) else none)=_;rw[if_pos this,R9]
theorem pF {i:Int}(h:i.natAbs<10^30):(sg i).length<=31:=by
 have:=(KR h).2
 rwa [bB] at this
theorem xM {i:Int}(h:0<=i):sg i=dg i.natAbs:=by unfold sg;rw[if_neg<|by omega];rfl
theorem xJ {t b:Int}(ht:t.natAbs<10^30)(hb:b.natAbs<10^30)(h1:1<=b):bU [qD (t,b)]=.ok (false,.str<|tx<|sh t b):=by
 have e1:=oJ ht;have e2:=oJ hb;by_cases z:b=1
 ·have e:sh t b=sg t:=by unfold sh;rw[if_pos z];simp
  rw[e];simp[bU,bF,jh,jc,aR,cA,aU,au,aF,aA,aj,fC,gIx,qD,ix0,ix1,e1,gIf,aN,z,bu,Me.let,Sl.let,bH]
 ·have e:tx (sg t)++(⟨#[47]⟩:Str)++tx (sg b)=tx (sh t b):=by
   rw[show(⟨#[47]⟩:Str)=tx [47] from rfl,lF,lF];unfold sh;rw[if_neg z,xM (i:=b)<|by omega]
   simp
  have l1:=pF ht;have l2:=pF hb;have f1:Ha (.str<|tx<|sg t)=some (.str<|tx<|sg t):=if_pos (by rw[bB,szl];omega);have f2:Ha (.str<|tx<|sg b)=some (.str<|tx<|sg b):=if_pos (by rw[bB,szl];omega);have l4:(tx<|sg t).length<=16777216:=by rw[bB];omega
  have l5:(tx (sg t)++ae "/").length<=16777216:=by rw[iZ,show(⟨#[47]⟩:Str)=tx [47] from rfl,lF,bB];simp;omega
  have e3:kG++tx (sg t)=tx (sg t):=by rw[MK,lF];rfl
  have e4:tx (sg t)++(ae "/")++tx (sg b)=tx (sh t b):=by rw[iZ];exact e
  have l3:(tx<|sh t b).length<=16777216:=by rw[← e4,iZ,show(⟨#[47]⟩:Str)=tx [47] from rfl,lF,lF,bB];simp;omega
  simp[bU,bF,jh,jc,aR,cA,aU,au,aF,aA,aj,fC,gIx,qD,ix0,ix1,e1,e2,gIf,aN,z,gNx,bu,Me.let,Sl.let,yo,Am,TF,fUn,f1,f2,e3,e4,l3,l4,l5]
def inB (ks:List Nat)(c:Nat):Bool:=decide<|c∈ks
theorem UT {ks:List Nat}{S:Str}(hS:S=tx ks)(c:Nat):gIn (.str ⟨#[c]⟩) (.str S)=some (inB ks c):=by
 subst hS;show some (!(cS _ _ 0 _ 1).isEmpty)=_;unfold inB;by_cases h:c∈ks
 ·rw[Fo h,decide_eq_true h];rfl
 ·rw[Bu h,decide_eq_false h];rfl
theorem wX (p:Nat->Bool):∀l:List Nat,o8 (l.map λc=>D.bl<|p c)=some (l.map p)
 |[]=>rfl
 |c::l=>by simp[o8,wX p l]
abbrev fks:List Nat:=[48,49,50,51,52,53,54,55,56,57]
abbrev nks:List Nat:=(List.range' 97 26)++List.range' 48 10
def okB (ks:List Nat)(n:Nat)(l:List Nat):Bool:=decide (1<=l.length)&&decide (l.length<=n)&&l.all (inB ks)
theorem Ir {ks l:List Nat}:vD [.lst<|l.map λc=>D.bl<|inB ks c]=some (.bl<|l.all<|inB ks):=by
 show(o8 _).map _=_;rw[wX]
 simp
theorem Lr {Q:Zl}{l:List Nat}(hl:l.length<=1000)(hq:Q [.fz<|.str<|tx l]=.ok (.lst<|l.map λc=>D.bl<|inB fks c)):bF 1 1 (dY Q) [.str<|tx l]=.ok (false,.bl<|okB fks 30 l):=by
 have hz2:(tx l).length<=16777216:=by rw[bB];omega
 have e3:=Ir (ks:=fks) (l:=l);unfold okB;generalize l.all (inB fks)=A at *;by_cases g1:1<=l.length
 ·have g1':(1:Int)<=((tx l).length:Int):=by rw[bB];omega
  by_cases g2:l.length<=30
  ·have g2':((tx l).length:Int)<=30:=by rw[bB];omega
   simp[bF,dY,bu,Me.let,Sl.let,gh,fTv,jx,fC,aU,au,aF,aj,dj,hz2,gLe,g1',g2',hq,e3,g1,g2]
  ·have g2':¬((tx l).length:Int)<=30:=by rw[bB];omega
   simp[bF,dY,bu,Me.let,Sl.let,gh,fTv,jx,fC,aU,au,aF,aj,dj,hz2,gLe,g1',g2',hq,e3,g1,g2]
 ·have g1':¬(1:Int)<=((tx l).length:Int):=by rw[bB];omega
  simp[bF,dY,bu,Me.let,Sl.let,gh,fTv,jx,fC,aU,au,aF,aj,dj,hz2,gLe,g1',hq,e3,g1]
theorem J4 {l:List Nat}(hl:l.length<=1000):dX [.str<|tx l]=.ok (false,.bl<|okB fks 30 l):=by
 refine Lr hl ?_;have e:gK (hName 0) jD iU [.un] (l.map λc=>D.str ⟨#[c]⟩)=.ok (l.map λc=>D.bl<|inB fks c):=gW l λc hc=>by
  refine⟨_,rfl,rfl,?_⟩;have hi:=UT R3 c;simp[iU,jd,aj,fC,hi]
 have hs:signs (tx l)=l.map λc=>D.str ⟨#[c]⟩:=rfl;have hz:l.length<=16777216:=by omega
 have hz2:(tx l).length<=16777216:=by rw[bB];omega
 simp[mj,dU,Il,bH,cMe,hz2,hz,hs,e]
theorem yz {l:List Nat}(h:AllDigits l)(h1:1<=l.length)(h2:l.length<=30):dX [.str<|tx l]=.ok (false,.bl true):=by
 rw[J4<|by omega]
 have:l.all (inB fks)=true:=i9.mpr λc hc=>by
  have:=h c hc
  unfold inB;simp only[bo,kX,or_false,decide_eq_true_eq];omega
 simp[okB,h1,h2,this]
theorem T7:ae "abcdefghijklmnopqrstuvwxyz0123456789" = tx nks:=by decide +kernel
theorem Ky {l:List Nat}(hl:l.length<=1000):gk [.str<|tx l]=.ok (false,.bl<|okB nks 8 l):=by
 have hz2:(tx l).length<=16777216:=by rw[bB];omega
 have hz:l.length<=16777216:=by omega
 have e3:=Ir (ks:=nks) (l:=l);have e:gK (hName 0) jD nG [.un] (l.map λc=>D.str ⟨#[c]⟩)=.ok (l.map λc=>D.bl<|inB nks c):=gW l λc hc=>by
  refine⟨_,rfl,rfl,?_⟩;have hi:=UT T7 c;generalize inB nks c=ic at *;simp[nG,jd,aj,fC,hi]
 have hs:signs (tx l)=l.map λc=>D.str ⟨#[c]⟩:=rfl;have q:mF [.fz<|.str<|tx l]=.ok (.lst<|l.map λc=>D.bl<|inB nks c):=by
  generalize inB nks=ib at *;simp[mF,dU,Il,bH,cMe,hz2,hz,hs,e]
 have it:dD "str" (aj 0) [.fz<|.str<|tx l]=.ok (.bl true):=rfl;unfold okB;have c:∀(Q:Zl) (ib:Nat->Bool),Q [.fz<|.str<|tx l]=.ok (.lst<|l.map λc=>D.bl<|ib c)->vD [.lst<|l.map λc=>D.bl<|ib c]=some (.bl<|l.all ib)->bF 1 1 (jo Q) [.str<|tx l]=.ok (false,.bl<|decide (1<=l.length)&&decide (l.length<=8)&&l.all ib):=by
  intro Q ib hq e3;generalize l.all ib=A at *;by_cases g1:1<=l.length
  ·have g1':(1:Int)<=((tx l).length:Int):=by rw[bB];omega
   by_cases g2:l.length<=8
   ·have g2':((tx l).length:Int)<=8:=by rw[bB];omega
    simp[bF,jo,aR,gIf,cB,it,gNx,bu,Me.let,Sl.let,gh,fTv,jx,fC,aU,au,aF,aj,dj,hz2,gLe,g1',g2',hq,e3,g1,g2]
   ·have g2':¬((tx l).length:Int)<=8:=by rw[bB];omega
    simp[bF,jo,aR,gIf,cB,it,gNx,bu,Me.let,Sl.let,gh,fTv,jx,fC,aU,au,aF,aj,dj,hz2,gLe,g1',g2',hq,e3,g1,g2]
  ·have g1':¬(1:Int)<=((tx l).length:Int):=by rw[bB];omega
   simp[bF,jo,aR,gIf,cB,it,gNx,bu,Me.let,Sl.let,gh,fTv,jx,fC,aU,au,aF,aj,dj,hz2,gLe,g1',hq,e3,g1]
 exact c _ _ q e3
structure Nam (l:List Nat):Prop where
 lo:1<=l.length
 hi:l.length<=8
 sg:∀c∈l,97<=c/\c<=122\/48<=c/\c<=57
theorem Nam.no {l:List Nat}(h:Nam l){c:Nat}(hc:c=32\/c=59):c∉l:=λz=>by
 have:=h.sg c z
 omega
theorem uw {l:List Nat}(h:Nam l):gk [.str<|tx l]=.ok (false,.bl true):=by
 have h1:=h.lo;have h2:=h.hi;rw[Ky<|by omega]
 have:l.all (inB nks)=true:=i9.mpr λc hc=>by
  have:=h.sg c hc
  unfold inB;rw[decide_eq_true_eq,eB,List.mem_range'_1,List.mem_range'_1];omega
 simp[okB,h1,h2,this]
theorem zf {φl φs φa:Zf}{z p1 p2 p3 bt bare:Str}{ti bi:Int}{r:D}
  (hp:lu (.str z) [.str<|ae "/"]=some (.tup [.str p1,.str p2,.str p3])) (hl:p1.length<=16777216)
  (hb:(if p2=ae "/" then p3 else ae "1")=bt) (hs:(if hZ p1 (ae "-")=true then kM p1 (some 1) none else p1)=bare)
  (f1:φa [.str bare]=.ok (false,.bl true)) (f2:φa [.str bt]=.ok (false,.bl true)) (i1:vP [.str p1]=some (.int ti)) (i2:vP [.str bt]=some (.int bi)) (nz:bi≠0)
  (l:φl [.int ti,.int bi]=.ok (false,r)) (s:φs [r]=.ok (false,.str z)):bF 6 1 (dI φl φs φa) [.str z]=.ok (false,r):=by
 have x0:∀a b c:D,atI [a,b,c] 0=some a:=λ_ _ _=>rfl;have x1:∀a b c:D,atI [a,b,c] 1=some b:=λ_ _ _=>rfl;have x2:∀a b c:D,atI [a,b,c] 2=some c:=λ_ _ _=>rfl;subst hb;subst hs;by_cases c1:p2=ae "/"
 ·rw[if_pos c1] at f2 i2;by_cases c2:hZ p1 (ae "-")=true
  ·rw[if_pos c2] at f1;simp[bF,dI,aR,gIf,cB,fTv,dD,aj,gU,G8,gNx,cA,jw,tyD,au,aF,fC,hp,aA,gIx,x0,x1,x2,fIf,aN,c1,lU,c2,fSl,fO1,fO0,gSl,hl,dF,fFn,bH,f1,f2,aU,i1,i2,nz,l,s,bu,Me.let,Sl.let]
  ·rw[if_neg c2] at f1;simp[bF,dI,aR,gIf,cB,fTv,dD,aj,gU,G8,gNx,cA,jw,tyD,au,aF,fC,hp,aA,gIx,x0,x1,x2,fIf,aN,c1,lU,c2,fSl,fO1,fO0,gSl,hl,dF,fFn,bH,f1,f2,aU,i1,i2,nz,l,s,bu,Me.let,Sl.let]
 ·rw[if_neg c1] at f2 i2;by_cases c2:hZ p1 (ae "-")=true
  ·rw[if_pos c2] at f1;simp[bF,dI,aR,gIf,cB,fTv,dD,aj,gU,G8,gNx,cA,jw,tyD,au,aF,fC,hp,aA,gIx,x0,x1,x2,fIf,aN,c1,lU,c2,fSl,fO1,fO0,gSl,hl,dF,fFn,bH,f1,f2,aU,i1,i2,nz,l,s,bu,Me.let,Sl.let]
  ·rw[if_neg c2] at f1;simp[bF,dI,aR,gIf,cB,fTv,dD,aj,gU,G8,gNx,cA,jw,tyD,au,aF,fC,hp,aA,gIx,x0,x1,x2,fIf,aN,c1,lU,c2,fSl,fO1,fO0,gSl,hl,dF,fFn,bH,f1,f2,aU,i1,i2,nz,l,s,bu,Me.let,Sl.let]
theorem Jk {n:Nat}:47∉dg n:=λh=>by have:=pD n 47 h;omega
theorem wJ {i:Int}:47∉sg i:=λh=>by
 unfold sg at h;rcases eB.mp h with w|w
 ·split at w
  ·simp at w
  ·cases w
 ·exact Jk w
theorem Ms {n:Nat}:¬(dg n).head? = some 45:=λh=>by
 cases e:dg n with
 |nil=>rw[e] at h;cases h
 |cons a r=>rw[e] at h;cases h;have:=pD n 45 (by rw[e];simp);omega
theorem ym {i:Int}(h:i.natAbs<10^30):vP [.str<|tx<|sg i]=some (.int i):=by
 obtain⟨h1,h2⟩:=KR h;show(if(tx<|sg i).length<=640 then(intText?<|tx<|sg i).map D.int else none)=_;rw[if_pos (by omega),h1];rfl
theorem NT {t b:Int}(ht:t.natAbs<10^30)(hb:b.natAbs<10^30)(h1:1<=b)(hg:gI t b=1):fK [.str<|tx<|sh t b]=.ok (false,qD (t,b)):=by
 have lt1:=pF ht;have lb1:=pF hb;have low:jr [.int t,.int b]=.ok (false,qD (t,b)):=by
  obtain⟨z1,z2⟩:=Qf h1 hg;have hB:Bq b:=Qo (k:=100)<|a9 hb (by decide);rw[Af (by omega) hB,z1,z2];rfl
 have zl:(tx<|sh t b).length<=16777216:=by
  rw[bB];unfold sh;rw[be]
  have:=rP 29 b.natAbs hb
  split<;>simp<;>omega
 have bare:∃bs,(if hZ (tx<|sg t) (ae "-")=true then kM (tx<|sg t) (some 1) none else tx (sg t))=tx bs/\dX [.str<|tx bs]=.ok (false,.bl true):=by
  refine⟨dg t.natAbs,?_,yz (pD _) (Fe _)<|rP 29 _ ht⟩;rw[M6,Bm];by_cases n:t<0
  ·have e:sg t=45::dg t.natAbs:=by unfold sg;rw[if_pos n];rfl
   rw[e,if_pos (by simp),GF]
  ·have e:sg t=dg t.natAbs:=xM (by omega);rw[e,if_neg<|by simpa using Ms]
 obtain⟨bs,hbare,hfig⟩:=bare;have pl:(tx<|sg t).length<=16777216:=by rw[bB];omega
 by_cases z:b=1
 ·have e:sh t b=sg t:=by unfold sh;rw[if_pos z];simp
  refine zf (p1:=tx<|sg t) (p2:=tx []) (p3:=tx []) (bt:=ae "1") (bare:=tx bs) (ti:=t) (bi:=b) ?_ pl ?_ hbare hfig ?_ (ym ht) ?_ (by omega) low<|xJ ht hb h1
  ·show(if _ then some (D.tup [.str (d4 (tx<|sh t b)<|ae "/").1,.str (d4 (tx<|sh t b)<|ae "/").2.1,.str (d4 (tx<|sh t b)<|ae "/").2.2]) else none)=_;rw[if_pos ⟨by rw[szl];exact zl,by rw[iZ];rfl⟩,iZ,e,N6 wJ]
  ·rw[if_neg (by rw[iZ,show(⟨#[47]⟩:Str)=tx [47] from rfl,yJ];decide)]
  ·rw[Qu];exact yz (by intro c hc;rw[ck.mp hc];decide) (by decide) (by decide)
  ·rw[z,Qu];exact ym (i:=1)<|by decide
 ·have e:sh t b=sg t++47::dg b.natAbs:=by unfold sh;rw[if_neg z]
  have eb:sg b=dg b.natAbs:=xM (by omega);refine zf (p1:=tx<|sg t) (p2:=⟨#[47]⟩) (p3:=tx<|sg b) (bt:=tx<|sg b) (bare:=tx bs) (ti:=t) (bi:=b) ?_ pl ?_ hbare hfig ?_ (ym ht) (ym hb) (by omega) low<|xJ ht hb h1
  ·show(if _ then some (D.tup [.str (d4 (tx<|sh t b)<|ae "/").1,.str (d4 (tx<|sh t b)<|ae "/").2.1,.str (d4 (tx<|sh t b)<|ae "/").2.2]) else none)=_;rw[if_pos ⟨by rw[szl];exact zl,by rw[iZ];rfl⟩,iZ,e,N8 wJ,eb]
  ·rw[if_pos iZ.symm]
  ·rw[eb];exact yz (pD _) (Fe _)<|rP 29 _ hb
open L2 (atI ixN Key)
abbrev Wy:Type:=List Nat×D×Gt
def wl:Wt->List Wy
 | .one c d g=>[(c,d,g)]
 | .more c d g r=>(c,d,g)::wl r
def mkW:Wy->List Wy->Wt
 |x,[]=>.one x.1 x.2.1 x.2.2
 |x,y::r=>.more x.1 x.2.1 x.2.2<|mkW y r
theorem QK:∀(r:List Wy) (x:Wy),wl (mkW x r)=x::r
 |[],x=>rfl
 |y::r,x=>by show _::wl (mkW y r)=_;rw[QK r y]
theorem Ec:∀ws:Wt,wl ws≠[]
 | .one _ _ _=>by simp[wl]
 | .more _ _ _ _=>by simp[wl]
def tD (x:Wy):D:=.tup [x.2.1,dGt x.2.2]
def tT (x:Wy):List Nat:=x.1++32::tG x.2.2
theorem lK:∀ws:Wt,dWt ws=(wl ws).map tD
 | .one _ _ _=>by simp[dWt,wl,tD]
 | .more _ _ _ r=>by simp[dWt,wl,tD,lK r]
theorem wG:∀ws:Wt,tW ws=jl [44,32] ((wl ws).map tT)
 | .one _ _ _=>by simp[tW,wl,tT,jl]
 | .more c d g r=>by
  have ih:=wG r;cases e:wl r with
  |nil=>exact absurd e (Ec r)
  |cons y t=>
   rw[e] at ih;simp only[cE] at ih;simp only[tW,wl,cE,e,jl,ih,tT]
   simp
structure Rt (t b:Int):Prop where
 ht:t.natAbs<10^30
 hb:b.natAbs<10^30
 h1:1<=b
 hg:gI t b=1
def Fq (c:List Nat)(d:D):Prop:=∃t b,Rt t b/\c=sh t b/\d=qD (t,b)
def Ld (ho:Option Int)(c:List Nat)(d:D):Prop:=match ho with
 |none=>Fq c d
 |some _=>Nam c/\d=.str (tx c)
def Gn:Nat->Gt->Prop
 |_,.fin c d=>Fq c d
 |0,.nd _ _ _=>False
 |k+1,.nd ho n ws=>(∀s,ho=some s->s=1\/s=2)/\Nam n/\(wl ws).length<=(if ho.isNone then 64 else 6)/\(ho.isNone=false->((wl ws).map (·.1)).Nodup)/\∀x∈wl ws,Ld ho x.1 x.2.1/\Gn k x.2.2
theorem jT {k:Nat}{c:List Nat}{d:D}:Gn k (.fin c d)=Fq c d:=by cases k<;>rfl
theorem Nam.st {l:List Nat}(h:Nam l):∀x∈l,x∉stops:=λx hx z=>by
 have:=h.sg x hx
 simp only[stops,bo,kX,or_false] at z;omega
theorem U0 {t b:Int}:∀x∈sh t b,45<=x/\x<=57:=λx hx=>by
 have dd:∀n:Nat,∀x∈dg n,45<=x/\x<=57:=λn x h=>by have:=pD n x h;omega
 unfold sh sg at hx;rcases eB.mp hx with w|w
 ·rcases eB.mp w with w|w
  ·split at w
   ·simp at w;omega
   ·cases w
  ·exact dd _ _ w
 ·split at w
  ·cases w
  ·rcases bo.mp w with w|w
   ·omega
   ·exact dd _ _ w
theorem Fq.st {c:List Nat}{d:D}(h:Fq c d):∀x∈c,x∉stops:=by
 obtain⟨t,b,_,rfl,_⟩:=h;intro x hx z
 have:=U0 x hx
 simp only[stops,bo,kX,or_false] at z;omega
theorem Fq.len {c:List Nat}{d:D}(h:Fq c d):c.length<=63:=by
 obtain⟨t,b,r,rfl,_⟩:=h
 have:=pF r.ht
 have:=rP 29 b.natAbs r.hb
 unfold sh;rw[be];split<;>simp<;>omega
theorem Ld.st {ho:Option Int}{c:List Nat}{d:D}(h:Ld ho c d):∀x∈c,x∉stops:=by
 cases ho with
 |none=>exact Fq.st h
 |some s=>exact h.1.st
theorem Ld.len {ho:Option Int}{c:List Nat}{d:D}(h:Ld ho c d):c.length<=63:=by
 cases ho with
 |none=>exact Fq.len h
 |some s=>have:=h.1.hi;omega
theorem BL {t b:Int}(r:Rt t b):gf [qD (t,b)]=.ok (false,.bl true):=by
 have x0:∀a b:D,atI [a,b] 0=some a:=λ_ _=>rfl;have x1:∀a b:D,atI [a,b] 1=some b:=λ_ _=>rfl;have w:∀i:Int,gj [.int i]=.ok (false,.bl true):=λ_=>rfl;have e:=fQ t b;rw[r.hg] at e;have g1:=r.h1;have l2:dj [.tup [.int t,.int b]]=some (.int 2):=rfl;have it:dD "tuple" (aj 0) [.fz<|.tup [.int t,.int b]]=.ok (.bl true):=rfl;simp[qD,gf,bF,pI,pA,aR,gIf,dF,cB,fTv,it,aN,aU,au,aF,aj,l2,fC,gNe,gNx,fFn,aA,gIx,x0,x1,w,bu,Me.let,Sl.let,gh,jd,gGe,g1,e]
theorem uM {α:Type}:∀l:List α,o8 (l.map λ_=>D.bl true)=some (l.map λ_=>true)
 |[]=>rfl
 |c::l=>by simp[o8,uM l]
theorem all_true {α:Type}(l:List α):vD [.lst<|l.map λ_=>D.bl true]=some (.bl true):=by
 show(o8 _).map _=_;rw[uM]
 simp
theorem xj {l:List Wy}{m:Int}(h0:l≠[])(h:(l.length:Int)<=m)(hm:m<=100):eY [.tup<|l.map tD,.int m]=.ok (false,.bl true):=by
 have l1:1<=l.length:=by cases l with|nil=>exact absurd rfl h0|cons _ _=>simp
 have l1':(1:Int)<=(l.length:Int):=by omega
 have e:gK (hName 0) jD jQ [.un] (l.map tD)=.ok (l.map λ_=>.bl true):=gW l λx hx=>by
  have p:nW [tD x]=.ok (false,.bl true):=rfl;exact⟨_,rfl,rfl,by simp[jQ,fFn,au,aF,bH,p]⟩
 have hz:l.length<=16777216:=by omega
 have q:jX [.fz<|.tup<|l.map tD,.fz<|.int m]=.ok (.lst<|l.map λ_=>.bl true):=by
  generalize hL:l.map tD=L at *
  have:L.length=l.length:=by rw[← hL];simp
  simp[jX,dU,mq,bH,cMe,this,hz,e]
 have ga:=all_true l;have it:dD "tuple" (aj 0) [.fz<|.tup<|l.map tD,.fz<|.int m]=.ok (.bl true):=rfl;have gl:dj [.tup<|l.map tD]=some (.int l.length):=by simp[dj]
 generalize l.map tD=L at *;generalize l.map (λ_=>D.bl true)=B at *;simp[eY,bF,my,mJ,bu,Me.let,Sl.let,gh,fTv,it,jx,fC,aU,au,aF,aj,gl,gLe,l1',h,q,ga]
theorem yf {f:Zl}{l:List Wy}{φ:Wy->D}(h:∀x∈l,f [.fz x.2.1,.fz<|dGt x.2.2]=.ok (φ x)):gK (qN 2<|dR (hName 0)<|dR (hName 1) qL) jD f [.un,.un] (l.map tD)=.ok (l.map φ):=gW l λx hx=>⟨_,rfl,rfl,h x hx⟩
theorem x31:∀a b c:D,atI [a,b,c] 1=some b:=λ_ _ _=>rfl
theorem x32:∀a b c:D,atI [a,b,c] 2=some c:=λ_ _ _=>rfl
theorem x30:∀a b c:D,atI [a,b,c] 0=some a:=λ_ _ _=>rfl
theorem x40:∀a b c d:D,atI [a,b,c,d] 0=some a:=λ_ _ _ _=>rfl
theorem x41:∀a b c d:D,atI [a,b,c,d] 1=some b:=λ_ _ _ _=>rfl
theorem x42:∀a b c d:D,atI [a,b,c,d] 2=some c:=λ_ _ _ _=>rfl
theorem x43:∀a b c d:D,atI [a,b,c,d] 3=some d:=λ_ _ _ _=>rfl
theorem Ih {n:List Nat}{l:List Wy}(hn:Nam n)(h0:l≠[])(h:l.length<=64)(hl:∀x∈l,Fq x.1 x.2.1):j6 [.tup [.str "deal",.str<|tx n,.tup<|l.map tD]]=.ok (false,.bl true):=by
 have ep:=xj (m:=64) h0 (by omega) (by decide);have en:=uw hn;have e:=yf (f:=mW) (l:=l) (φ:=λ_=>.bl true) λx hx=>by
  obtain⟨t,b,r,_,e⟩:=hl x hx;have e':=BL r;rw[← e] at e';simp[mW,fFn,au,aF,bH,e']
 have ga:=all_true l;have hz:l.length<=16777216:=by omega
 have lL:(l.map tD).length=l.length:=by simp
 generalize l.map tD=L at *;generalize l.map (λ_=>D.bl true)=B at *;have q:nC [.fz<|.tup [.str "deal",.str<|tx n,.tup L]]=.ok (.lst B):=by
  simp[nC,dU,mq,aA,aj,fC,gIx,x32,cMe,lL,hz,e]
 simp[j6,bF,rB,rJ,aR,gIf,dF,aN,aU,au,aF,aj,dj,fC,gNe,cB,fTv,fFn,aA,gIx,x31,x32,en,ep,gNx,bu,Me.let,Sl.let,q,ga]
theorem Vn (i:Int):xN (.int i) (.tup [.int 1,.int 2])=some (!(decide (i=1)||decide (i=2))):=by
 have e:∀k:Int,L2.eqV (.int k) (.int i)=decide (i=k):=λk=>by
  show(k==i)=_;by_cases h:k=i
  ·rw[h];simp
  ·have h':¬i=k:=λz=>h z.symm;rw[decide_eq_false h'];simpa using h
 simp[xN,gIn,inD,flat,vOf,L2.inV,e]
theorem Al:∀{l:List (List Nat)},l.Nodup->(l.map tx).Nodup
 |[],_=>List.nodup_nil
 |a::l,h=>by
  rw[ij] at h;rw[cE,ij];refine⟨λz=>?_,Al h.2⟩;obtain⟨b,hb,e⟩:=iv.mp z;rw[yJ] at e;exact h.1<|e▸hb
theorem Iw {s:Int}{n:List Nat}{l:List Wy}(hs:s=1\/s=2)(hn:Nam n)(h0:l≠[])(h:l.length<=6)(hl:∀x∈l,Nam x.1/\x.2.1=.str (tx x.1))(hd:(l.map (·.1)).Nodup):j7 [.tup [.str "move",.int s,.str<|tx n,.tup<|l.map tD]]=.ok (false,.bl true):=by
 have ep:=xj (m:=6) h0 (by omega) (by decide);have en:=uw hn;have ew:gj [.int s]=.ok (false,.bl true):=rfl;have e12:=Vn s;have e12':xN (.int s) (.tup [.int 1,.int 2])=some false:=by
  rw[e12];rcases hs with rfl|rfl<;>rfl
 have e:=yf (f:=bH 0) (l:=l) (φ:=λx=>.str<|tx x.1) λx hx=>by rw[(hl x hx).2];rfl
 have e3:gK (hName 0) jD ni [.un] (l.map λx=>D.str<|tx x.1)=.ok (l.map λ_=>.bl true):=gW l λx hx=>by
  have p:=uw (hl x hx).1;exact⟨_,rfl,rfl,by simp[ni,fFn,au,aF,bH,p]⟩
 have gs:qI [.lst<|l.map λx=>D.str<|tx x.1]=some (.int l.length):=by
  have ez:txs (l.map λx=>D.str<|tx x.1)=some ((l.map (·.1)).map tx):=by
   clear e e3 hd hl h h0 ep;induction l with
   |nil=>rfl
   |cons a l ih=>simp[txs,ih]
  have b:((l.map (·.1)).map tx).length+1<kl:=by unfold kl;simp;omega
  have ec:=Hu<|Al hd;unfold qI;simp only[ez];rw[if_pos b,ec]
  simp
 have ga:=all_true l;have hz:l.length<=16777216:=by omega
 have lL:(l.map tD).length=l.length:=by simp
 have lW:(l.map λx=>D.str<|tx x.1).length=l.length:=by simp
 generalize l.map tD=L at *;generalize l.map (λ_=>D.bl true)=B at *;generalize(l.map λx=>D.str<|tx x.1)=W at *;have q:∀t,mH (.fz (.tup [.str "move",.int s,.str<|tx n,.tup L])::t)=.ok (.lst W):=λt=>by
  simp[mH,dU,mq,aA,aj,fC,gIx,x43,cMe,lL,hz,e]
 have q3:∀a,mZ [a,.fz<|.lst W]=.ok (.lst B):=λa=>by
  simp[mZ,dU,zP,aj,cMe,lW,hz,e3]
 simp[j7,bF,rA,rH,aR,gIf,dF,aN,aU,au,aF,aj,dj,fC,gNe,cB,fTv,fFn,aA,gIx,x41,x42,x43,en,ep,ew,gR,e12',gNx,cA,q,q3,bu,Me.let,Sl.let,ga,gh,gs,jd,lW]
theorem Bc {ho:Option Int}{n:List Nat}{ws:Wt}{k:Nat}(h:Gn (k+1) (.nd ho n ws)):dq [clD ho n<|dWt ws]=.ok (false,.bl true):=by
 obtain⟨hs,hn,hl,hd,hx⟩:=h;rw[lK];cases ho with
 |none=>
  have e:=Ih hn (Ec ws) hl λx hx'=>(hx x hx').1;show dq [.tup [.str "deal",.str<|tx n,.tup<|(wl ws).map tD]]=_;generalize(wl ws).map tD=L at *;have t1:dD "tuple" (aj 0) [.fz<|.tup [.str "deal",.str<|tx n,.tup L]]=.ok (.bl true):=rfl;have t2:dD "str" (aA gIx (aj 0)<|fC<|.int 0) [.fz<|.tup [.str "deal",.str<|tx n,.tup L]]=.ok (.bl true):=rfl;have n1:¬(ae "deal" = ae "end"):=by decide +kernel
  simp[dq,bF,jK,jH,aR,gIf,dF,cB,fTv,t1,t2,aN,aU,au,aF,aj,dj,fC,bu,Me.let,Sl.let,aA,gIx,x30,gNx,n1,fFn,bH,e]
 |some s=>
  have e:=Iw (hs s rfl) hn (Ec ws) hl (λx hx'=>(hx x hx').1)<|hd rfl;show dq [.tup [.str "move",.int s,.str<|tx n,.tup<|(wl ws).map tD]]=_;generalize(wl ws).map tD=L at *;have t1:dD "tuple" (aj 0) [.fz<|.tup [.str "move",.int s,.str<|tx n,.tup L]]=.ok (.bl true):=rfl;have t2:dD "str" (aA gIx (aj 0)<|fC<|.int 0) [.fz<|.tup [.str "move",.int s,.str<|tx n,.tup L]]=.ok (.bl true):=rfl;have n1:¬(ae "move" = ae "end"):=by decide +kernel
  have n2:¬(ae "move" = ae "deal"):=by decide +kernel
  simp[dq,bF,jK,jH,aR,gIf,dF,cB,fTv,t1,t2,aN,aU,au,aF,aj,dj,fC,bu,Me.let,Sl.let,aA,gIx,x40,gNx,n1,n2,fFn,bH,gh,jd,e]
open L2 (atI ixN Key)
def SH (b:List Nat):Prop:=∀x,b.head? = some x->x∈stops
theorem kj {x:Nat}{b:List Nat}(h:x∈stops):SH (x::b):=λy e=>by cases e;exact h
theorem nH:∀{c c' b b':List Nat},(∀x∈c,x∉stops)->(∀x∈c',x∉stops)->SH b->SH b'->c++b=c'++b'->c=c'/\b=b'
 |[],[],_,_,_,_,_,_,e=>⟨rfl,e⟩
 |[],y::c',b,b',_,h',hb,_,e=>by
  refine absurd (hb y ?_)<|h' y aE
  have:b=(y::c')++b':=e
  rw[this];rfl
 |y::c,[],b,b',h,_,_,hb',e=>by
  refine absurd (hb' y ?_)<|h y aE
  have:b'=(y::c)++b:=e.symm
  rw[this];rfl
 |y::c,y'::c',b,b',h,h',hb,hb',e=>by
  simp only[cm,eI] at e;obtain⟨e1,e2⟩:=nH (λx hx=>h x<|ah _ hx) (λx hx=>h' x<|ah _ hx) hb hb' e.2;exact⟨by rw[e.1,e1],e2⟩
theorem Gv {Φ:Zf}{hd:Str}{c:List Nat}{d d':D}(h:Led Φ hd c d)(h':Led Φ hd c d'):d=d':=by
 unfold Led at h h';split at h
 ·rename_i z;rw[if_pos z] at h';obtain⟨f,e⟩:=h;obtain⟨f',e'⟩:=h';rw[e] at e';cases e';rfl
 ·rename_i z;rw[if_neg z] at h';rw[h,h']
theorem zT:32∈stops:=by decide
theorem PK:40∈stops:=by decide
theorem OJ:41∈stops:=by decide
theorem PN:44∈stops:=by decide
theorem Rj {s s':Int}(h:s=1\/s=2)(h':s'=1\/s'=2){b b':List Nat}(e:sdS s++b=sdS s'++b'):s=s'/\b=b':=by
 rcases h with rfl|rfl<;>rcases h' with rfl|rfl<;>simp[sdS] at e<;>simp[e]
theorem Kc {ho ho':Option Int}{n n' b b':List Nat}(hs:∀s,ho=some s->s=1\/s=2)(hs':∀s,ho'=some s->s=1\/s=2)(hn:∀x∈n,x∉stops)(hn':∀x∈n',x∉stops)(e:hT ho n++40::b=hT ho' n'++40::b'):ho=ho'/\n=n'/\b=b':=by
 cases ho with
 |none=>
  cases ho' with
  |none=>
   simp only[hT,dlT,cm,dk,eI,true_and] at e;obtain⟨e1,e2⟩:=nH hn hn' (kj PK) (kj PK) e;cases e2;exact⟨rfl,e1,rfl⟩
  |some s'=>simp[hT,dlT,mvT] at e
 |some s=>
  cases ho' with
  |none=>simp[hT,dlT,mvT] at e
  |some s'=>
   simp only[hT,mvT,cm,dk,eI,true_and,bP] at e;obtain⟨es,ex⟩:=Rj (hs s rfl) (hs' s' rfl) e;subst es;simp only[eI,true_and] at ex;obtain⟨e1,e2⟩:=nH hn hn' (kj PK) (kj PK) ex;cases e2;exact⟨rfl,e1,rfl⟩
section
variable {Φ Ψ:Zf}
mutual
theorem uG:∀(g g':Gt) (b b':List Nat),okG Φ Ψ g->okG Φ Ψ g'->SH b->SH b'->tG g++b=tG g'++b'->dGt g=dGt g'/\b=b'
 | .fin c d,.fin c' d',b,b',h,h',hb,hb',e=>by
  simp only[okG] at h h';simp only[tG,enT,cm,dk,eI,true_and] at e;obtain⟨e1,e2⟩:=nH h.1 h'.1 hb hb' e;obtain⟨_,f,q⟩:=h;obtain⟨_,f',q'⟩:=h';rw[e1,q'] at q;cases q;exact⟨rfl,e2⟩
 | .fin c d,.nd ho n ws,b,b',h,h',hb,hb',e=>by cases ho<;>simp[tG,enT,hT] at e
 | .nd ho n ws,.fin c d,b,b',h,h',hb,hb',e=>by cases ho<;>simp[tG,enT,hT] at e
 | .nd ho n ws,.nd ho' n' ws',b,b',h,h',hb,hb',e=>by
  simp only[okG] at h h';simp only[tG,bP,cm,dk] at e;obtain⟨rfl,rfl,ex⟩:=Kc h.1 h'.1 h.2.1 h'.2.1 e;obtain⟨e1,e2⟩:=uW ho ws ws' b b' h.2.2.1 h'.2.2.1 ex;exact⟨by simp only[dGt,e1],e2⟩
theorem uW:∀(ho:Option Int) (ws ws':Wt) (b b':List Nat),okW Φ Ψ ho ws->okW Φ Ψ ho ws'->tW ws++41::b=tW ws'++41::b'->dWt ws=dWt ws'/\b=b'
 |ho,.one c d g,.one c' d' g',b,b',h,h',e=>by
  simp only[okW] at h h';simp only[tW,bP,cm] at e;obtain⟨rfl,ex⟩:=nH h.1 h'.1 (kj zT) (kj zT) e;simp only[eI,true_and] at ex;obtain⟨e1,e2⟩:=uG g g' (41::b) (41::b') h.2.2 h'.2.2 (kj OJ) (kj OJ) ex;cases e2
  have:=Gv h.2.1 h'.2.1
  exact⟨by simp only[dWt,e1,this],rfl⟩
 |ho,.one c d g,.more c' d' g' r',b,b',h,h',e=>by
  simp only[okW] at h h';simp only[tW,bP,cm] at e;obtain⟨rfl,ex⟩:=nH h.1 h'.1 (kj zT) (kj zT) e;simp only[eI,true_and] at ex;obtain⟨e1,e2⟩:=uG g g' (41::b) _ h.2.2 h'.2.2.1 (kj OJ) (kj PN) ex;cases e2
 |ho,.more c d g r,.one c' d' g',b,b',h,h',e=>by
  simp only[okW] at h h';simp only[tW,bP,cm] at e;obtain⟨rfl,ex⟩:=nH h.1 h'.1 (kj zT) (kj zT) e;simp only[eI,true_and] at ex;obtain⟨e1,e2⟩:=uG g g' _ (41::b') h.2.2.1 h'.2.2 (kj PN) (kj OJ) ex;cases e2
 |ho,.more c d g r,.more c' d' g' r',b,b',h,h',e=>by
  simp only[okW] at h h';simp only[tW,bP,cm] at e;obtain⟨rfl,ex⟩:=nH h.1 h'.1 (kj zT) (kj zT) e;simp only[eI,true_and] at ex;obtain⟨e1,e2⟩:=uG g g' _ _ h.2.2.1 h'.2.2.1 (kj PN) (kj PN) ex;simp only[eI,true_and] at e2;obtain⟨e3,e4⟩:=uW ho r r' b b' h.2.2.2 h'.2.2.2 e2
  have:=Gv h.2.1 h'.2.1
  exact⟨by simp only[dWt,e1,this,e3],e4⟩
end
theorem JF {ho:Option Int}:∀ws:Wt,(∀x∈wl ws,(∀y∈x.1,y∉stops)/\Led Φ (hN ho) x.1 x.2.1/\okG Φ Ψ x.2.2)->okW Φ Ψ ho ws
 | .one c d g,h=>by
  simp only[okW];exact h (c,d,g)<|by simp[wl]
 | .more c d g r,h=>by
  simp only[okW];obtain⟨h1,h2,h3⟩:=h (c,d,g) (by simp[wl]);exact⟨h1,h2,h3,JF r λx hx=>h x<|by simp[wl,hx]⟩
end
theorem Dq {c:List Nat}{d:D}(h:Fq c d):fK [.str<|tx c]=.ok (false,d):=by
 obtain⟨t,b,r,rfl,rfl⟩:=h;exact NT r.ht r.hb r.h1 r.hg
theorem J3:∀(k:Nat) (g:Gt),Gn k g->okG fK dq g
 |k,.fin c d,h=>by
  rw[jT] at h;simp only[okG];exact⟨h.st,_,Dq h⟩
 |0,.nd _ _ _,h=>h.elim
 |k+1,.nd ho n ws,h=>by
  have hf:=Bc h;obtain⟨hs,hn,hl,hd,hx⟩:=h;simp only[okG];refine⟨hs,hn.st,JF ws λx hx'=>⟨(hx x hx').1.st,?_,J3 k x.2.2 (hx x hx').2⟩,_,hf⟩;have h1:=(hx x hx').1;unfold Led;cases ho with
  |none=>rw[if_pos<|show hN none=ae "deal" from rfl];exact⟨_,Dq h1⟩
  |some s=>rw[if_neg (by show ¬ae "move" = ae "deal";decide +kernel)];exact h1.2
theorem Jr {k:Nat}{g:Gt}(h:Gn k g)(hl:(tG g).length<=100000):yO [.str<|tx<|tG g]=.ok (false,dGt g):=by
 have ex:∃g',Rdb fK dq [.str<|tx<|tG g] g':=⟨g,rfl,J3 k g h,by rw[bB];exact hl⟩;unfold yO zN;rw[dif_pos ex];obtain⟨e,o,_⟩:=ex.choose_spec;have e':tG g=tG ex.choose:=by
  simp only[eI,D.str.injEq,and_true,yJ] at e;exact e
 have hb:SH []:=λx h=>by cases h
 rw[← (uG g ex.choose [] [] (J3 k g h) o hb hb<|congrArg (· ++ []) e').1]
open L2 (atI ixN Key)
theorem cH {a b:List Nat}(h:a.length+b.length<=16777216):bL (.str<|tx a) (.str<|tx b)=some (.str<|tx<|a++b):=by
 show(if(tx a).length+(tx b).length<=aT then some (D.str<|tx a++tx b) else none)=_;rw[bB,bB,if_pos (by rw[szl];exact h),lF]
theorem QZ:ae ", " = tx [44,32]:=by decide +kernel
theorem s_end:ae "end " = tx enT:=by decide +kernel
theorem Ju:ae "deal " = tx dlT:=by decide +kernel
theorem Kh:ae "move " = tx mvT:=by decide +kernel
theorem JH:ae " " = tx [32]:=by decide +kernel
theorem s_o:ae "(" = tx [40]:=by decide +kernel
theorem s_c:ae ")" = tx [41]:=by decide +kernel
theorem Wm:ae "/" = tx [47]:=by decide +kernel
theorem Ke {c:List Nat}{d:D}(h:Fq c d):bO [d]=.ok (false,.str<|tx c):=by
 obtain⟨t,b,r,rfl,rfl⟩:=h;have e1:=oJ r.ht;have e2:=oJ r.hb;have l1:=pF r.ht;have l2:=pF r.hb;by_cases z:b=1
 ·have e:sh t b=sg t:=by unfold sh;rw[if_pos z];simp
  rw[e];simp[bO,bF,eN,eF,aR,gIf,aN,aA,aj,fC,gIx,qD,ix0,ix1,z,bu,Me.let,Sl.let,aU,au,aF,e1]
 ·have e:sh t b=(sg t++[47])++sg b:=by unfold sh;rw[if_neg z,xM (i:=b) (by have:=r.h1;omega)];simp
  have a1:bL (.str<|tx<|sg t) (.str<|ae "/")=some (.str<|tx<|sg t++[47]):=by rw[Wm];exact cH (by simp;omega)
  have a2:bL (.str<|tx<|sg t++[47]) (.str<|tx<|sg b)=some (.str<|tx<|sh t b):=by rw[e];exact cH (by simp;omega)
  simp[bO,bF,eN,eF,aR,gIf,aN,aA,aj,fC,gIx,qD,ix0,ix1,z,gNx,bu,Me.let,Sl.let,aU,au,aF,e1,e2,a1,a2]
theorem yC (s:List Nat):∀l:List (List Nat),kO l<=(jl s l).length
 |[]=>by simp[kO]
 |[a]=>by simp[kO,jl]
 |a::b::r=>by
  have:=yC s (b::r)
  simp only[kO,cE,lj,jl,be] at this ⊢;omega
theorem Nu {l:List (List Nat)}{a:List Nat}(h:a∈l):a.length<=kO l:=by
 induction l with
 |nil=>cases h
 |cons b l ih=>
  simp only[kO,cE,lj] at ih ⊢;rcases bo.mp h with rfl|h
  ·omega
  ·have:=ih h;omega
theorem QC (s:List Nat):∀l:List (List Nat),(jl s l).length<=kO l+l.length*s.length
 |[]=>by simp[jl]
 |[a]=>by simp[kO,jl]
 |a::b::r=>by
  have:=QC s (b::r)
  simp only[kO,cE,lj,jl,be,bS,u4,Nat.one_mul] at this ⊢;omega
theorem tK {ho:Option Int}{n:List Nat}{ws:Wt}{x:Wy}(h:x∈wl ws):(tT x).length<=(tG<|.nd ho n ws).length/\(tG x.2.2).length+x.1.length<(tT x).length+1:=by
 have h1:=Nu<|rq (f:=tT) h;have h2:=yC [44,32]<|(wl ws).map tT;rw[← wG] at h2;refine⟨by simp[tG];omega,by simp[tT];omega⟩
theorem zW {ho:Option Int}{n:List Nat}{ws:Wt}{f:Zl}(hl:(tG<|.nd ho n ws).length<=100000)(hz:(wl ws).length<=64)(h:∀x∈wl ws,f [.fz x.2.1,.fz<|dGt x.2.2]=.ok (.str<|tx<|tT x)):
  gK (qN 2<|dR (hName 0)<|dR (hName 1) qL) jD f [.un,.un] (dWt ws)=.ok ((wl ws).map λx=>.str<|tx<|tT x)/\jN (.str<|ae ", ") [.lst<|(wl ws).map λx=>.str<|tx<|tT x]=some (.str<|tx<|tW ws):=by
 rw[lK,QZ,wG];refine⟨yf h,?_⟩
 have:=Ef (s:=[44,32]) (l:=(wl ws).map tT) (by
  have h2:=yC [44,32]<|(wl ws).map tT;rw[← wG] at h2;simp[tG] at hl ⊢;omega)
 rw[p9] at this;exact this
theorem Ia {φ:Zf}{l2 l4:Zl}{n w:List Nat}{L P:List D}(hq:∀t,l2 (.fz (.tup [.str "deal",.str<|tx n,.tup L])::t)=.ok (.lst P))(hj:jN (.str<|ae ", ") [.lst P]=some (.str<|tx w))(hl:n.length+w.length<=200000):
  bF 2 1 (dm φ l2 l4) [.tup [.str "deal",.str<|tx n,.tup L]]=.ok (false,.str<|tx (hT none n++40::(w++[41]))):=by
 have n1:¬(ae "deal" = ae "end"):=by decide +kernel
 have a1:bL (.str<|ae "deal ") (.str<|tx n)=some (.str<|tx<|dlT++n):=by rw[Ju];exact cH (by simp;omega)
 have a2:bL (.str<|tx<|dlT++n) (.str<|ae "(")=some (.str<|tx<|dlT++n++[40]):=by rw[s_o];exact cH (by simp;omega)
 have a3:bL (.str<|tx<|dlT++n++[40]) (.str<|tx w)=some (.str<|tx<|dlT++n++[40]++w):=cH (by simp;omega);have a4:bL (.str<|tx<|dlT++n++[40]++w) (.str<|ae ")")=some (.str<|tx (hT none n++40::(w++[41]))):=by rw[s_c,cH (by simp;omega)];simp[hT]
 generalize tx (hT none n++40::(w++[41]))=r at *;generalize tx (dlT++n++[40]++w)=r1 at *;generalize tx (dlT++n++[40])=r2 at *;generalize tx (dlT++n)=r3 at *;generalize tx n=r4 at *;simp[bF,dm,aR,gIf,aN,aA,aj,fC,gIx,x30,x31,n1,gNx,cA,hq,bu,Me.let,Sl.let,jw,tyD,au,aF,hj,a1,a2,a3,a4]
theorem Jf {s:Int}(h:s=1\/s=2):uH [.int s]=some (.str<|tx<|sdS s):=by
 have e:sg s=sdS s:=by rcases h with rfl|rfl<;>decide +kernel
 rw[oJ (by rcases h with rfl|rfl<;>decide),e]
theorem Ie {φ:Zf}{l2 l4:Zl}{s:Int}{n w:List Nat}{L P:List D}(hs:s=1\/s=2)(hq:∀t,l4 (.fz (.tup [.str "move",.int s,.str<|tx n,.tup L])::t)=.ok (.lst P))(hj:jN (.str<|ae ", ") [.lst P]=some (.str<|tx w))(hl:n.length+w.length<=200000):
  bF 2 1 (dm φ l2 l4) [.tup [.str "move",.int s,.str<|tx n,.tup L]]=.ok (false,.str<|tx (hT (some s) n++40::(w++[41]))):=by
 have n1:¬(ae "move" = ae "end"):=by decide +kernel
 have n2:¬(ae "move" = ae "deal"):=by decide +kernel
 have es:=Jf hs;have ls:(sdS s).length=1:=by unfold sdS;split<;>rfl
 have a1:bL (.str<|ae "move ") (.str<|tx<|sdS s)=some (.str<|tx<|mvT++sdS s):=by rw[Kh];exact cH (by simp;omega)
 have a2:bL (.str<|tx<|mvT++sdS s) (.str<|ae " ")=some (.str<|tx<|mvT++sdS s++[32]):=by rw[JH];exact cH (by simp;omega)
 have a3:bL (.str<|tx<|mvT++sdS s++[32]) (.str<|tx n)=some (.str<|tx<|mvT++sdS s++[32]++n):=cH (by simp;omega);have a4:bL (.str<|tx<|mvT++sdS s++[32]++n) (.str<|ae "(")=some (.str<|tx<|mvT++sdS s++[32]++n++[40]):=by rw[s_o];exact cH (by simp;omega)
 have a5:bL (.str<|tx<|mvT++sdS s++[32]++n++[40]) (.str<|tx w)=some (.str<|tx<|mvT++sdS s++[32]++n++[40]++w):=cH (by simp;omega);have a6:bL (.str<|tx<|mvT++sdS s++[32]++n++[40]++w) (.str<|ae ")")=some (.str<|tx (hT (some s) n++40::(w++[41]))):=by rw[s_c,cH (by simp;omega)];simp[hT]
 generalize tx (hT (some s) n++40::(w++[41]))=r at *;generalize tx (mvT++sdS s++[32]++n++[40]++w)=r0 at *;generalize tx (mvT++sdS s++[32]++n++[40])=r1 at *;generalize tx (mvT++sdS s++[32]++n)=r2 at *;generalize tx (mvT++sdS s++[32])=r3 at *;generalize tx (mvT++sdS s)=r4 at *;generalize tx n=r5 at *;simp[bF,dm,aR,gIf,aN,aA,aj,fC,gIx,x40,x41,x42,n1,n2,gNx,cA,hq,bu,Me.let,Sl.let,jw,tyD,au,aF,aU,es,hj,a1,a2,a3,a4,a5,a6]
theorem yU {k:Nat}{ho:Option Int}{n:List Nat}{ws:Wt}(h:Gn (k+1) (.nd ho n ws)):(wl ws).length<=64:=by
 have:=h.2.2.1
 split at this<;>omega
theorem Dg:∀(k m:Nat) (g:Gt),Gn k g->k<m->(tG g).length<=100000->bN m [dGt g]=.ok (false,.str<|tx<|tG g)
 |_,0,_,_,h,_=>by omega
 |k,m+1,.fin c d,h,_,_=>by
  rw[jT] at h;have e:=Ke h;have lc:=h.len;have a1:bL (.str<|ae "end ") (.str<|tx c)=some (.str<|tx<|enT++c):=by rw[s_end];exact cH (by simp;omega)
  simp only[tG,dGt];generalize tx (enT++c)=r at *;generalize tx c=r1 at *;simp[bN,bF,dm,aR,gIf,aN,aA,aj,fC,gIx,ix0,ix1,bu,Me.let,Sl.let,fFn,au,aF,e,a1]
 |0,_,.nd _ _ _,h,_,_=>h.elim
 |k+1,m+1,.nd ho n ws,h,hm,hl=>by
  have h64:=yU h;obtain⟨hs,hn,_,hd,hx⟩:=h;have lw:n.length+(tW ws).length<=200000:=by have:=hn.hi;simp[tG] at hl;omega
  have ld:(dWt ws).length<=16777216:=by rw[lK];simp;omega
  have ih:∀x∈wl ws,bN m [dGt x.2.2]=.ok (false,.str<|tx<|tG x.2.2):=λx hx'=>by
   obtain⟨w1,w2⟩:=tK (ho:=ho) (n:=n) hx';exact Dg k m x.2.2 (hx x hx').2 (by omega)<|by omega
  cases ho with
  |none=>
   obtain⟨ec,ej⟩:=zW (f:=jW<|bN m) hl h64 λx hx'=>by
    obtain⟨w1,w2⟩:=tK (ho:=none) (n:=n) hx';have e1:=Ke (hx x hx').1;have e2:=ih x hx';have a1:bL (.str<|tx x.1) (.str<|ae " ")=some (.str<|tx<|x.1++[32]):=by rw[JH];exact cH (by simp;omega)
    have a2:bL (.str<|tx<|x.1++[32]) (.str<|tx<|tG x.2.2)=some (.str<|tx<|tT x):=by rw[cH (by simp;omega)];simp[tT]
    generalize tx (tT x)=r at *;generalize tx (x.1++[32])=r1 at *;generalize tx x.1=r2 at *;generalize tx (tG x.2.2)=r3 at *;generalize dGt x.2.2=r4 at *;generalize x.2.1=r5 at *;simp[jW,aA,fFn,au,aF,bH,fC,e1,e2,a1,a2]
   show bF 2 1 (dm bO (iH<|bN m)<|iy<|bN m) [.tup [.str "deal",.str<|tx n,.tup<|dWt ws]]=.ok (false,.str<|tx (hT none n++40::(tW ws++[41])));refine Ia (P:=_) (λt=>?_) ej lw;generalize dWt ws=L at *;generalize(wl ws).map (λx=>D.str<|tx<|tT x)=P at *;simp[iH,dU,mq,aA,aj,fC,gIx,x32,cMe,ld,ec]
  |some s=>
   obtain⟨ec,ej⟩:=zW (f:=jY<|bN m) hl h64 λx hx'=>by
    obtain⟨w1,w2⟩:=tK (ho:=some s) (n:=n) hx';have e1:=(hx x hx').1.2;have e2:=ih x hx';have a1:bL (.str<|tx x.1) (.str<|ae " ")=some (.str<|tx<|x.1++[32]):=by rw[JH];exact cH (by simp;omega)
    have a2:bL (.str<|tx<|x.1++[32]) (.str<|tx<|tG x.2.2)=some (.str<|tx<|tT x):=by rw[cH (by simp;omega)];simp[tT]
    rw[e1];generalize tx (tT x)=r at *;generalize tx (x.1++[32])=r1 at *;generalize tx x.1=r2 at *;generalize tx (tG x.2.2)=r3 at *;generalize dGt x.2.2=r4 at *;simp[jY,aA,fFn,au,aF,bH,aj,fC,e2,a1,a2]
   show bF 2 1 (dm bO (iH<|bN m)<|iy<|bN m) [.tup [.str "move",.int s,.str<|tx n,.tup<|dWt ws]]=.ok (false,.str<|tx (hT (some s) n++40::(tW ws++[41])));refine Ie (P:=_) (hs s rfl) (λt=>?_) ej lw;generalize dWt ws=L at *;generalize(wl ws).map (λx=>D.str<|tx<|tT x)=P at *;simp[iy,dU,mq,aA,aj,fC,gIx,x43,cMe,ld,ec]
open L2 (atI ixN Key)
theorem y3:∀a b c:D,atI [a,b,c] (-1)=some c:=λ_ _ _=>rfl
theorem y4:∀a b c d:D,atI [a,b,c,d] (-1)=some d:=λ_ _ _ _=>rfl
theorem wM {ho:Option Int}{n:List Nat}{L:List D}{t:Me}:aA gIx (aj 0) (fUn pU<|fC<|.int 1) (.fz (clD ho n L)::t)=.ok (.tup L):=by
 cases ho<;>simp[aA,aj,fUn,fC,pU,gIx,clD,hP,hN,y3,y4]
theorem zO {ho:Option Int}{n:List Nat}{L:List D}{t:Me}:mq (aA gIx (aj 0)<|fUn pU<|fC<|.int 1) (.fz (clD ho n L)::t)=.ok L:=by
 unfold mq;rw[wM];rfl
theorem uY {Φ:Zf}{G:Sl}:∀(l:List Wy) (s:Sl),(∀x∈l,Φ [dGt x.2.2]=.ok (false,.bl true))->∃s',gH (hName 1) (gP Φ) (l.map tD) [G,s]=.ok (.nx,[G,s'])
 |[],s,_=>⟨s,rfl⟩
 |x::l,s,h=>by
  obtain⟨s',e⟩:=uY (Φ:=Φ) (G:=G) l (.fz<|tD x) λy hy=>h y<|ah _ hy;have e1:=h x aE;refine⟨s',?_⟩;have eb:gP Φ [G,.fz<|tD x]=.ok (.nx,[G,.fz<|tD x]):=by
   have it:dD "tuple" (aj 1) [G,.fz<|.tup [x.2.1,dGt x.2.2]]=.ok (.bl true):=rfl;simp[gP,gIf,dF,cB,fTv,it,aN,aU,au,aF,aj,tD,dj,fC,fFn,aA,gIx,ix1,e1,gNx]
  show gH _ _ (tD x::l.map tD) _=_;unfold gH;have eh:hName 1 (tD x) [G,s]=some [G,.fz<|tD x]:=rfl;rw[eh];simp only[eb];exact e
theorem HQ {l_2:Zg}{ho:Option Int}{n:List Nat}{L:List D}{s':Sl}(h:l_2 [.fz<|clD ho n L,.un]=.ok (.nx,[.fz<|clD ho n L,s'])):bF 2 1 (gC l_2) [clD ho n L]=.ok (false,.bl true):=by
 have el:=wM (ho:=ho) (n:=n) (L:=L) (t:=[.un]);have t1:dD "tuple" (aj 0) [.fz<|clD ho n L,.un]=.ok (.bl true):=by cases ho<;>rfl
 have t2:dD "str" (aA gIx (aj 0)<|fC<|.int 0) [.fz<|clD ho n L,.un]=.ok (.bl true):=by cases ho<;>rfl
 have t3:dD "tuple" (aA gIx (aj 0)<|fUn pU<|fC<|.int 1) [.fz<|clD ho n L,.un]=.ok (.bl true):=by unfold dD;rw[el];rfl
 have t4:aN gLt (aU dj<|au (aj 0) aF) (fC<|.int 2) [.fz<|clD ho n L,.un]=.ok false:=by cases ho<;>rfl
 have n1:¬(ae "deal" = ae "end"):=by decide +kernel
 have n2:¬(ae "move" = ae "end"):=by decide +kernel
 have n3:¬(ae "deal" = ae "move"):=by decide +kernel
 have t5:aN gEq (aA gIx (aj 0)<|fC<|.int 0) (fC<|.str "end") [.fz<|clD ho n L,.un]=.ok false:=by cases ho<;>simp[aN,aA,gIx,aj,fC,clD,hN,hP,x30,x40,n1,n2]
 have t6:nO (aN gEq (aA gIx (aj 0)<|fC<|.int 0)<|fC<|.str "move") (fTv<|dD "bool" (aA gIx (aj 0)<|fC<|.int 1)) [.fz<|clD ho n L,.un]=.ok false:=by
  cases ho with
  |none=>simp[nO,aN,aA,gIx,aj,fC,clD,hN,hP,x30,n3]
  |some s=>
   show nO _ _ [.fz<|.tup [.str "move",.int s,.str<|tx n,.tup L],.un]=_
   have:dD "bool" (aA gIx (aj 0)<|fC<|.int 1) [.fz<|.tup [.str "move",.int s,.str<|tx n,.tup L],.un]=.ok (.bl false):=rfl
   simp[nO,fTv,this,aN,aA,gIx,aj,fC,x40]
 generalize clD ho n L=G at *;simp[bF,gC,aR,gIf,dF,cB,fTv,t1,t2,t3,t4,t5,t6,gNx,h,bu,Me.let,Sl.let,fC]
theorem Aa:∀(k m:Nat) (g:Gt),Gn k g->k<m->cR m [dGt g]=.ok (false,.bl true)
 |_,0,_,_,h=>by omega
 |k,m+1,.fin c d,h,_=>by
  rw[jT] at h;obtain⟨t,b,r,rfl,rfl⟩:=h;rfl
 |0,_,.nd _ _ _,h,_=>h.elim
 |k+1,m+1,.nd ho n ws,h,hm=>by
  obtain⟨s',e⟩:=uY (Φ:=cR m) (G:=.fz<|clD ho n<|dWt ws) (wl ws) .un λx hx=>Aa k m x.2.2 (h.2.2.2.2 x hx).2 (by omega);rw[← lK] at e;show bF 2 1 (gC<|ju<|cR m) [clD ho n<|dWt ws]=_;refine HQ (s':=s') ?_;unfold ju rK;rw[zO];exact e
theorem GC:∀{l:List D},(∀d∈l,okD d=true)->qW l=true
 |[],_=>by simp[qW]
 |d::l,h=>by simp[qW,h d aE,GC λd hd=>h d<|ah _ hd]
theorem zK {k:Nat}:∀{l:List D},(∀d∈l,j4 d<=k)->jG l<=k
 |[],_=>by simp[jG]
 |d::l,h=>by
  have h1:=h d aE;have h2:=zK λd hd=>h d<|ah _ hd;simp only[jG];omega
theorem Ur {c:List Nat}(h:∀x∈c,x<128):okD (.str<|tx c)=true:=by
 simp only[okD];exact KD h
theorem Nam.ok {c:List Nat}(h:Nam c):okD (.str<|tx c)=true:=Ur λx hx=>by have:=h.sg x hx;omega
theorem Ld.ok {ho:Option Int}{c:List Nat}{d:D}(h:Ld ho c d):okD d=true/\j4 d<=1:=by
 cases ho with
 |none=>
  obtain⟨t,b,_,_,rfl⟩:=h;exact⟨rfl,by simp[qD,j4,jG]⟩
 |some s=>
  rw[h.2];exact⟨h.1.ok,by simp[j4]⟩
theorem Fx:∀(k:Nat) (g:Gt),Gn k g->okD (dGt g)=true/\j4 (dGt g)<=3*k+2
 |k,.fin c d,h=>by
  rw[jT] at h;obtain⟨t,b,r,rfl,rfl⟩:=h;refine⟨?_,?_⟩
  ·simp only[dGt,okD,qW,qD,Bool.and_true];exact Nj
  ·simp[dGt,qD,j4,jG]
 |0,.nd _ _ _,h=>h.elim
 |k+1,.nd ho n ws,h=>by
  obtain⟨hs,hn,_,hd,hx⟩:=h;have ih:∀d∈(wl ws).map tD,okD d=true/\j4 d<=3*k+3:=λd hd'=>by
   obtain⟨x,hx',rfl⟩:=iv.mp hd';obtain⟨h1,h2⟩:=(hx x hx').1.ok;obtain⟨h3,h4⟩:=Fx k x.2.2 (hx x hx').2;refine⟨by simp[tD,okD,qW,h1,h3],?_⟩;simp only[tD,j4,jG];omega
  have k1:=GC λd hd=>(ih d hd).1;have k2:=zK λd hd=>(ih d hd).2;have o:=hn.ok;simp only[dGt];rw[lK];simp only[okD] at o;cases ho with
  |none=>
   refine⟨?_,?_⟩
   ·simp[clD,hN,hP,okD,qW,k1,o];exact Jc
   ·simp only[clD,hN,hP,cm,dk,j4,jG];omega
  |some s=>
   refine⟨?_,?_⟩
   ·simp[clD,hN,hP,okD,qW,k1,o];exact Jm
   ·simp only[clD,hN,hP,cm,dk,j4,jG];omega
open L2 (atI ixN Key)
inductive It where
 |t (c:List Nat)
 |g (x:Gt)
def itD:It->D
 | .t c=>.str<|tx c
 | .g x=>dGt x
def pl:List Nat->List Wy->List It
 |_,[]=>[]
 |b,x::r=>.t (b++x.1++[32])::.g x.2.2::pl [44,32] r
def χ:Gt->List It
 | .fin c _=>[.t<|enT++c]
 | .nd ho n ws=>pl (hT ho n++[40]) (wl ws)++[.t [41]]
theorem yH:∀(l:List Wy) (b:List Nat),(pl b l).length=2*l.length
 |[],_=>rfl
 |x::r,b=>by simp[pl,yH r];omega
theorem O3 {k:Nat}{g:Gt}(h:Gn k g):(χ g).length<=129:=by
 cases g with
 |fin c d=>simp[χ]
 |nd ho n ws=>
  cases k with
  |zero=>exact h.elim
  |succ k=>
   have:=yU h
   simp[χ,yH];omega
theorem Kf {ho:Option Int}{n:List Nat}(h:n.length<=8):(hT ho n).length<=15:=by
 cases ho with
 |none=>simp[hT];omega
 |some s=>
  have:(sdS s).length=1:=by unfold sdS;split<;>rfl
  simp[hT,this];omega
theorem Ez {c:List Nat}{d:D}(h:Fq c d):bU [d]=.ok (false,.str<|tx c):=by
 obtain⟨t,b,r,rfl,rfl⟩:=h;exact xJ r.ht r.hb r.h1
theorem Oz {ho:Option Int}{n:List Nat}{L:List D}(hs:∀s,ho=some s->s=1\/s=2)(hn:n.length<=8):fG [clD ho n L]=.ok (false,.str<|tx<|hT ho n++[40]):=by
 cases ho with
 |none=>
  have a1:bL (.str<|ae "deal ") (.str<|tx n)=some (.str<|tx<|dlT++n):=by rw[Ju];exact cH (by simp;omega)
  have a2:bL (.str<|tx<|dlT++n) (.str<|ae "(")=some (.str<|tx<|hT none n++[40]):=by rw[s_o,cH (by simp;omega)];rfl
  generalize tx (hT none n++[40])=r at *;generalize tx (dlT++n)=r1 at *;simp[fG,bF,oG,n8,aR,gIf,aN,aA,aj,fC,gIx,clD,hN,hP,x30,x31,bu,Me.let,Sl.let,a1,a2]
 |some s=>
  have n2:¬(ae "move" = ae "deal"):=by decide +kernel
  have es:=Jf<|hs s rfl;have ls:(sdS s).length=1:=by unfold sdS;split<;>rfl
  have a1:bL (.str<|ae "move ") (.str<|tx<|sdS s)=some (.str<|tx<|mvT++sdS s):=by rw[Kh];exact cH (by simp;omega)
  have a2:bL (.str<|tx<|mvT++sdS s) (.str<|ae " ")=some (.str<|tx<|mvT++sdS s++[32]):=by rw[JH];exact cH (by simp;omega)
  have a3:bL (.str<|tx<|mvT++sdS s++[32]) (.str<|tx n)=some (.str<|tx<|mvT++sdS s++[32]++n):=cH (by simp;omega);have a4:bL (.str<|tx<|mvT++sdS s++[32]++n) (.str<|ae "(")=some (.str<|tx<|hT (some s) n++[40]):=by rw[s_o,cH (by simp;omega)];simp[hT]
  generalize tx (hT (some s) n++[40])=r1 at *;generalize tx (mvT++sdS s++[32]++n)=r2 at *;generalize tx (mvT++sdS s++[32])=r3 at *;generalize tx (mvT++sdS s)=r4 at *;simp[fG,bF,oG,n8,aR,gIf,aN,aA,aj,fC,gIx,clD,hN,hP,x40,x41,x42,n2,gNx,bu,Me.let,Sl.let,aU,au,aF,es,a1,a2,a3,a4]
theorem Nx {ho:Option Int}{n c:List Nat}{L:List D}{d:D}(h:Ld ho c d):ik [clD ho n L,d]=.ok (false,.str<|tx c):=by
 cases ho with
 |none=>
  have e:=Ez h;simp[ik,bF,nQ,nU,bu,fIf,aN,aA,aj,fC,gIx,clD,hN,hP,x30,Me.let,Sl.let,fFn,au,aF,bH,e]
 |some s=>
  have n2:¬(ae "move" = ae "deal"):=by decide +kernel
  have e:=h.2;subst e;simp[ik,bF,nQ,nU,bu,fIf,aN,aA,aj,fC,gIx,clD,hN,hP,x40,Me.let,Sl.let,bH,n2]
theorem CW {G d y:D}{A:List D}{b c:List Nat}(h:ik [G,d]=.ok (false,.str<|tx c))(hb:b.length<=100)(hc:c.length<=100)(hA:A.length<=1000):
  iz [.fz G,.ow<|.lst A,.fz<|.str<|tx b,.fz d,.fz y]=.ok (.nx,[.fz G,.ow<|.lst<|A++[.str<|tx<|b++c++[32],y],.fz<|.str<|tx [44,32],.fz d,.fz y]):=by
 have a1:bL (.str<|tx b) (.str<|tx c)=some (.str<|tx<|b++c):=cH (by omega);have a2:bL (.str<|tx<|b++c) (.str<|ae " ")=some (.str<|tx<|b++c++[32]):=by rw[JH];exact cH (by simp;omega)
 have h1:A.length<16777216:=by omega
 have h2:A.length+1<16777216:=by omega
 have sc:=QZ;generalize tx (b++c++[32])=r1 at *;generalize tx (b++c)=r2 at *;generalize tx [44,32]=r3 at *;generalize tx c=r4 at *;simp[iz,aR,eE,jC,putL,aA,aj,fFn,au,aF,bH,h,fC,a1,a2,h1,h2,cA,sc]
theorem uZ {ho:Option Int}{n:List Nat}{L:List D}:∀(l:List Wy) (A:List It) (b:List Nat) (s3 s4:Sl),(∀x∈l,Ld ho x.1 x.2.1)->b.length<=100->A.length+2*l.length<=1000->
  ∃b' s3' s4',gH (qN 2<|dR (hName 3)<|dR (hName 4) qL) iz (l.map tD) [.fz<|clD ho n L,.ow<|.lst<|A.map itD,.fz<|.str<|tx b,s3,s4]=.ok (.nx,[.fz<|clD ho n L,.ow<|.lst<|(A++pl b l).map itD,.fz<|.str b',s3',s4'])
 |[],A,b,s3,s4,_,_,_=>⟨tx b,s3,s4,by simp[pl,gH]⟩
 |x::l,A,b,s3,s4,h,hb,hA=>by
  have e1:=Nx (n:=n) (L:=L)<|h x aE;have lc:=(h x aE).len;simp only[bS] at hA;have es:=CW (y:=dGt x.2.2) (A:=A.map itD) e1 hb (by omega) (by simp;omega);obtain⟨b',s3',s4',e⟩:=uZ l (A++[.t<|b++x.1++[32],.g x.2.2]) [44,32] (.fz x.2.1) (.fz<|dGt x.2.2) (λy hy=>h y<|ah _ hy) (by decide) (by simp;omega);refine⟨b',s3',s4',?_⟩;have e2:(A++[It.t<|b++x.1++[32],It.g x.2.2]).map itD=A.map itD++[.str<|tx<|b++x.1++[32],dGt x.2.2]:=by simp[itD]
  have e3:A++[It.t<|b++x.1++[32],It.g x.2.2]++pl [44,32] l=A++pl b (x::l):=by simp[pl]
  rw[e2,e3] at e;have eh:qN 2 (dR (hName 3)<|dR (hName 4) qL) (tD x) [.fz<|clD ho n L,.ow<|.lst<|A.map itD,.fz<|.str<|tx b,s3,s4]=some [.fz<|clD ho n L,.ow<|.lst<|A.map itD,.fz<|.str<|tx b,.fz x.2.1,.fz<|dGt x.2.2]:=rfl;show gH _ _ (tD x::l.map tD) _=_;unfold gH;rw[eh];simp only[es];exact e
theorem Cy {l_2:Zg}{ho:Option Int}{n:List Nat}{L A:List D}{h b':Str}{s3 s4:Sl}(hh:fG [clD ho n L]=.ok (false,.str h))(hA:A.length<=1000)
  (hl:l_2 [.fz<|clD ho n L,.ow<|.lst [],.fz<|.str h,.un,.un]=.ok (.nx,[.fz<|clD ho n L,.ow<|.lst A,.fz<|.str b',s3,s4])):bF 5 1 (gw bU fG l_2) [clD ho n L]=.ok (true,.lst<|A++[.str<|tx [41]]):=by
 have n1:¬(ae "deal" = ae "end"):=by decide +kernel
 have n2:¬(ae "move" = ae "end"):=by decide +kernel
 have t5:∀t,aN gEq (aA gIx (aj 0)<|fC<|.int 0) (fC<|.str "end") (.fz (clD ho n L)::t)=.ok false:=λt=>by cases ho<;>simp[aN,aA,gIx,aj,fC,clD,hN,hP,x30,x40,n1,n2]
 have h1:A.length<16777216:=by omega
 have sc:=s_c;generalize tx [41]=r at *;generalize clD ho n L=G at *;simp[bF,gw,aR,gIf,t5,gNx,sJ,pK,aF,cA,fFn,au,bH,hh,hl,eE,jC,putL,fC,h1,qi,sc]
theorem Hj {k:Nat}{g:Gt}(h:Gn k g):iJ [dGt g]=.ok (true,.lst<|(χ g).map itD):=by
 cases g with
 |fin c d=>
  rw[jT] at h;have e:=Ez h;have lc:=h.len;have a1:bL (.str<|ae "end ") (.str<|tx c)=some (.str<|tx<|enT++c):=by rw[s_end];exact cH (by simp;omega)
  simp only[dGt,χ,cE,pe,itD];generalize tx (enT++c)=r at *;generalize tx c=r1 at *;simp[iJ,bF,mQ,gw,aR,gIf,aN,aA,aj,fC,gIx,ix0,ix1,Ls,Me.let,Sl.let,pK,fFn,au,aF,e,a1]
 |nd ho n ws=>
  cases k with
  |zero=>exact h.elim
  |succ k=>
   have h64:=yU h;obtain⟨hs,hn,_,hd,hx⟩:=h;have hh:=Oz (L:=dWt ws) hs hn.hi;have lh:=Kf (ho:=ho) hn.hi;obtain⟨b',s3,s4,e⟩:=uZ (n:=n) (L:=dWt ws) (wl ws) [] (hT ho n++[40]) .un .un (λx hx'=>(hx x hx').1) (by simp;omega) (by simp;omega);rw[← lK] at e;simp only[dk,pe] at e;have r:=Cy (l_2:=iB) (A:=(pl (hT ho n++[40])<|wl ws).map itD) hh (by simp[yH];omega) (by
    unfold iB rK;rw[zO];exact e)
   show bF 5 1 (gw bU fG iB) [clD ho n<|dWt ws]=_;rw[r];simp[χ,itD]
def sD (c:List Nat):D:=.str<|tx c
def Shw (a:Sl)(st:List It)(ps:List (List Nat)):Prop:=∀(dn:List (List Nat)) (s3:Sl),dn.length+ps.length<=1000000->∃n s3',wh jn kI n [a,.ow<|.lst<|dn.map sD,.ow<|.lst<|(st.map itD).reverse,s3]=some (.ok (.nx,[a,.ow<|.lst<|(dn++ps).map sD,.ow<|.lst [],s3']))
theorem Mx {a:Sl}:Shw a [] []:=λdn s3 _=>⟨1,s3,by
 refine(Eo ?_).trans (by simp);simp[jn,aN,aU,au,aF,aj,dj,fC,gGt]⟩
theorem Ey {a b s3:Sl}{x:It}{st:List It}:jn [a,b,.ow<|.lst<|((x::st).map itD).reverse,s3]=.ok true:=by
 simp[jn,aN,aU,au,aF,aj,dj,fC,gGt]
theorem FQ {a b s3:Sl}{x:It}{st:List It}:gQ 3 2 [a,b,.ow<|.lst<|((x::st).map itD).reverse,s3]=.ok (.nx,[a,b,.ow<|.lst<|(st.map itD).reverse,.fz<|itD x]):=by
 have l1:((st.map itD).reverse++[itD x]).length-1=(st.map itD).reverse.length:=by simp
 have g1:((st.map itD).reverse++[itD x])[((st.map itD).reverse++[itD x]).length-1]? = some (itD x):=by rw[l1];simp
 have e:((x::st).map itD).reverse=(st.map itD).reverse++[itD x]:=by simp
 rw[e];generalize(st.map itD).reverse=A at *;simp only[gQ,jC,hV,List.getElem?_cons_zero,ofO,Res.bind,g1,putL,qr,List.set_cons_succ,List.set_cons_zero,if_true]
theorem K9 {a:Sl}{st:List It}{ps:List (List Nat)}{c:List Nat}(h:Shw a st ps):Shw a (.t c::st) (c::ps):=λdn s3 hl=>by
 simp only[bS] at hl;obtain⟨n,s3',e⟩:=h (dn++[c]) (.fz<|sD c) (by simp;omega);refine⟨n+1,s3',xZ Ey (m':=[a,.ow<|.lst<|(dn++[c]).map sD,.ow<|.lst<|(st.map itD).reverse,.fz<|sD c]) ?_ (by rw[e];simp)⟩;have p:=FQ (a:=a) (b:=.ow<|.lst<|dn.map sD) (s3:=s3) (x:=.t c) (st:=st);have hz:(dn.map sD).length<16777216:=by simp;omega
 have ed:(dn++[c]).map sD=dn.map sD++[sD c]:=by simp
 have it:∀a b d,dD "str" (aj 3) [a,b,d,.fz<|itD<|.t c]=.ok (.bl true):=λ_ _ _=>rfl;have ec:itD (.t c)=sD c:=rfl;rw[ec] at p it;rw[ed];generalize dn.map sD=Z at *;generalize((It.t c::st).map itD).reverse=Y at *;generalize(st.map itD).reverse=Y' at *;generalize sD c=z at *;simp[kI,aR,p,gIf,fTv,it,eE,jC,putL,bH,hz]
theorem QF {a:Sl}{st:List It}{ps:List (List Nat)}{k:Nat}{g:Gt}(hg:Gn k g)(hs:st.length<=1000000)(h:Shw a (χ g++st) ps):Shw a (.g g::st) ps:=λdn s3 hl=>by
 obtain⟨n,s3',e⟩:=h dn (.fz<|dGt g) hl;refine⟨n+1,s3',xZ Ey (m':=[a,.ow<|.lst<|dn.map sD,.ow<|.lst<|((χ g++st).map itD).reverse,.fz<|dGt g]) ?_ e⟩;have p:=FQ (a:=a) (b:=.ow<|.lst<|dn.map sD) (s3:=s3) (x:=.g g) (st:=st);have e1:=Hj hg;have ln:=O3 hg;have it:∀a b d,dD "str" (aj 3) [a,b,d,.fz<|dGt g]=.ok (.bl false):=λ_ _ _=>by
  cases g with
  |fin _ _=>rfl
  |nd ho _ _=>cases ho<;>rfl
 have ec:itD (.g g)=dGt g:=rfl;have er:((χ g++st).map itD).reverse=(st.map itD).reverse++((χ g).map itD).reverse:=by simp
 have lz:(st.map itD).reverse.length+((χ g).map itD).reverse.length<=16777216:=by simp;omega
 have gl:Jg [.lst<|(χ g).map itD]=some (.lst ((χ g).map itD).reverse):=rfl;rw[ec] at p;rw[er];generalize dn.map sD=Z at *;generalize((It.g g::st).map itD).reverse=Y at *;generalize(st.map itD).reverse=Y' at *;generalize((χ g).map itD).reverse=W' at *;generalize(χ g).map itD=W at *;generalize dGt g=z at *;simp[kI,aR,p,gIf,fTv,it,yR,jC,putL,bH,aU,au,aF,fFn,e1,gl,lz]
def pt:List Nat->List Wy->List Nat
 |_,[]=>[]
 |b,x::r=>b++(x.1++32::(tG x.2.2++pt [44,32] r))
theorem QT:∀(r:List Wy) (x:Wy) (b:List Nat),pt b (x::r)=b++jl [44,32] ((x::r).map tT)
 |[],x,b=>by simp[pt,jl,tT]
 |y::r,x,b=>by
  have ih:=QT r y [44,32];simp only[cE] at ih ⊢;simp only[jl];show b++(x.1++32::(tG x.2.2++pt [44,32] (y::r)))=_;rw[ih];simp[tT]
theorem yV {a:Sl}{k:Nat}(ih:∀(g:Gt) (st:List It) (ps:List (List Nat)),Gn k g->st.length+130*k<=900000->Shw a st ps->∃qs:List (List Nat),qs.flatten=tG g/\(∀q∈qs,q≠[])/\Shw a (.g g::st) (qs++ps)):
  ∀(l:List Wy) (b:List Nat) (st:List It) (ps:List (List Nat)),(∀x∈l,Gn k x.2.2)->st.length+2*l.length+130*k<=900000->Shw a st ps->∃qs:List (List Nat),qs.flatten=pt b l/\(∀q∈qs,q≠[])/\Shw a (pl b l++st) (qs++ps)
 |[],b,st,ps,_,_,h=>⟨[],rfl,(λ_ z=>(nomatch z)),h⟩
 |x::l,b,st,ps,hx,hl,h=>by
  simp only[bS] at hl;obtain⟨q1,f1,n1,h1⟩:=yV ih l [44,32] st ps (λy hy=>hx y<|ah _ hy) (by omega) h;obtain⟨q2,f2,n2,h2⟩:=ih x.2.2 (pl [44,32] l++st) (q1++ps) (hx x aE) (by simp[yH];omega) h1;refine⟨(b++x.1++[32])::(q2++q1),?_,?_,?_⟩
  ·simp[f1,f2,pt]
  ·intro q hq;rcases bo.mp hq with rfl|hq
   ·simp
   ·rcases eB.mp hq with w|w
    ·exact n2 q w
    ·exact n1 q w
  ·have:=K9 (c:=b++x.1++[32]) h2
   simpa[pl] using this
theorem Ak {a:Sl}:∀(k:Nat) (g:Gt) (st:List It) (ps:List (List Nat)),Gn k g->st.length+130*k<=900000->Shw a st ps->∃qs:List (List Nat),qs.flatten=tG g/\(∀q∈qs,q≠[])/\Shw a (.g g::st) (qs++ps)
 |k,.fin c d,st,ps,hg,hl,h=>by
  refine⟨[enT++c],by simp[tG],λq hq=>by rw[ck.mp hq];simp,?_⟩;exact QF hg (by omega)<|K9 h
 |0,.nd _ _ _,_,_,hg,_,_=>hg.elim
 |k+1,.nd ho n ws,st,ps,hg,hl,h=>by
  have h64:=yU hg;have h1:Shw a (.t [41]::st) ([41]::ps):=K9 h;obtain⟨qs,f,nz,h2⟩:=yV (k:=k) (Ak k) (wl ws) (hT ho n++[40]) (.t [41]::st) ([41]::ps) (λx hx=>(hg.2.2.2.2 x hx).2) (by simp;omega) h1;refine⟨qs++[[41]],?_,?_,?_⟩
  ·have ew:pt (hT ho n++[40]) (wl ws)=(hT ho n++[40])++tW ws:=by
    rw[wG];cases e:wl ws with
    |nil=>exact absurd e (Ec ws)
    |cons x r=>rw[QT]
   simp[f,ew,tG]
  ·intro q hq;rcases eB.mp hq with w|w
   ·exact nz q w
   ·rw[ck.mp w];simp
  ·refine QF hg (by omega) ?_;have e1:χ (.nd ho n ws)++st=pl (hT ho n++[40]) (wl ws)++(.t [41]::st):=by simp[χ]
   have e2:(qs++[[41]])++ps=qs++([41]::ps):=by simp
   rw[e1,e2];exact h2
theorem zF:∀qs:List (List Nat),(∀q∈qs,q≠[])->qs.length<=qs.flatten.length
 |[],_=>aI _
 |q::qs,h=>by
  have l0:=zF qs λy hy=>h y<|ah _ hy;have h0:=h q aE
  have:1<=q.length:=by cases q with|nil=>exact absurd rfl h0|cons _ _=>simp
  rw[List.flatten_cons,be,bS];omega
theorem Jd:∀qs:List (List Nat),jl [] qs=qs.flatten
 |[]=>rfl
 |[q]=>by simp[jl]
 |q::r::qs=>by have:=Jd (r::qs);simp only[jl,this];simp
theorem wK:∀qs:List (List Nat),kO qs=qs.flatten.length
 |[]=>rfl
 |q::qs=>by have:=wK qs;simp only[kO,cE,lj,List.flatten_cons,be] at this ⊢;omega
theorem Ib {l_3:Zg}{G:D}{P:List D}{s3:Sl}{r:Str}(h:l_3 [.fz G,.ow<|.lst [],.ow<|.lst [G],.un]=.ok (.nx,[.fz G,.ow<|.lst P,.ow<|.lst [],s3]))(hj:jN (.str<|ae "") [.lst P]=some (.str r)):bF 4 1 (uc l_3) [G]=.ok (false,.str r):=by
 simp[bF,uc,aR,sJ,pK,aF,au,bH,h,bu,Me.let,Sl.let,jw,tyD,fC,aj,hj]
theorem KJ {k:Nat}{g:Gt}(hg:Gn k g)(hk:k<=100)(hl:(tG g).length<=100000):tM [dGt g]=.ok (false,.str<|tx<|tG g):=by
 obtain⟨qs,f,nz,h⟩:=Ak (a:=.fz<|dGt g) k g [] [] hg (by simp;omega) Mx;have l1:=zF qs nz;rw[f] at l1;rw[dA] at h;obtain⟨n,s3',e⟩:=h [] .un (by simp;omega);have ew:=wj n e;refine Ib (P:=qs.map sD) (s3:=s3') ?_ ?_
 ·show jU jn kI _=_;simpa[itD] using ew
 ·have:=Ef (s:=[]) (l:=qs) (by rw[wK,f];simp;omega)
  rw[Jd,f] at this;rw[R6];exact this
open L2 (atI ixN Key)
def Sx (x:Int):Prop:=0<=x/\x<1000003
theorem Us {α:Type}(xs:List α):(cut xs none<|some 24).length<=24/\(cut xs none<|some 24).length<=xs.length:=by
 unfold cut HT.sIx;simp only[List.drop_zero,Nat.sub_zero,kU];rw[if_neg<|by decide];omega
theorem JX {ns xs:List Int}{j c:Int}(h0:0<=j)(h1:j<=24)(ec:atI (ns.map D.int) j=some (.int c))(hz:xs.length<=24):
  dB [.fz<|.lst<|ns.map D.int,.ow<|.lst<|xs.map D.int,.fz<|.int j] =
  .ok (.nx,[.fz<|.lst<|ns.map D.int,.ow<|.lst<|(xs++[(c%1000000007+43*j*j+17*j+4)*40014%1000003]).map D.int,.fz<|.int j]):=by
 have e:43*j*j=43*(j*j):=Int.mul_assoc _ _ _;have h2:j*j<=24*24:=Int.mul_le_mul h1 h1 h0 (by decide);have h3:0<=j*j:=Int.mul_nonneg h0 h0;have hm:=ku c (show(1000000007:Int)≠0 by decide);have hm2:=h9 c (show(0:Int)<1000000007 by decide);have b1:Bg 43:=cL (by decide) (by decide);have b2:Bg j:=cL (by omega) (by omega);have b3:Bg (43*j):=cL (by omega) (by omega);have b4:Bg 17:=cL (by decide) (by decide);have b5:Bg (c%1000000007+43*j*j+17*j+4):=cL (by omega) (by omega);have b6:Bg 40014:=cL (by decide) (by decide);have hz':xs.length<16777216:=by omega
 simp[dB,eE,jC,aA,aj,fC,gIx,ec,cX,mdI,lR,bL,b1,b2,b3,b4,b5,b6,hz',putL]
theorem HS {G:Zg}{a:D}{ds':List D}{s2:Sl}(e1:G [.fz a,.ow<|.lst [],.un]=.ok (.nx,[.fz a,.ow<|.lst ds',s2])):bF 3 1 (aR (sJ 1<|pK aF)<|aR G<|qi 1) [a]=.ok (true,.lst ds'):=by
 simp[bF,aR,sJ,pK,aF,e1,qi]
theorem Bj (ns:List Int):∃xs:List Int,gJ [.lst<|ns.map D.int]=.ok (true,.lst<|xs.map D.int)/\∀x∈xs,Sx x:=by
 obtain⟨c1,c2⟩:=Us<|ns.map D.int;rw[dQ] at c2;generalize hn:(cut (ns.map D.int) none<|some 24).length=n at c1 c2;have h1:(-4611686018427387904:Int)<=(n:Int):=by omega
 have h2:(n:Int)<4611686018427387904:=by omega
 have step:∀(j:Nat) (d:D) (m:Me),((eJ n).map λ(i:Nat)=>D.int i)[j]? = some d->(∃(xs:List Int) (s2:Sl),m=[.fz<|.lst<|ns.map D.int,.ow<|.lst<|xs.map D.int,s2]/\xs.length=0+j/\∀x∈xs,Sx x)->
   ∃m1 m2,hName 2 d m=some m1/\dB m1=.ok (.nx,m2)/\
    ∃(xs:List Int) (s2:Sl),m2=[.fz<|.lst<|ns.map D.int,.ow<|.lst<|xs.map D.int,s2]/\xs.length=0+j+1/\∀x∈xs,Sx x:=by
  rintro j d m hj ⟨xs,s2,rfl,hl,hx⟩;obtain⟨hj',rfl⟩:=z9 hj;obtain⟨c,_,ec⟩:=Q3 (ns:=ns) (k:=(j:Int)) (by omega) (by omega);refine⟨_,_,rfl,JX (by omega) (by omega) ec (by omega),_,_,rfl,by rw[be,gc,hl],λx hx'=>?_⟩;rcases eB.mp hx' with w|w
  ·exact hx x w
  ·rw[ck.mp w];exact⟨ku _ (by decide),h9 _<|by decide⟩
 obtain⟨m',e,xs,s2,rfl,hl,hx⟩:=uA (λi m=>∃(xs:List Int) (s2:Sl),m=[.fz<|.lst<|ns.map D.int,.ow<|.lst<|xs.map D.int,s2]/\xs.length=i/\∀x∈xs,Sx x) _ 0 _ ⟨[],.un,rfl,rfl,λ_ z=>nomatch z⟩ step;refine⟨xs,?_,hx⟩;simp only[pe] at e;have e0:=Ql (f:=au (aU dj<|au (fSl (aj 0) fO0<|fO1<|fC<|.int 24) aF) aF) (m:=[.fz<|.lst<|ns.map D.int,.ow<|.lst [],.un]) (j:=n) (by simp[au,aU,aF,fSl,aj,fO0,fO1,fC,gSl,dj,hn]) (by omega) (by omega);rw[Int.toNat_natCast] at e0;have e1:rK (o5<|au (aU dj<|au (fSl (aj 0) fO0<|fO1<|fC<|.int 24) aF) aF) (hName 2) dB [.fz<|.lst<|ns.map D.int,.ow<|.lst [],.un]=.ok (.nx,[.fz<|.lst<|ns.map D.int,.ow<|.lst<|xs.map D.int,s2]):=by
  unfold rK;rw[e0];exact e
 show bF 3 1 (gG gZ) _=_;unfold gG gZ;exact HS e1
theorem dW {i:Int}(h1:-1000000000000000000000000000000<=i)(h2:i<=1000000000000000000000000000000):Bq i:=Qo (k:=100)<|by omega
theorem Jo:(ae "abcdefghijklmnopqrstuvwxyz0123456789").cps.toList.length=36:=by decide +kernel
def NS (c:Nat):Prop:=97<=c/\c<=122\/48<=c/\c<=57
instance (c:Nat):Decidable (NS c):=by unfold NS;infer_instance
theorem O5:∀c∈(ae "abcdefghijklmnopqrstuvwxyz0123456789").cps.toList,NS c:=by decide +kernel
theorem five {i:Int}(h0:0<=i)(h1:i<5):∃c,atI [D.str "end",.str "deal",.str "move",.str "1",.str "2"] i=some (.str<|tx c)/\Nam c:=by
 have a1:ae "end" = tx [101,110,100]:=by decide +kernel
 have a2:ae "deal" = tx [100,101,97,108]:=by decide +kernel
 have a3:ae "move" = tx [109,111,118,101]:=by decide +kernel
 have a4:ae "1" = tx [49]:=by decide +kernel
 have a5:ae "2" = tx [50]:=by decide +kernel
 have c:i=0\/i=1\/i=2\/i=3\/i=4:=by omega
 rcases c with rfl|rfl|rfl|rfl|rfl
 ·exact⟨_,congrArg (λz=>some<|D.str z) a1,by decide,by decide,by decide⟩
 ·exact⟨_,congrArg (λz=>some<|D.str z) a2,by decide,by decide,by decide⟩
 ·exact⟨_,congrArg (λz=>some<|D.str z) a3,by decide,by decide,by decide⟩
 ·exact⟨_,congrArg (λz=>some<|D.str z) a4,by decide,by decide,by decide⟩
 ·exact⟨_,congrArg (λz=>some<|D.str z) a5,by decide,by decide,by decide⟩
theorem qz {x:Int}(h0:0<=x)(h1:x<10000000):∃c,dG [.int x]=.ok (false,.str<|tx c)/\Nam c:=by
 have b11:Bq 11:=dW (by decide) (by decide);by_cases c5:x%11=5
 ·obtain⟨c,e,hc⟩:=five (i:=x/11%5) (by omega) (by omega);refine⟨c,?_,hc⟩;generalize tx c=r at *;simp[dG,bF,jE,jF,aR,cA,fC,gIf,aN,aA,aj,cX,mdI,c5,bu,Me.let,Sl.let,pK,au,aF,cZ,dvI,b11,gIx,e]
 have hm:=ku x (show(8:Int)≠0 by decide);have hm2:=h9 x (show(0:Int)<8 by decide);have hr:(-4611686018427387904:Int)<=1+x%8:=by omega
 have hr2:1+x%8<4611686018427387904:=by omega
 obtain⟨ys,e,hl,hy⟩:=yI (h:=hName 0) (ft:=jD) (fe:=jR)
  (m0:=[.un,.fz<|.str "abcdefghijklmnopqrstuvwxyz0123456789",.fz<|.int x]) (One NS) ((eJ (1+x%8).toNat).map λ(i:Nat)=>D.int i) (by
   intro d hd;obtain⟨j,hj,rfl⟩:=iv.mp hd;have hj':j<(1+x%8).toNat:=qA.mp hj;have hjj:(j:Int)*j<=8*8:=Int.mul_le_mul (by omega) (by omega) (by omega) (by decide);have hjj0:(0:Int)<=j*j:=Int.mul_nonneg (by omega) (by omega);have b1:Bq ((j:Int)+1):=dW (by omega) (by omega);have b2:Bg (j:Int):=cL (by omega) (by omega);have b3:Bg ((j:Int)*j):=cL (by omega) (by omega);have b4:Bg 5:=cL (by decide) (by decide);have n1:¬((j:Int)+1=0):=by omega
   obtain⟨y,ey,oy⟩:=OD (z:="abcdefghijklmnopqrstuvwxyz0123456789") (i:=(dvI x (j+1)+j*j*5)%36) (P:=NS) (by decide +kernel) O5 (ku _<|by decide) (by rw[Jo];exact h9 _<|by decide);refine⟨_,y,rfl,rfl,?_,oy⟩;simp[jR,aA,aj,fC,cX,mdI,bL,cZ,lR,b1,b2,b3,b4,n1,ey])
 have hl':ys.length<=16777216:=by rw[hl];simp;omega
 have hl2:ys.length=(1+x%8).toNat:=by rw[hl];simp
 obtain⟨cs,ej,lc,hc⟩:=join_ones hy hl';refine⟨cs,?_,by omega,by omega,hc⟩;have hz:(1+x%8).toNat<=16777216:=by omega
 show _=Res.ok (false,D.str ⟨cs.toArray⟩);simp[dG,bF,jE,jF,o7,aR,cA,fC,gIf,aN,c5,gNx,bu,Me.let,Sl.let,jw,tyD,au,aF,dU,o5,aA,aj,bL,cX,mdI,hr,hr2,hz,cMe,Sl.bor,e,ej]
theorem gcd_one (a:Int):gI a 1=1:=by unfold gI;simp
theorem Pa {a:Int}(h:a%2=1):gI a 2=1:=by
 have h1:=sZ a 2;have h2:=nJ a 2;have h3:=ug (a:=a) (b:=2) (by decide);have h4:=Int.le_of_dvd (by decide) h2;by_cases z:gI a 2=2
 ·rw[z] at h1;omega
 ·omega
theorem HH {a:Int}(h:¬a%3=0):gI a 3=1:=by
 have h1:=sZ a 3;have h2:=nJ a 3;have h3:=ug (a:=a) (b:=3) (by decide);have h4:=Int.le_of_dvd (by decide) h2;by_cases z:gI a 3=3
 ·rw[z] at h1;omega
 ·by_cases y:gI a 3=2
  ·rw[y] at h2;omega
  ·omega
theorem wB {t b:Int}(h:t.natAbs<10^30)(hb:1<=b)(hb2:b<=100)(hg:gI t b=1):Fq (sh t b) (qD (t,b)):=⟨t,b,⟨h,by omega,hb,hg⟩,rfl,rfl⟩
theorem rF {x:Int}(h0:0<=x)(h1:x<10000000):∃c d,cQ [.int x]=.ok (false,d)/\Fq c d:=by
 have b5:Bq 5:=dW (by decide) (by decide);have b6:Bg 6:=cL (by decide) (by decide);have b2:Bg 2:=cL (by decide) (by decide);by_cases c1:x%5=4
 ·refine⟨_,_,?_,wB (t:=0-10^12-x) (b:=1) (by omega) (by decide) (by decide)<|gcd_one _⟩;simp[cQ,bF,fO,fB,aR,gIf,aN,aA,aj,fC,cX,mdI,c1,bu,Me.let,Sl.let,gR,au,aF,F.qO,Tw,qD]
 ·by_cases c2:x%5=3
  ·have b1:Bg (x/5%30):=cL (by omega) (by omega);refine⟨_,_,?_,wB (t:=6*(x/5%30)-89) (b:=3) (by omega) (by decide) (by decide)<|HH<|by omega⟩;simp[cQ,bF,fO,fB,aR,gIf,aN,aA,aj,fC,cX,mdI,c1,c2,bu,Me.let,Sl.let,gR,au,aF,F.qO,lR,cZ,dvI,b5,b1,b6,qD,gNx]
  ·by_cases c3:x%5=2
   ·have b1:Bg (x/5%9):=cL (by omega) (by omega);refine⟨_,_,?_,wB (t:=2*(x/5%9)-7) (b:=2) (by omega) (by decide) (by decide)<|Pa<|by omega⟩;simp[cQ,bF,fO,fB,aR,gIf,aN,aA,aj,fC,cX,mdI,c1,c2,c3,bu,Me.let,Sl.let,gR,au,aF,F.qO,lR,cZ,dvI,b5,b1,b2,qD,gNx]
   ·refine⟨_,_,?_,wB (t:=x/5%9-4) (b:=1) (by omega) (by decide) (by decide)<|gcd_one _⟩;simp[cQ,bF,fO,fB,aR,gIf,aN,aA,aj,fC,cX,mdI,c1,c2,c3,bu,Me.let,Sl.let,gR,au,aF,F.qO,cZ,dvI,b5,qD,gNx]
theorem yu (z:List Nat)(zs:List (List Nat)):gIn (.str<|tx z) (.lst<|zs.map sD)=some (decide<|z∈zs):=by
 have f:(zs.map sD).all flat=true:=by simp[flat,sD]
 have e:L2.inV (vOf<|.str<|tx z) ((zs.map sD).map vOf)=decide (z∈zs):=by
  induction zs with
  |nil=>rfl
  |cons a zs ih=>
   have ih':=ih (by simp[flat,sD]);have e2:L2.eqV (.str<|tx a) (.str<|tx z)=decide (a=z):=by
    show(tx a==tx z)=_;by_cases h:a=z
    ·simp[h]
    ·have h':¬tx a=tx z:=λy=>h<|yJ.mp y;simp[h,h']
   simp only[L2.inV,cE,vOf,sD,sA] at ih' ⊢;rw[e2,ih'];by_cases h:a=z
   ·simp[h]
   ·have h':¬z=a:=λy=>h y.symm;simp[h,h']
 show inD _ _=_;unfold inD;rw[if_pos ⟨rfl,f⟩,e]
theorem vo (z:List Nat)(zs:List (List Nat)):xN (.str<|tx z) (.lst<|zs.map sD)=some (!decide (z∈zs)):=by unfold xN;rw[yu];rfl
theorem Wl:∀j:Nat,j<6->sg ((j:Nat):Int)=[48+j]:=by decide +kernel
def Wd (zs:List (List Nat)):Prop:=zs.Nodup/\∀z∈zs,Nam z
theorem Lq {zs:List (List Nat)}{z:List Nat}(h:Wd zs)(hz:Nam z)(hn:z∉zs):Wd (zs++[z]):=by
 refine⟨List.nodup_append.mpr ⟨h.1,by simp,λa ha b hb=>?_⟩,λy hy=>?_⟩
 ·rw[ck.mp hb];exact λe=>hn<|e▸ha
 ·rcases eB.mp hy with w|w
  ·exact h.2 y w
  ·rw[ck.mp w];exact hz
theorem ai (i j:Int):F.bL (.int i) (.int j)=some (.int<|i+j):=rfl
theorem Ce {x many:Int}{j:Nat}{zs:List (List Nat)}{s4:Sl}(h0:0<=x)(h1:x<1000003)(hj:j<6)(hw:Wd zs)(hl:zs.length<=j):
  ∃zs' s4',dC [.fz<|.int x,.fz<|.int many,.ow<|.lst<|zs.map sD,.fz<|.int j,s4]=.ok (.nx,[.fz<|.int x,.fz<|.int many,.ow<|.lst<|zs'.map sD,.fz<|.int j,s4'])/\Wd zs'/\zs'.length<=j+1/\1<=zs'.length:=by
 have b1:Bq ((j:Int)+1):=dW (by omega) (by omega);have b2:Bg (j:Int):=cL (by omega) (by omega);have b3:Bg 11:=cL (by decide) (by decide);have n1:¬((j:Int)+1=0):=by omega
 have p1:(0:Int)<(j:Int)+1:=by omega
 have d0:0<=x/((j:Int)+1):=Int.ediv_nonneg h0 (by omega);have d1:x/((j:Int)+1)<=x:=Int.ediv_le_self _ h0;obtain⟨nm,en,hn⟩:=qz (x:=x/((j:Int)+1)+11*(j:Int)) (by omega) (by omega);have ws:=Wl j hj;have gs:=oJ (i:=(j:Int)) (by omega);rw[ws] at gs;have sw:ae "w" = tx [119]:=by decide +kernel
 have a1:bL (.str<|ae "w") (.str<|tx [48+j])=some (.str<|tx [119,48+j]):=by rw[sw,cH<|by simp];rfl
 have w1:Nam [119,48+j]:=⟨by simp,by simp,λc hc=>by simp at hc;omega⟩;have hz:(zs.map sD).length<16777216:=by simp;omega
 have dv:dvI x ((j:Int)+1)=x/((j:Int)+1):=by unfold dvI;rw[if_pos p1]
 by_cases c1:nm∈zs
 ·have e1:=yu nm zs;rw[decide_eq_true c1] at e1;by_cases c2:[119,48+j]∈zs
  ·have e2:=vo [119,48+j] zs;rw[decide_eq_true c2] at e2;refine⟨zs,.fz<|.str<|tx [119,48+j],?_,hw,by omega,List.length_pos_of_mem c1⟩;generalize zs.map sD=Z at *;generalize tx [119,48+j]=r at *;generalize tx [48+j]=r1 at *;generalize tx nm=r2 at *;simp[dC,aR,cA,fFn,au,aF,aA,aj,fC,cZ,ai,a1,lR,dv,b1,b2,b3,n1,en,gIf,aN,e1,e2,aU,gs,gNx,eE,jC,putL,bH,hz]
  ·have e2:=vo [119,48+j] zs;rw[decide_eq_false c2] at e2;refine⟨zs++[[119,48+j]],.fz<|.str<|tx [119,48+j],?_,Lq hw w1 c2,by simp;omega,by simp⟩;have em:(zs++[[119,48+j]]).map sD=zs.map sD++[.str<|tx [119,48+j]]:=by simp[sD]
   rw[em];generalize zs.map sD=Z at *;generalize tx [119,48+j]=r at *;generalize tx [48+j]=r1 at *;generalize tx nm=r2 at *;simp[dC,aR,cA,fFn,au,aF,aA,aj,fC,cZ,ai,a1,lR,dv,b1,b2,b3,n1,en,gIf,aN,e1,e2,aU,gs,gNx,eE,jC,putL,bH,hz]
 ·have e1:=yu nm zs;rw[decide_eq_false c1] at e1;have e2:=vo nm zs;rw[decide_eq_false c1] at e2;refine⟨zs++[nm],.fz<|.str<|tx nm,?_,Lq hw hn c1,by simp;omega,by simp⟩;have em:(zs++[nm]).map sD=zs.map sD++[.str<|tx nm]:=by simp[sD]
  rw[em];generalize zs.map sD=Z at *;generalize tx [119,48+j]=r at *;generalize tx [48+j]=r1 at *;generalize tx nm=r2 at *;simp[dC,aR,cA,fFn,au,aF,aA,aj,fC,cZ,ai,a1,lR,dv,b1,b2,b3,n1,en,gIf,aN,e1,e2,aU,gs,gNx,eE,jC,putL,bH,hz]
theorem Hv {L:Zg}{a b:D}{ds:List D}{s3 s4:Sl}(e:L [.fz a,.fz b,.ow<|.lst [],.un,.un]=.ok (.nx,[.fz a,.fz b,.ow<|.lst ds,s3,s4])):bF 5 2 (je L) [a,b]=.ok (true,.lst ds):=by
 simp[bF,je,aR,sJ,pK,aF,e,qi]
theorem Ln {x many:Int}(h0:0<=x)(h1:x<1000003)(hm1:1<=many)(hm2:many<=6):∃zs,ji [.int x,.int many]=.ok (true,.lst<|zs.map sD)/\Wd zs/\1<=zs.length/\zs.length<=many.toNat:=by
 have step:∀(j:Nat) (d:D) (m:Me),((eJ many.toNat).map λ(i:Nat)=>D.int i)[j]? = some d->(∃(zs:List (List Nat)) (s3 s4:Sl),m=[.fz<|.int x,.fz<|.int many,.ow<|.lst<|zs.map sD,s3,s4]/\Wd zs/\zs.length<=0+j/\(1<=0+j->1<=zs.length))->
   ∃m1 m2,hName 3 d m=some m1/\dC m1=.ok (.nx,m2)/\∃(zs:List (List Nat)) (s3 s4:Sl),m2=[.fz<|.int x,.fz<|.int many,.ow<|.lst<|zs.map sD,s3,s4]/\Wd zs/\zs.length<=0+j+1/\(1<=0+j+1->1<=zs.length):=by
  rintro j d m hj ⟨zs,s3,s4,rfl,hw,hl,_⟩;obtain⟨hj',rfl⟩:=z9 hj;obtain⟨zs',s4',e,hw',hl',h1'⟩:=Ce (many:=many) (j:=j) (zs:=zs) (s4:=s4) h0 h1 (by omega) hw (by omega);exact⟨_,_,rfl,e,zs',_,_,rfl,hw',by omega,λ_=>h1'⟩
 obtain⟨m',e,zs,s3,s4,rfl,hw,hl,hl1⟩:=uA (λi m=>∃(zs:List (List Nat)) (s3 s4:Sl),m=[.fz<|.int x,.fz<|.int many,.ow<|.lst<|zs.map sD,s3,s4]/\Wd zs/\zs.length<=i/\(1<=i->1<=zs.length)) ((eJ many.toNat).map λ(i:Nat)=>D.int i) 0 [.fz<|.int x,.fz<|.int many,.ow<|.lst [],.un,.un] ⟨[],.un,.un,rfl,⟨List.nodup_nil,λ_ z=>nomatch z⟩,aI _,λz=>absurd z<|by decide⟩ step;simp only[dQ,List.length_range] at hl hl1;refine⟨zs,Hv (s3:=s3) (s4:=s4) ?_,hw,hl1 (by omega),by omega⟩;unfold mz rK;rw[Ql (f:=au (aj 1) aF) (m:=[.fz<|.int x,.fz<|.int many,.ow<|.lst [],.un,.un]) (j:=many) rfl (by omega)<|by omega];exact e
def l64:List Wy:=(eJ 64).map λ(k:Nat)=>(sh 1 64,qD (1,64),.fin (sh ((k:Int)%9) 1)<|qD ((k:Int)%9,1))
theorem xX:l64.length=64:=by simp[l64]
theorem SN:∀x∈l64,Fq x.1 x.2.1/\Gn 0 x.2.2:=λx hx=>by
 obtain⟨k,_,rfl⟩:=iv.mp hx;refine⟨wB (by decide) (by decide) (by decide) (by decide +kernel),?_⟩;rw[jT];exact wB (by omega) (by decide) (by decide)<|gcd_one _
theorem Px {Φ:List D->List D->Res (D×List D)}{m:Me}:gO Φ m=.ok (.lst<|l64.map tD):=by
 have er:=Ql (f:=au (fC<|.int 64) aF) (m:=m) (j:=64) rfl (by decide) (by decide);have e:∀k:Nat,eV Φ [.fz<|.int (k:Int)]=.ok (.tup [.tup [.int 1,.int 64],.tup [.str "end",.tup [.int<|(k:Int)%9,.int 1]]]):=λk=>by
  simp[eV,gR,au,aF,fC,aj,aA,cX,mdI]
 have e2:gK (hName 0) jD (eV Φ) [.un] ((eJ 64).map λ(i:Nat)=>D.int i)=.ok (l64.map tD):=by
  unfold l64;rw[p9];exact gW _ λk _=>⟨_,rfl,rfl,e k⟩
 obtain⟨R,hR⟩:∃R,R=(eJ (64:Int).toNat).map λ(i:Nat)=>D.int i:=⟨_,rfl⟩;rw[← hR] at er;have hz:R.length<=16777216:=by rw[hR];decide
 have e4:gK (hName 0) jD (eV Φ) [.un] R=.ok (l64.map tD):=by rw[hR];exact e2
 generalize l64.map tD=L at *;simp[gO,dU,er,cMe,hz,e4]
theorem DN:∀{ys:List D},(∀y∈ys,∃c,Fq c y)->∃ls:List (List Nat×D),ls.map (·.2)=ys/\∀l∈ls,Fq l.1 l.2
 |[],_=>⟨[],rfl,λ_ z=>nomatch z⟩
 |y::ys,h=>by
  obtain⟨c,hc⟩:=h y aE;obtain⟨ls,e,hl⟩:=DN λz hz=>h z<|ah _ hz;refine⟨(c,y)::ls,by simp[e],λl hl'=>?_⟩;rcases bo.mp hl' with rfl|w
  ·exact hc
  ·exact hl l w
theorem Hh {Φ:List D->List D->Res (D×List D)}{a b:Sl}{t:List Sl}{x:Int}(h0:0<=x)(h1:x<1000003):∃ls:List (List Nat×D),jz Φ (a::b::.fz (.int x)::t)=.ok (.lst<|ls.map (·.2))/\ls.length=(1+x/6%3).toNat/\∀l∈ls,Fq l.1 l.2:=by
 have b6:Bq 6:=dW (by decide) (by decide);obtain⟨ys,e,hl,hy⟩:=yI (h:=hName 0) (ft:=jD) (fe:=jq Φ) (m0:=[.un,.fz<|.int x]) (λl=>∃c,Fq c l) ((eJ (1+x/6%3).toNat).map λ(i:Nat)=>D.int i) (by
  intro d hd;obtain⟨j,hj,rfl⟩:=iv.mp hd;have hj':j<(1+x/6%3).toNat:=qA.mp hj;have b1:Bq ((j:Int)+2):=dW (by omega) (by omega);have n1:¬((j:Int)+2=0):=by omega
  have p1:(0:Int)<(j:Int)+2:=by omega
  have d0:0<=x/((j:Int)+2):=Int.ediv_nonneg h0 (by omega);have d1:x/((j:Int)+2)<=x:=Int.ediv_le_self _ h0;have dv:dvI x ((j:Int)+2)=x/((j:Int)+2):=by unfold dvI;rw[if_pos p1]
  obtain⟨c,q,eq,hq⟩:=rF (x:=x/((j:Int)+2)) d0 (by omega);exact⟨_,q,rfl,rfl,by simp[jq,fFn,au,aF,aA,aj,fC,cZ,bL,b1,n1,dv,eq],c,hq⟩)
 obtain⟨ls,rfl,hls⟩:=DN hy;have er:=Ql (f:=au (aA bL (fC<|.int 1)<|aA cX (aA cZ (aj 2)<|fC<|.int 6)<|fC<|.int 3) aF) (m:=a::b::.fz (.int x)::t) (j:=1+x/6%3) (by simp[au,aF,aA,aj,fC,cZ,bL,cX,mdI,dvI,b6]) (by omega) (by omega);have hz:(1+x/6%3).toNat<=16777216:=by omega
 refine⟨ls,?_,by simpa using hl,hls⟩;generalize ls.map (·.2)=L at *;simp[jz,dU,er,cMe,Sl.bor,hz,e]
open L2 (atI ixN Key)
theorem zB {m:Nat}:∀{l:List (List Nat)},(∀a∈l,a.length<=m)->kO l<=l.length*m
 |[],_=>by simp[kO]
 |a::l,h=>by
  have h1:=h a aE;have h2:=zB λb hb=>h b<|ah _ hb;simp only[kO,cE,lj,bS,u4,Nat.one_mul] at h2 ⊢;omega
theorem J6 {ho:Option Int}{n:List Nat}{ws:Wt}{M:Nat}(hn:n.length<=8)(h:∀x∈wl ws,x.1.length<=63/\(tG x.2.2).length<=M):(tG<|.nd ho n ws).length<=17+(wl ws).length*(66+M):=by
 have h1:=zB (m:=64+M) (l:=(wl ws).map tT) (by
  intro a ha;obtain⟨x,hx,rfl⟩:=iv.mp ha
  have:=h x hx
  simp[tT];omega)
 have h2:=QC [44,32]<|(wl ws).map tT;rw[← wG] at h2;have h3:=Kf (ho:=ho) hn;simp only[dQ,bS,List.length_nil] at h1 h2;have e:(wl ws).length*(66+M)=(wl ws).length*(64+M)+(wl ws).length*2:=by rw[show 66+M=(64+M)+2 by omega,Nat.mul_add]
 simp[tG];omega
theorem node {k M:Nat}{ho:Option Int}{nm:List Nat}{l:List Wy}(hs:∀s,ho=some s->s=1\/s=2)(hn:Nam nm)(h1:1<=l.length)(hl:l.length<=if ho.isNone then 64 else 6)(hd:ho.isNone=false->(l.map (·.1)).Nodup)(hx:∀x∈l,Ld ho x.1 x.2.1/\Gn k x.2.2/\(tG x.2.2).length<=M):
  ∃g,dGt g=clD ho nm (l.map tD)/\Gn (k+1) g/\(tG g).length<=17+l.length*(66+M):=by
 cases l with
 |nil=>simp at h1
 |cons x r=>
  have e:=QK r x;refine⟨.nd ho nm<|mkW x r,?_,?_,?_⟩
  ·show clD ho nm (dWt _)=_;rw[lK,e]
  ·show _/\_/\_/\_/\_;rw[e];exact⟨hs,hn,hl,hd,λy hy=>⟨(hx y hy).1,(hx y hy).2.1⟩⟩
  ·have:=J6 (ho:=ho) (ws:=mkW x r) (M:=M) hn.hi (by rw[e];exact λy hy=>⟨(hx y hy).1.len,(hx y hy).2.2⟩)
   rw[e] at this;exact this
theorem PJ {g:Gt}(h:Gn 0 g)(k:Nat):Gn k g:=by
 cases g with
 |fin c d=>rw[jT] at h ⊢;exact h
 |nd _ _ _=>exact h.elim
theorem pL {Φ:List D->List D->Res (D×List D)}{dd:Int}{P:Gt->Prop}{s2 s3 s4 s5:Sl}
  (ih:∀es:List Int,(∀x∈es,Sx x)->∃(g:Gt) (es':List Int),Φ (es.map D.int) [.int<|dd-1]=.ok (dGt g,es'.map D.int)/\(∀x∈es',Sx x)/\P g):
  ∀(ls:List (List Nat×D)) (es:List Int),(∀x∈es,Sx x)->∃(l:List Wy) (es':List Int),lG 1 [0,1] (hName 0) (eQ Φ) [.io<|.lst<|es.map D.int,.fz<|.int dd,s2,s3,s4,s5] (ls.map (·.2))=.ok (l.map tD,[.io<|.lst<|es'.map D.int,.fz<|.int dd,s2,s3,s4,s5])/\(∀x∈es',Sx x)/\(∀x∈l,P x.2.2)/\l.map (λx=>(x.1,x.2.1))=ls
 |[],es,h=>⟨[],es,rfl,h,λ_ z=>(nomatch z),rfl⟩
 |d::ls,es,h=>by
  obtain⟨g,es1,e1,h1,og⟩:=ih es h;obtain⟨l,es2,e2,h2,ow,hl⟩:=pL ih ls es1 h1;refine⟨(d.1,d.2,g)::l,es2,?_,h2,λx hx=>?_,by simp[hl]⟩
  ·have ee:eQ Φ [.fz d.2,.io<|.lst<|es.map D.int,.fz<|.int dd]=.ok (.tup [d.2,dGt g],[.fz d.2,.io<|.lst<|es1.map D.int,.fz<|.int dd]):=by
    simp[eQ,w5,iw,fX,au,aF,fC,bH,Qh,jC,aA,aj,F.qO,e1,putL,qC]
   show lG _ _ _ _ _ (d.2::ls.map (·.2))=_;unfold lG;simp[hName,zQ,Sl.cap,ee,okB,isOwn,TX,Ah,bkS,fA];rw[e2];rfl
  ·rcases bo.mp hx with rfl|w
   ·exact og
   ·exact ow x w
theorem e75 {Φ:List D->List D->Res (D×List D)}:nF Φ=eQ Φ:=rfl
def lim:Nat->Nat
 |0=>67
 |k+1=>17+3*(66+lim k)
def lm (k:Nat):Nat:=if k=5 then 84575 else lim k
theorem U4 (k:Nat):67<=lm k:=by
 unfold lm;split
 ·omega
 ·cases k with
  |zero=>exact aI _
  |succ k=>show 67<=17+3*(66+lim k);omega
theorem zj {k n:Nat}(h:n<=3)(hk:k+1<=5):17+n*(66+lm k)<=lm (k+1):=by
 have a:lim 0=67/\lim 1=416/\lim 2=1463/\lim 3=4604/\lim 4=14027:=by decide
 have c:k=0\/k=1\/k=2\/k=3\/k=4:=by omega
 obtain⟨a0,a1,a2,a3,a4⟩:=a;rcases c with rfl|rfl|rfl|rfl|rfl<;>simp[lm,a0,a1,a2,a3,a4]<;>omega
theorem Sq {n:Nat}(h:n<=6):17+n*(66+lm 4)<=lm 5:=by
 have a4:lim 4=14027:=by decide
 simp[lm,a4];omega
theorem Ek {k:Nat}{c:List Nat}{d:D}(h:Fq c d):(tG<|.fin c d).length<=lm k:=by
 have:=h.len
 have:=U4 k
 simp[tG];omega
theorem Qx {ho:Option Int}{ls:List (List Nat×D)}{l:List Wy}(e:l.map (λx=>(x.1,x.2.1))=ls)(h:∀p∈ls,Ld ho p.1 p.2):∀x∈l,Ld ho x.1 x.2.1:=λx hx=>h (x.1,x.2.1) (by rw[← e];exact rq (f:=λx:Wy=>(x.1,x.2.1)) hx)
theorem zL:∀(n:Nat) (es:List Int) (dd:Int),0<=dd->dd<n->dd<=5->(∀x∈es,Sx x)->∃(g:Gt) (es':List Int),bh n (es.map D.int) [.int dd]=.ok (dGt g,es'.map D.int)/\(∀x∈es',Sx x)/\Gn dd.toNat g/\(tG g).length<=lm dd.toNat
 |0,_,dd,h0,h1,_,_=>by omega
 |n+1,es,dd,h0,h1,h5,hs=>by
  have b6:Bq 6:=dW (by decide) (by decide);have b7:Bq 7:=dW (by decide) (by decide);have b18:Bq 18:=dW (by decide) (by decide);have b5:Bq 5:=dW (by decide) (by decide);have b3:Bq 3:=dW (by decide) (by decide);have b2:Bq 2:=dW (by decide) (by decide);by_cases hes:es=[]
  ·subst hes;obtain⟨c,q,eq,hq⟩:=rF (x:=0) (by decide) (by decide);refine⟨.fin c q,[],?_,(λ_ z=>(nomatch z)),by rw[jT];exact hq,Ek hq⟩;simp[bh,cP,lX,aR,cA,fC,gIf,aN,gGt,aU,dj,au,aj,aF,gNx,dF,aA,cX,mdI,bu,Me.let,Sl.let,gR,fFn,cZ,dvI,b6,eq,qR,dGt]
  ·obtain⟨ys,x,rfl⟩:=NB hes;have hx:Sx x:=hs x (by simp);obtain⟨hx0,hx1⟩:=hx;have hy:∀y∈ys,Sx y:=λy h=>hs y (by simp[h]);by_cases c:dd=0\/ys=[]\/x%6=0
   ·obtain⟨cq,q,eq,hq⟩:=rF (x:=x/6) (by omega) (by omega);refine⟨.fin cq q,ys,?_,hy,by rw[jT];exact hq,Ek hq⟩;by_cases c1:dd=0
    ·simp[bh,cP,lX,aR,cA,fC,gIf,aN,gGt,aU,dj,au,aj,aF,gQ,jC,putL,dF,c1,bu,Me.let,Sl.let,gR,fFn,aA,cZ,dvI,b6,eq,qR,dGt]
    ·by_cases c2:ys=[]
     ·simp[bh,cP,lX,aR,cA,fC,gIf,aN,gGt,aU,dj,au,aj,aF,gQ,jC,putL,dF,c1,c2,bu,Me.let,Sl.let,gR,fFn,aA,cZ,dvI,b6,eq,qR,dGt]
     ·have c3:x%6=0:=(c.resolve_left c1).resolve_left c2;simp[bh,cP,lX,aR,cA,fC,gIf,aN,gGt,aU,dj,au,aj,aF,gQ,jC,putL,dF,c1,c2,c3,cX,mdI,bu,Me.let,Sl.let,gR,fFn,aA,cZ,dvI,b6,eq,qR,dGt]
   ·have c1:¬dd=0:=λz=>c<|.inl z;have c2:¬ys=[]:=λz=>c<|.inr<|.inl z;have c3:¬x%6=0:=λz=>c<|.inr<|.inr z;have ek:dd.toNat=(dd-1).toNat+1:=by omega
    have ih:∀es:List Int,(∀x∈es,Sx x)->∃(g:Gt) (es':List Int),bh n (es.map D.int) [.int<|dd-1]=.ok (dGt g,es'.map D.int)/\(∀x∈es',Sx x)/\Gn (dd-1).toNat g/\(tG g).length<=lm (dd-1).toNat:=λes h=>zL n es (dd-1) (by omega) (by omega) (by omega) h;rw[ek];have hk5:(dd-1).toNat+1<=5:=by omega
    by_cases c4:x%6<3
    ·by_cases c5:dd=5/\x/6%5=3
     ·obtain⟨nm,en,hn⟩:=qz (x:=x) (by omega) (by omega);have q2':∀m,gO (bh n) m=.ok (.lst<|l64.map tD):=λm=>Px;obtain⟨g,eg,hg,lg⟩:=node (k:=(dd-1).toNat) (M:=67) (ho:=none) (nm:=nm) (l:=l64) (λ_ z=>(nomatch z)) hn (by rw[xX];decide) (by rw[xX];decide) (λz=>absurd z<|by decide) λx hx=>by
       obtain⟨h1,h2⟩:=SN x hx;refine⟨h1,PJ h2 _,?_⟩;cases hg:x.2.2 with
       |fin c d=>rw[hg,jT] at h2;have:=h2.len;simp[tG];omega
       |nd _ _ _=>rw[hg] at h2;exact h2.elim
      obtain⟨d5,x5⟩:=c5;refine⟨g,ys,?_,hy,hg,?_⟩
      ·rw[eg];simp only[clD,hN,hP,cm,dk];generalize l64.map tD=L at *;generalize tx nm=r at *;simp[bh,cP,lX,aR,cA,fC,gIf,aN,gGt,aU,dj,au,aj,aF,gQ,jC,putL,dF,c2,c3,c4,gLt,cX,mdI,gNx,nO,d5,x5,bu,Me.let,Sl.let,gR,fFn,bH,aA,cZ,dvI,b6,en,q2',pH,qR]
      ·rw[xX] at lg;have e5:(dd-1).toNat+1=5:=by omega
       rw[e5]
       have:lm 5=84575:=rfl
       omega
     ·have c6:∀m t,nO (aN gEq (aj 1)<|fC<|.int 5) (aN gEq (aA cX (aA cZ (aj 2)<|fC<|.int 6)<|fC<|.int 5)<|fC<|.int 3) (m::.fz (.int dd)::.fz (.int x)::t)=.ok false:=λm t=>by
       by_cases d5:dd=5
       ·have x5:¬x/6%5=3:=λz=>c5 ⟨d5,z⟩;simp[nO,aN,aj,fC,d5,aA,cX,cZ,mdI,dvI,b6,x5]
       ·simp[nO,aN,aj,fC,d5]
      obtain⟨nm,en,hn⟩:=qz (x:=x/2) (by omega) (by omega);obtain⟨ls,es4,ll,hls⟩:=Hh (Φ:=bh n) (a:=.io<|.lst<|ys.map D.int) (b:=.fz<|.int dd) (t:=[.un,.un,.un]) hx0 hx1;obtain⟨l,es',ec,h1,ow,hl⟩:=pL (s2:=.fz<|.int x) (s3:=.fz<|.lst<|ls.map (·.2)) (s4:=.un) (s5:=.un) ih ls ys hy;have hz:(ls.map (·.2)).length<=16777216:=by rw[dQ];omega
      have hl':l.length=(1+x/6%3).toNat:=by rw[← ll,← hl,dQ]
      have hld:=Qx (ho:=none) hl hls;obtain⟨g,eg,hg,lg⟩:=node (k:=(dd-1).toNat) (M:=lm (dd-1).toNat) (ho:=none) (nm:=nm) (l:=l) (λ_ z=>(nomatch z)) hn (by omega) (by show l.length<=64;omega) (λz=>absurd z<|by decide) λx hx=>⟨hld x hx,ow x hx⟩;refine⟨g,es',?_,h1,hg,cn lg<|zj (by omega) hk5⟩;rw[eg];simp only[clD,hN,hP,cm,dk];generalize l.map tD=L at *;generalize ls.map (·.2)=LS at *;generalize tx nm=r at *;simp[bh,cP,lX,aR,cA,fC,gIf,aN,gGt,aU,dj,au,aj,aF,gQ,jC,putL,dF,c1,c2,c3,c4,gLt,cX,mdI,gNx,K4,Me.let,Sl.let,w5,iw,fX,fFn,aA,cZ,dvI,b6,b2,en,uX,mK,qZ,zP,bH,c6,es4,hz,ec,qC,pH,qR]
    ·obtain⟨nm,en,hn⟩:=qz (x:=x/5) (by omega) (by omega);obtain⟨b,i,hi,ci,gi⟩:∃(b:Bool) (i:Int),(i=0\/i=1/\dd=5)/\(∀m t,gh (jd gEq (aA cX (aA cZ (aj 2)<|fC<|.int 18)<|fC<|.int 5)<|fC<|.int 1) (jd gGt (aj 1)<|fC<|.int 4) (m::.fz (.int dd)::.fz (.int x)::t)=.ok (.bl b))/\vP [.bl b]=some (.int i):=by
      by_cases a1:x/18%5=1
      ·by_cases a2:dd=5
       ·exact⟨true,1,.inr ⟨rfl,a2⟩,λm t=>by simp[gh,fTv,jd,aA,aj,fC,cZ,dvI,cX,mdI,b18,a1,a2,gGt],rfl⟩
       ·have a3:¬4<dd:=by omega
        exact⟨false,0,.inl rfl,λm t=>by simp[gh,fTv,jd,aA,aj,fC,cZ,dvI,cX,mdI,b18,a1,a3,gGt],rfl⟩
      ·exact⟨false,0,.inl rfl,λm t=>by simp[gh,fTv,jd,aA,aj,fC,cZ,dvI,cX,mdI,b18,a1],rfl⟩
     have b3g:Bg 3:=cL (by decide) (by decide);have bi:Bg i:=cL (by omega) (by omega);obtain⟨zs,ew,hw,lz1,lz2⟩:=Ln (x:=x/7) (many:=1+x/6%3+3*i) (by omega) (by omega) (by omega) (by omega);have els:(zs.map λz=>(z,sD z)).map (·.2)=zs.map sD:=by rw[p9];rfl
     obtain⟨l,es',ec,h1,ow,hl⟩:=pL (s2:=.fz<|.int x) (s3:=.un) (s4:=.fz<|.lst<|zs.map sD) (s5:=.un) ih (zs.map λz=>(z,sD z)) ys hy;rw[els] at ec;have hl':l.length=zs.length:=by have:=congrArg rh hl;simpa using this
     have hld:=Qx (ho:=some<|1+x/3%2) hl λp hp=>by
      obtain⟨z,hz,rfl⟩:=iv.mp hp;exact⟨hw.2 z hz,rfl⟩
     have hnd:(l.map (·.1)).Nodup:=by
      have:l.map (·.1)=zs:=by
       have:=congrArg (List.map (·.1)) hl
       simpa[p9,Function.comp_def] using this
      rw[this];exact hw.1
     obtain⟨g,eg,hg,lg⟩:=node (k:=(dd-1).toNat) (M:=lm (dd-1).toNat) (ho:=some<|1+x/3%2) (nm:=nm) (l:=l) (λs z=>by cases z;omega) hn (by omega) (by show l.length<=6;omega) (λ_=>hnd) λx hx=>⟨hld x hx,ow x hx⟩;have hz:(zs.map sD).length<=16777216:=by simp;omega
     refine⟨g,es',?_,h1,hg,cn lg ?_⟩
     ·rw[eg];simp only[clD,hN,hP,cm,dk];generalize l.map tD=L at *;generalize zs.map sD=ZS at *;generalize tx nm=r at *;simp[bh,cP,lX,aR,cA,fC,gIf,aN,gGt,aU,dj,au,aj,aF,gQ,jC,putL,dF,c1,c2,c3,c4,gLt,cX,mdI,gNx,bL,lR,ci,gi,bi,b3g,b7,b6,b5,b3,ew,Jl,uX,iw,qC,mL,e75,qZ,zP,bH,hz,ec,pH,bu,Me.let,Sl.let,gR,fFn,aA,cZ,dvI,en,qR]
     ·rcases hi with rfl|⟨rfl,d5⟩
      ·exact zj (by omega) hk5
      ·have e4:(dd-1).toNat=4:=by omega
       rw[e4];exact Sq<|by omega
theorem Mj {S R T K:Zf}{G:D}{t:Str}(e1:T [G]=.ok (false,.str t))(e2:S [G]=.ok (false,.str t))(e3:R [.str t]=.ok (false,G))(e4:K [G]=.ok (false,.bl true))(e5:gEq G G=some true):bF 4 1 (jL S R T K) [G]=.ok (false,.bl true):=by
 have it:∀a b d,dD "str" (aj 2) [a,b,.fz<|.str t,d]=.ok (.bl true):=λ_ _ _=>rfl;simp[bF,jL,aR,cA,fFn,au,aF,bH,e1,e2,gIf,dF,cB,fTv,it,aN,aj,gNx,e3,bu,Me.let,Sl.let,gh,e4,jd,e5]
theorem DQ {k:Nat}{g:Gt}(hg:Gn k g)(hk:k<=5)(hl:(tG g).length<=100000):eX [dGt g]=.ok (false,.bl true):=by
 obtain⟨o,d⟩:=Fx k g hg;exact Mj (Dg k 30 g hg (by omega) hl) (KJ hg (by omega) hl) (Jr hg hl) (Aa k 30 g hg<|by omega)<|Ja o<|by omega
theorem Nt {α:Type}{xs:List α}{lo hi:Option Int}{d:α}(h:d∈cut xs lo hi):d∈xs:=by
 unfold cut at h;exact List.mem_of_mem_drop<|List.mem_of_mem_take h
theorem zV {A G:Sl}:∀(l:List D) (s2 s3:Sl),(∀d∈l,∃a b,d=.tup [a,b]/\eX [b]=.ok (false,.bl true))->∃s2' s3',gH (qN 2<|dR (hName 2)<|dR (hName 3) qL) tU l [A,G,s2,s3]=.ok (.nx,[A,G,s2',s3'])
 |[],s2,s3,_=>⟨s2,s3,rfl⟩
 |d::l,s2,s3,h=>by
  obtain⟨a,b,rfl,e1⟩:=h d aE;obtain⟨s2',s3',e⟩:=zV (A:=A) (G:=G) l (.fz a) (.fz b) λy hy=>h y<|ah _ hy;refine⟨s2',s3',?_⟩;have eb:tU [A,G,.fz a,.fz b]=.ok (.nx,[A,G,.fz a,.fz b]):=by simp[tU,gIf,cB,fTv,fFn,au,aF,bH,e1,gNx]
  unfold gH;have eh:qN 2 (dR (hName 2)<|dR (hName 3) qL) (.tup [a,b]) [A,G,s2,s3]=some [A,G,.fz a,.fz b]:=rfl;rw[eh];simp only[eb];exact e
theorem O7 {N T:Zf}{G:List D->List D->Res (D×List D)}{l_2:Zg}{A B:D}{L L':List D}{m:Me}(e1:N [A]=.ok (true,.lst L))(e2:G L [.int 5]=.ok (B,L'))(e3:T [B]=.ok (false,.bl true))
  (e4:gIf (aN gNe (aA gIx (aj 1)<|fC<|.int 0)<|fC<|.str "end") l_2 gNx [.fz A,.fz B,.un,.un]=.ok (.nx,m)):bF 4 1 (Gq N G T l_2) [A]=.ok (false,.bl true):=by
 unfold Gq;generalize gIf (aN gNe (aA gIx (aj 1)<|fC<|.int 0)<|fC<|.str "end") l_2 gNx=X at *;simp[bF,aR,cA,Q9,Q0,fFn,au,aF,bH,e1,e2,fC,isTup,gIf,cB,fTv,e3,gNx,e4,bu,Me.let,Sl.let]
theorem JW (ns:List Int)(hn:ns.length<=63):∃fr,Qw [.lst<|ns.map D.int]=.ok (fr,.bl true):=by
 obtain⟨xs,en,hx⟩:=Bj ns;obtain⟨g,es',eg,_,og,lg⟩:=zL 30 xs 5 (by decide) (by decide) (by decide) hx;have l5:lm (5:Int).toNat=84575:=rfl;have og:Gn 5 g:=og;have et:=DQ og (by decide) (by omega);obtain⟨m,e4⟩:∃m,gIf (aN gNe (aA gIx (aj 1)<|fC<|.int 0)<|fC<|.str "end") tV gNx [.fz<|.lst<|ns.map D.int,.fz<|dGt g,.un,.un]=.ok (.nx,m):=by
  cases g with
  |fin c d=>exact⟨_,by simp[gIf,aN,aA,aj,fC,gIx,dGt,ix0,gNx];rfl⟩
  |nd ho n ws=>
   have tl:∀d∈cut (dWt ws) none (some 8),∃a b,d=.tup [a,b]/\eX [b]=.ok (false,.bl true):=λd hd=>by
    have hd:=Nt hd;rw[lK] at hd;obtain⟨x,hx',rfl⟩:=iv.mp hd;obtain⟨w1,w2⟩:=tK (ho:=ho) (n:=n) hx';exact⟨_,_,rfl,DQ (og.2.2.2.2 x hx').2 (by decide)<|by omega⟩
   obtain⟨s2',s3',e⟩:=zV (A:=.fz<|.lst<|ns.map D.int) (G:=.fz<|dGt<|.nd ho n ws) _ .un .un tl;have ei:mq (NK (aA gIx (aj 1)<|fUn pU<|fC<|.int 1) fO0<|fO1<|fC<|.int 8) [.fz<|.lst<|ns.map D.int,.fz<|dGt<|.nd ho n ws,.un,.un]=.ok (cut (dWt ws) none<|some 8):=by
    cases ho<;>simp[mq,NK,aA,aj,fUn,fC,pU,gIx,dGt,clD,hP,hN,y3,y4,fO0,fO1,SM]
   have n1:¬(ae "deal" = ae "end"):=by decide +kernel
   have n2:¬(ae "move" = ae "end"):=by decide +kernel
   have ec:aN gNe (aA gIx (aj 1)<|fC<|.int 0) (fC<|.str "end") [.fz<|.lst<|ns.map D.int,.fz<|dGt<|.nd ho n ws,.un,.un]=.ok true:=by
    cases ho<;>simp[aN,aA,aj,fC,gIx,dGt,clD,hP,hN,x30,x40,n1,n2]
   refine⟨[.fz<|.lst<|ns.map D.int,.fz<|dGt<|.nd ho n ws,s2',s3'],?_⟩;unfold gIf;rw[ec];show tV _=_;unfold tV rK;rw[ei];exact e
 exact⟨false,O7 en eg et e4⟩
def clsAt (s:Stmt)(j:Nat):Stmt:=match s with
 | .ClassDef _ _ _ b ..=>b.getD j<|.Pass ⟨0,0,0,0⟩
 |_=>.Pass ⟨0,0,0,0⟩
noncomputable def top (i:Nat):Stmt:=PySem.Challenge.pw_hushduel_k09_games_shown.main.body.getD i<|.Pass ⟨0,0,0,0⟩
theorem JG:b9 "abs" = some (.builtin "abs"):=by decide +kernel
theorem vA:b9 "all" = some (.builtin "all"):=by decide +kernel
theorem tY:b9 "bool" = some (.type "bool"):=by decide +kernel
theorem uP:b9 "int" = some (.type "int"):=by decide +kernel
theorem aW:b9 "isinstance" = some (.builtin "isinstance"):=by decide +kernel
theorem fP:b9 "len" = some (.builtin "len"):=by decide +kernel
theorem Dw:b9 "list" = some (.type "list"):=by decide +kernel
theorem Jp:b9 "set" = some (.type "set"):=by decide +kernel
theorem fV:b9 "str" = some (.type "str"):=by decide +kernel
theorem dN:b9 "tuple" = some (.type "tuple"):=by decide +kernel
structure Bt (mg:Zs):Prop where
 ValueError:mg "ValueError" = none
 abs:mg "abs" = none
 all:mg "all" = none
 bool:mg "bool" = none
 int:mg "int" = none
 isinstance:mg "isinstance" = none
 len:mg "len" = none
 list:mg "list" = none
 range:mg "range" = none
 reversed:mg "reversed" = none
 set:mg "set" = none
 str:mg "str" = none
 tuple:mg "tuple" = none
structure CnT (K:aw)(mg:Zs):Prop where
 FIGURES:∃v u,mg "FIGURES" = some u/\RelV v u/\∀O H,DV ⟨K,mg⟩ O H v (.str "0123456789")
 MOST_FIGURES:∃v u,mg "MOST_FIGURES" = some u/\RelV v u/\∀O H,DV ⟨K,mg⟩ O H v (.int 30)
 NAME_SIGNS:∃v u,mg "NAME_SIGNS" = some u/\RelV v u/\∀O H,DV ⟨K,mg⟩ O H v (.str "abcdefghijklmnopqrstuvwxyz0123456789")
 MOST_SIGNS:∃v u,mg "MOST_SIGNS" = some u/\RelV v u/\∀O H,DV ⟨K,mg⟩ O H v (.int 8)
 MOST_DEALT:∃v u,mg "MOST_DEALT" = some u/\RelV v u/\∀O H,DV ⟨K,mg⟩ O H v (.int 64)
 MOST_WORDS:∃v u,mg "MOST_WORDS" = some u/\RelV v u/\∀O H,DV ⟨K,mg⟩ O H v (.int 6)
 STOPS:∃v u,mg "STOPS" = some u/\RelV v u/\∀O H,DV ⟨K,mg⟩ O H v (.str " (),")
theorem BK {X:Cx}{E:XK}{pos:Pos}(Cn:CnT X.K X.mg)(hg:Gl X "FIGURES"):FE X E (.Name "FIGURES" pos) (fC<|.str "0123456789"):=by
 obtain⟨v,u,h1,h2,h3⟩:=Cn.FIGURES;exact oA hg h1 h2 h3
theorem sU {X:Cx}{E:XK}{pos:Pos}(Cn:CnT X.K X.mg)(hg:Gl X "MOST_FIGURES"):FE X E (.Name "MOST_FIGURES" pos) (fC<|.int 30):=by
 obtain⟨v,u,h1,h2,h3⟩:=Cn.MOST_FIGURES;exact oA hg h1 h2 h3
theorem vB {X:Cx}{E:XK}{pos:Pos}(Cn:CnT X.K X.mg)(hg:Gl X "NAME_SIGNS"):FE X E (.Name "NAME_SIGNS" pos) (fC<|.str "abcdefghijklmnopqrstuvwxyz0123456789"):=by
 obtain⟨v,u,h1,h2,h3⟩:=Cn.NAME_SIGNS;exact oA hg h1 h2 h3
theorem vK {X:Cx}{E:XK}{pos:Pos}(Cn:CnT X.K X.mg)(hg:Gl X "MOST_SIGNS"):FE X E (.Name "MOST_SIGNS" pos) (fC<|.int 8):=by
 obtain⟨v,u,h1,h2,h3⟩:=Cn.MOST_SIGNS;exact oA hg h1 h2 h3
theorem vU {X:Cx}{E:XK}{pos:Pos}(Cn:CnT X.K X.mg)(hg:Gl X "MOST_DEALT"):FE X E (.Name "MOST_DEALT" pos) (fC<|.int 64):=by
 obtain⟨v,u,h1,h2,h3⟩:=Cn.MOST_DEALT;exact oA hg h1 h2 h3
theorem vI {X:Cx}{E:XK}{pos:Pos}(Cn:CnT X.K X.mg)(hg:Gl X "MOST_WORDS"):FE X E (.Name "MOST_WORDS" pos) (fC<|.int 6):=by
 obtain⟨v,u,h1,h2,h3⟩:=Cn.MOST_WORDS;exact oA hg h1 h2 h3
abbrev pC:Stmt:=top 6
theorem Cv:aX ["thing"] ["thing"] (aC pC):=⟨rfl,rfl,rfl,by decide +kernel,rfl,by decide +kernel,by decide +kernel⟩
abbrev iu:Stmt:=top 7
theorem cU:aX ["first", "second", "great", "small", "rest"] ["first", "second"] (aC iu):=⟨rfl,rfl,rfl,by decide +kernel,rfl,by decide +kernel,by decide +kernel⟩
abbrev uK:Stmt:=top 8
theorem uo:aX ["top", "bottom", "divisor"] ["top", "bottom"] (aC uK):=⟨rfl,rfl,rfl,by decide +kernel,rfl,by decide +kernel,by decide +kernel⟩
abbrev ph:Stmt:=top 9
theorem Az:aX ["thing"] ["thing"] (aC ph):=⟨rfl,rfl,rfl,by decide +kernel,rfl,by decide +kernel,by decide +kernel⟩
abbrev lQ:Stmt:=top 10
theorem kZ:aX ["first", "top", "bottom"] ["first"] (aC lQ):=⟨rfl,rfl,rfl,by decide +kernel,rfl,by decide +kernel,by decide +kernel⟩
abbrev iG:Stmt:=top 11
theorem vW:aX ["text"] ["text"] (aC iG):=⟨rfl,rfl,rfl,by decide +kernel,rfl,by decide +kernel,by decide +kernel⟩
abbrev kJ:Stmt:=top 12
theorem fL:aX ["text", "halves", "top", "bottom", "bare", "result"] ["text"] (aC kJ):=⟨rfl,rfl,rfl,by decide +kernel,rfl,by decide +kernel,by decide +kernel⟩
abbrev nR:Stmt:=top 18
theorem G9:aX ["thing"] ["thing"] (aC nR):=⟨rfl,rfl,rfl,by decide +kernel,rfl,by decide +kernel,by decide +kernel⟩
abbrev qT:Stmt:=top 19
theorem HJ:aX ["thing"] ["thing"] (aC qT):=⟨rfl,rfl,rfl,by decide +kernel,rfl,by decide +kernel,by decide +kernel⟩
abbrev jM:Stmt:=top 20
theorem zc:aX ["thing", "most"] ["thing", "most"] (aC jM):=⟨rfl,rfl,rfl,by decide +kernel,rfl,by decide +kernel,by decide +kernel⟩
abbrev vg:Stmt:=top 21
theorem J8:aX ["thing"] ["thing"] (aC vg):=⟨rfl,rfl,rfl,by decide +kernel,rfl,by decide +kernel,by decide +kernel⟩
abbrev oH:Stmt:=top 22
theorem GJ:aX ["thing"] ["thing"] (aC oH):=⟨rfl,rfl,rfl,by decide +kernel,rfl,by decide +kernel,by decide +kernel⟩
abbrev j9:Stmt:=top 23
theorem wC:aX ["thing", "words"] ["thing"] (aC j9):=⟨rfl,rfl,rfl,by decide +kernel,rfl,by decide +kernel,by decide +kernel⟩
abbrev mR:Stmt:=top 24
theorem zJ:aX ["thing"] ["thing"] (aC mR):=⟨rfl,rfl,rfl,by decide +kernel,rfl,by decide +kernel,by decide +kernel⟩
abbrev rC:Stmt:=top 28
theorem HW:aX ["game"] ["game"] (aC rC):=⟨rfl,rfl,rfl,by decide +kernel,rfl,by decide +kernel,by decide +kernel⟩
abbrev qU:Stmt:=top 29
theorem Ht:aX ["game", "lead"] ["game", "lead"] (aC qU):=⟨rfl,rfl,rfl,by decide +kernel,rfl,by decide +kernel,by decide +kernel⟩
abbrev nu:Stmt:=top 30
theorem gq:aX ["game", "pieces", "before", "lead", "branch"] ["game"] (aC nu):=⟨rfl,rfl,rfl,by decide +kernel,rfl,by decide +kernel,by decide +kernel⟩
abbrev yj:Stmt:=top 31
theorem tR:aX ["game", "done", "waiting", "piece"] ["game"] (aC yj):=⟨rfl,rfl,rfl,by decide +kernel,rfl,by decide +kernel,by decide +kernel⟩
abbrev CZ:Stmt:=top 39
abbrev jy:Stmt:=top 41
theorem jA:aX ["_law_script", "_law_found", "_law_k"] ["_law_script"] (aC jy):=⟨rfl,rfl,rfl,by decide +kernel,rfl,by decide +kernel,by decide +kernel⟩
abbrev jJ:Stmt:=top 42
theorem rT:aX ["_law_x", "_law_signs"] ["_law_x"] (aC jJ):=⟨rfl,rfl,rfl,by decide +kernel,rfl,by decide +kernel,by decide +kernel⟩
abbrev lH:Stmt:=top 43
theorem yM:aX ["_law_x"] ["_law_x"] (aC lH):=⟨rfl,rfl,rfl,by decide +kernel,rfl,by decide +kernel,by decide +kernel⟩
abbrev lq:Stmt:=top 44
theorem gD:aX ["_law_x", "_law_many", "_law_words_here", "_law_k", "_law_word"] ["_law_x", "_law_many"] (aC lq):=⟨rfl,rfl,rfl,by decide +kernel,rfl,by decide +kernel,by decide +kernel⟩
abbrev dM:Stmt:=top 45
theorem fH:aX ["_law_xs", "_law_deep", "_law_x", "_law_shares", "_law_words_here", "_law_ways"] ["_law_xs", "_law_deep"] (aC dM):=⟨rfl,rfl,rfl,by decide +kernel,rfl,by decide +kernel,by decide +kernel⟩
abbrev gA:Stmt:=top 46
theorem qu:aX ["_law_one"] ["_law_one"] (aC gA):=⟨rfl,rfl,rfl,by decide +kernel,rfl,by decide +kernel,by decide +kernel⟩
abbrev iK:Stmt:=top 47
theorem nq:aX ["_law_game", "_law_parts"] ["_law_game"] (aC iK):=⟨rfl,rfl,rfl,by decide +kernel,rfl,by decide +kernel,by decide +kernel⟩
abbrev lA:Stmt:=top 48
theorem qw:aX ["_law_game", "_law_pair"] ["_law_game"] (aC lA):=⟨rfl,rfl,rfl,by decide +kernel,rfl,by decide +kernel,by decide +kernel⟩
abbrev nD:Stmt:=top 49
theorem jP:aX ["_law_game", "_law_text_here", "_law_found", "_law_again"] ["_law_game"] (aC nD):=⟨rfl,rfl,rfl,by decide +kernel,rfl,by decide +kernel,by decide +kernel⟩
abbrev wW:Stmt:=top 50
theorem Ge:aX ["_law_script", "_law_game", "_law_label", "_law_part"] ["_law_script"] (aC wW):=⟨rfl,rfl,rfl,by decide +kernel,rfl,by decide +kernel,by decide +kernel⟩
variable {P:bb}{w:cp}{K:aw}{mg:Zs}{base:Heap}{f:Addr}{fd:de}
theorem zR(B:Bt mg)(Fu:Fun K "is_whole" "is_whole" pC f fd)  :
  b8 P w K mg base (CX1 P w) 1 f fd ["thing"] (spF ⟨K,mg⟩ gj):=
 bW Fu Cv λcdv A outer s H E hr=>by
 have hu:=hr.units;unfold uv uz;exact(aJ<|bc<|f9 (dJ (x:="") (ak 0) rfl B.isinstance aW rfl B.int uP)<|iV<|Dc<|dJ (x:="") (ak 0) rfl B.isinstance aW rfl B.bool tY)
theorem pX(B:Bt mg)(Fu:Fun K "common_divisor" "common_divisor" iu f fd)  :
  b8 P w K mg base (CX1 P w) 1 f fd ["first", "second"] (spF ⟨K,mg⟩ cG):=
 bW Fu cU λcdv A outer s H E hr=>by
 have hu:=hr.units;unfold gV ie;exact(aB (cO (i:=2) cU.nd rfl (ar rfl)<|bT wZ rfl B.abs JG<|aO (ak 0) aV)
  (aB (cO (i:=3) cU.nd rfl (ar rfl)<|bT wZ rfl B.abs JG<|aO (ak 1) aV)
  (aB (yW eK (bK (lC hu) (ak 3) (aa aq)<|bA _)
  (aB (cO (i:=4) cU.nd rfl (ar rfl)<|aG cJ (ak 2)<|ak 3)
  (aB (cO (i:=2) cU.nd rfl (ar rfl)<|bz 3)
  (aJ<|cO (i:=3) cU.nd rfl (ar rfl)<|bz 4))))
  (aJ<|bc<|bz 2))))
theorem Hg(B:Bt mg)(Fu:Fun K "lowest" "lowest" uK f fd)(Gcommon_divisor:FF P w K mg base 1 "common_divisor" ["first", "second"] cG):
  b8 P w K mg base (CX1 P w) 2 f fd ["top", "bottom"] (spF ⟨K,mg⟩ jr):=
 bW Fu uo λcdv A outer s H E hr=>by
 have hu:=hr.units;unfold qJ qK;exact(aB (cO (i:=2) uo.nd rfl (ar rfl)<|bY Gcommon_divisor hr aQ<|az (bz 0)<|az (bz 1) aK)
  (aB (cF (bK (CV hu) (ak 1) (aa aq)<|bA _)
  (aJ<|cO (i:=2) uo.nd rfl (ar rfl)<|za nY<|ak 2)
  bC)
  (aJ<|bc<|gY<|az (aG cV (ak 0)<|ak 2)<|az (aG cV (ak 1)<|ak 2) aK)))
theorem Ab(B:Bt mg)(Fu:Fun K "is_ratio" "is_ratio" ph f fd)(Gis_whole:FF P w K mg base 1 "is_whole" ["thing"] gj)(Gcommon_divisor:FF P w K mg base 1 "common_divisor" ["first", "second"] cG):
  b8 P w K mg base (CX1 P w) 2 f fd ["thing"] (spF ⟨K,mg⟩ gf):=
 bW Fu Az λcdv A outer s H E hr=>by
 have hu:=hr.units;unfold pI pA;exact(aB (cF (qj<|gn (cY<|cN<|dJ (x:="") (ak 0) rfl B.isinstance aW rfl B.tuple dN)<|iQ<|bK (lC hu) (aa<|bT cD rfl B.len fP<|aO (ak 0) aV) (aa aq)<|bA _)
  (aJ<|bc jt)
  bC)
  (aB (cF (qj<|gn (cY<|cN<|bY Gis_whole hr aQ<|az (bD cu (ak 0) (aa aq) λ_ _=>rfl) aK)<|iQ<|cY<|cN<|bY Gis_whole hr aQ<|az (bD cu (ak 0) (aa aq) λ_ _=>rfl) aK)
  (aJ<|bc jt)
  bC)
  (aJ<|bc<|f9 (iT RW (aa<|bD cu (ak 0) (aa aq) λ_ _=>rfl) (aa aq)<|bA _)<|iV<|iT (cg hu) (aa<|bY Gcommon_divisor hr aQ<|az (bD cu (ak 0) (aa aq) λ_ _=>rfl)<|az (bD cu (ak 0) (aa aq) λ_ _=>rfl) aK) (aa aq)<|bA _)))
theorem vX(B:Bt mg)(Fu:Fun K "show_ratio" "show_ratio" lQ f fd)  :
  b8 P w K mg base (CX1 P w) 1 f fd ["first"] (spF ⟨K,mg⟩ bU):=
 bW Fu kZ λcdv A outer s H E hr=>by
 have hu:=hr.units;unfold jh jc;exact(aB (cO (i:=1) kZ.nd rfl (ar rfl)<|cT gr rfl B.str fV<|aO (aa<|bD cu (ak 0) (aa aq) λ_ _=>rfl) aV)
  (aB (cF (bK (cg hu) (aa<|bD cu (ak 0) (aa aq) λ_ _=>rfl) (aa aq)<|bA _)
  (aJ<|bc<|bz 1)
  bC)
  (aB (cO (i:=2) kZ.nd rfl (ar rfl)<|cT gr rfl B.str fV<|aO (aa<|bD cu (ak 0) (aa aq) λ_ _=>rfl) aV)
  (aJ<|bc<|Hb<|xR (Ks<|ak 1)<|xR aZ<|xR (Ks<|ak 2) R7))))
theorem uh(B:Bt mg)(Cn:CnT K mg)(Fu:Fun K "are_figures" "are_figures" iG f fd)  :
  b8 P w K mg base (CX1 P w) 1 f fd ["text"] (spF ⟨K,mg⟩ dX):=
 bW Fu vW λcdv A outer s H E hr=>by
 have hu:=hr.units;unfold oV dY;exact(aJ<|bc<|f9 (uU rN rN (aa aq) (aa<|bT cD rfl B.len fP<|aO (ak 0) aV)<|aa<|sU Cn rfl)<|iV<|bT (jZ rfl) rfl B.all vA<|aO (aa<|nA<|lB (aC iG) ["sign"] [] 1 [] rfl ⟨rfl,by decide +kernel,by decide +kernel,by decide +kernel,by decide +kernel⟩ .nil (jV<|Kw<|bz 0) (λ_ _ _ _ _ _=>(cz (i:=0) (show eR (["sign"]:List Str) by decide) rfl (ar rfl))) (λ_ _ _ _ _ _=>eU) (λ_ _ _ _ _ _=>(iT Ao (ak 0) (aa<|BK Cn rfl)<|by with_unfolding_all rfl))) aV)
theorem vQ(B:Bt mg)(Fu:Fun K "read_ratio" "read_ratio" kJ f fd)(Glowest:FF P w K mg base 2 "lowest" ["top", "bottom"] jr)(Gshow_ratio:FF P w K mg base 1 "show_ratio" ["first"] bU)(Gare_figures:FF P w K mg base 1 "are_figures" ["text"] dX):
  b8 P w K mg base (CX1 P w) 3 f fd ["text"] (spF ⟨K,mg⟩ fK):=
 bW Fu fL λcdv A outer s H E hr=>by
 have hu:=hr.units;unfold qG dI;exact(aB (cF (cY<|cN<|dJ (x:="") (ak 0) rfl B.isinstance aW rfl B.str fV)
  (aJ um)
  bC)
  (aB (cO (i:=1) fL.nd rfl (ar rfl)<|xf eu mx PySem.F.type_str_partition vC (ak 0)<|aO (aa aZ) aV)
  (aB (cO (i:=2) fL.nd rfl (ar rfl)<|bD cu (ak 1) (aa aq) λ_ _=>rfl)
  (aB (cO (i:=3) fL.nd rfl (ar rfl)<|Ku (bK (cg hu) (aa<|bD cu (ak 1) (aa aq) λ_ _=>rfl) (aa aZ)<|bA _) (bD cu (ak 1) (aa aq) λ_ _=>rfl) aZ)
  (aB (cO (i:=4) fL.nd rfl (ar rfl)<|Ku (cN<|xf eu ml mn Bs (ak 2)<|aO (aa aZ) aV) (zq (ak 2) (yE<|aa aq) ye)<|bz 2)
  (aB (cF (qj<|gn (cY<|cN<|bY Gare_figures hr aQ<|az (bz 4) aK)<|gn (cY<|cN<|bY Gare_figures hr aQ<|az (bz 3) aK)<|iQ<|bK (cg hu) (aa<|cT oK rfl B.int uP<|aO (ak 3) aV) (aa aq)<|bA _)
  (aJ um)
  bC)
  (aB (cO (i:=5) fL.nd rfl (ar rfl)<|bY Glowest hr aQ<|az (cT oK rfl B.int uP<|aO (ak 2) aV)<|az (cT oK rfl B.int uP<|aO (ak 3) aV) aK)
  (aB (cF (bK (lC hu) (aa<|bY Gshow_ratio hr aQ<|az (bz 5) aK) (ak 0)<|bA _)
  (aJ um)
  bC)
  (aJ<|bc<|bz 5)))))))))
theorem Cr(B:Bt mg)(Cn:CnT K mg)(Fu:Fun K "is_name" "is_name" nR f fd)  :
  b8 P w K mg base (CX1 P w) 1 f fd ["thing"] (spF ⟨K,mg⟩ gk):=
 bW Fu G9 λcdv A outer s H E hr=>by
 have hu:=hr.units;unfold wO jo;exact(aB (cF (cY<|cN<|dJ (x:="") (ak 0) rfl B.isinstance aW rfl B.str fV)
  (aJ<|bc jt)
  bC)
  (aJ<|bc<|f9 (uU rN rN (aa aq) (aa<|bT cD rfl B.len fP<|aO (ak 0) aV)<|aa<|vK Cn rfl)<|iV<|bT (jZ rfl) rfl B.all vA<|aO (aa<|nA<|lB (aC nR) ["sign"] [] 1 [] rfl ⟨rfl,by decide +kernel,by decide +kernel,by decide +kernel,by decide +kernel⟩ .nil (jV<|Kw<|bz 0) (λ_ _ _ _ _ _=>(cz (i:=0) (show eR (["sign"]:List Str) by decide) rfl (ar rfl))) (λ_ _ _ _ _ _=>eU) (λ_ _ _ _ _ _=>(iT Ao (ak 0) (aa<|vB Cn rfl)<|by with_unfolding_all rfl))) aV))
theorem Ci(B:Bt mg)(Fu:Fun K "is_pair" "is_pair" qT f fd)  :
  b8 P w K mg base (CX1 P w) 1 f fd ["thing"] (spF ⟨K,mg⟩ nW):=
 bW Fu HJ λcdv A outer s H E hr=>by
 have hu:=hr.units;unfold wL wY;exact(aJ<|bc<|f9 (dJ (x:="") (ak 0) rfl B.isinstance aW rfl B.tuple dN)<|iV<|iT (cg hu) (aa<|bT cD rfl B.len fP<|aO (ak 0) aV) (aa aq)<|bA _)
theorem yq(B:Bt mg)(Fu:Fun K "are_pairs" "are_pairs" jM f fd)(Gis_pair:FF P w K mg base 1 "is_pair" ["thing"] nW):
  b8 P w K mg base (CX1 P w) 2 f fd ["thing", "most"] (spF ⟨K,mg⟩ eY):=
 bW Fu zc λcdv A outer s H E hr=>by
 have hu:=hr.units;unfold my mJ;exact(aJ<|bc<|f9 (dJ (x:="") (ak 0) rfl B.isinstance aW rfl B.tuple dN)<|f9 (uU rN rN (aa aq) (aa<|bT cD rfl B.len fP<|aO (ak 0) aV)<|ak 1)<|iV<|bT (jZ rfl) rfl B.all vA<|aO (aa<|nA<|lB (aC jM) ["each"] [] 1 [] rfl ⟨rfl,by decide +kernel,by decide +kernel,by decide +kernel,by decide +kernel⟩ .nil (jV<|mG<|bz 0) (λ_ _ _ _ _ _=>(cz (i:=0) (show eR (["each"]:List Str) by decide) rfl (ar rfl))) (λ_ _ _ _ _ _=>eU) (λ_ _ _ _ _ _=>(bY Gis_pair hr oZ<|az (bz 0) aK))) aV)
theorem Hw(B:Bt mg)(Fu:Fun K "is_end" "is_end" vg f fd)(Gis_ratio:FF P w K mg base 2 "is_ratio" ["thing"] gf):
  b8 P w K mg base (CX1 P w) 3 f fd ["thing"] (spF ⟨K,mg⟩ vm):=
 bW Fu J8 λcdv A outer s H E hr=>by
 have hu:=hr.units;unfold Ae zU;exact(aJ<|bc<|f9 (iT (cg hu) (aa<|bT cD rfl B.len fP<|aO (ak 0) aV) (aa aq)<|bA _)<|iV<|bY Gis_ratio hr aQ<|az (bD cu (ak 0) (aa aq) λ_ _=>rfl) aK)
theorem Aw(B:Bt mg)(Cn:CnT K mg)(Fu:Fun K "is_deal" "is_deal" oH f fd)(Gis_ratio:FF P w K mg base 2 "is_ratio" ["thing"] gf)(Gis_name:FF P w K mg base 1 "is_name" ["thing"] gk)(Gare_pairs:FF P w K mg base 2 "are_pairs" ["thing", "most"] eY):
  b8 P w K mg base (CX1 P w) 3 f fd ["thing"] (spF ⟨K,mg⟩ j6):=
 bW Fu GJ λcdv A outer s H E hr=>by
 have hu:=hr.units;unfold rB rJ;exact(aB (cF (qj<|gn (bK (lC hu) (aa<|bT cD rfl B.len fP<|aO (ak 0) aV) (aa aq)<|bA _)<|gn (cY<|cN<|bY Gis_name hr aQ<|az (bD cu (ak 0) (aa aq) λ_ _=>rfl) aK)<|iQ<|cY<|cN<|bY Gare_pairs hr aQ<|az (bD cu (ak 0) (aa aq) λ_ _=>rfl)<|az (vU Cn rfl) aK)
  (aJ<|bc jt)
  bC)
  (aJ<|bc<|bT (jZ rfl) rfl B.all vA<|aO (aa<|nA<|lB (aC oH) ["share", "branch"] [] 2 [] rfl ⟨rfl,by decide +kernel,by decide +kernel,by decide +kernel,by decide +kernel⟩ .nil (jV<|mG<|bD cu (ak 0) (aa aq) λ_ _=>rfl) (λ_ _ _ _ _ _=>(rz rfl<|dO (cz (i:=0) (show eR (["share", "branch"]:List Str) by decide) rfl (ar rfl)) (dO (cz (i:=1) (show eR (["share", "branch"]:List Str) by decide) rfl (ar rfl)) oF))) (λ_ _ _ _ _ _=>eU) (λ_ _ _ _ _ _=>(bY Gis_ratio hr oZ<|az (bz 0) aK))) aV))
theorem Av(B:Bt mg)(Cn:CnT K mg)(Fu:Fun K "is_move" "is_move" j9 f fd)(Gis_whole:FF P w K mg base 1 "is_whole" ["thing"] gj)(Gis_name:FF P w K mg base 1 "is_name" ["thing"] gk)(Gare_pairs:FF P w K mg base 2 "are_pairs" ["thing", "most"] eY):
  b8 P w K mg base (CX1 P w) 3 f fd ["thing"] (spF ⟨K,mg⟩ j7):=
 bW Fu wC λcdv A outer s H E hr=>by
 have hu:=hr.units;unfold rA rH;exact(aB (cF (qj<|gn (bK (lC hu) (aa<|bT cD rfl B.len fP<|aO (ak 0) aV) (aa aq)<|bA _)<|gn (cY<|cN<|bY Gis_whole hr aQ<|az (bD cu (ak 0) (aa aq) λ_ _=>rfl) aK)<|iQ<|bK xO (aa<|bD cu (ak 0) (aa aq) λ_ _=>rfl) (aa<|gY<|az aq<|az aq aK)<|by with_unfolding_all rfl)
  (aJ<|bc jt)
  bC)
  (aB (cF (qj<|gn (cY<|cN<|bY Gis_name hr aQ<|az (bD cu (ak 0) (aa aq) λ_ _=>rfl) aK)<|iQ<|cY<|cN<|bY Gare_pairs hr aQ<|az (bD cu (ak 0) (aa aq) λ_ _=>rfl)<|az (vI Cn rfl) aK)
  (aJ<|bc jt)
  bC)
  (aB (lO (i:=1) (aC j9) ["word", "branch"] [] 2 [] wC.nd rfl (ar rfl) rfl ⟨rfl,by decide +kernel,by decide +kernel,by decide +kernel,by decide +kernel⟩ .nil (jV<|mG<|bD cu (ak 0) (aa aq) λ_ _=>rfl) (λ_ _ _ _ _ _=>(rz rfl<|dO (cz (i:=0) (show eR (["word", "branch"]:List Str) by decide) rfl (ar rfl)) (dO (cz (i:=1) (show eR (["word", "branch"]:List Str) by decide) rfl (ar rfl)) oF))) (λ_ _ _ _ _ _=>eU) (λ_ _ _ _ _ _=>(bz 0)))
  (aJ<|bc<|f9 (bT (jZ rfl) rfl B.all vA<|aO (aa<|nA<|lB (aC j9) ["word"] [] 1 [] rfl ⟨rfl,by decide +kernel,by decide +kernel,by decide +kernel,by decide +kernel⟩ .nil (Mq<|ak 1) (λ_ _ _ _ _ _=>(cz (i:=0) (show eR (["word"]:List Str) by decide) rfl (ar rfl))) (λ_ _ _ _ _ _=>eU) (λ_ _ _ _ _ _=>(bY Gis_name hr oZ<|az (bz 0) aK))) aV) (iV<|iT (cg hu) (aa<|Hz rfl rfl B.len rfl B.set<|aO (ak 1) aV) (aa<|bT cD rfl B.len fP<|aO (ak 1) aV)<|bA _)))))
theorem yN(B:Bt mg)(Fu:Fun K "is_formed" "is_formed" mR f fd)(Gis_end:FF P w K mg base 3 "is_end" ["thing"] vm)(Gis_deal:FF P w K mg base 3 "is_deal" ["thing"] j6)(Gis_move:FF P w K mg base 3 "is_move" ["thing"] j7):
  b8 P w K mg base (CX1 P w) 4 f fd ["thing"] (spF ⟨K,mg⟩ dq):=
 bW Fu zJ λcdv A outer s H E hr=>by
 have hu:=hr.units;unfold jK jH;exact(aB (cF (qj<|gn (cY<|cN<|dJ (x:="") (ak 0) rfl B.isinstance aW rfl B.tuple dN)<|gn (bK (cg hu) (aa<|bT cD rfl B.len fP<|aO (ak 0) aV) (aa aq)<|bA _)<|iQ<|cY<|cN<|dJ (x:="") (aa<|bD cu (ak 0) (aa aq) λ_ _=>rfl) rfl B.isinstance aW rfl B.str fV)
  (aJ<|bc jt)
  bC)
  (aB (cF (bK (cg hu) (aa<|bD cu (ak 0) (aa aq) λ_ _=>rfl) (aa aZ)<|bA _)
  (aJ<|bc<|bY Gis_end hr aQ<|az (bz 0) aK)
  bC)
  (aB (cF (bK (cg hu) (aa<|bD cu (ak 0) (aa aq) λ_ _=>rfl) (aa aZ)<|bA _)
  (aJ<|bc<|bY Gis_deal hr aQ<|az (bz 0) aK)
  bC)
  (aJ<|bc<|f9 (iT (cg hu) (aa<|bD cu (ak 0) (aa aq) λ_ _=>rfl) (aa aZ)<|bA _)<|iV<|bY Gis_move hr aQ<|az (bz 0) aK))))
theorem Bo(B:Bt mg)(Fu:Fun K "head_of" "head_of" rC f fd)  :
  b8 P w K mg base (CX1 P w) 1 f fd ["game"] (spF ⟨K,mg⟩ fG):=
 bW Fu HW λcdv A outer s H E hr=>by
 have hu:=hr.units;unfold oG n8;exact(aB (cF (bK (cg hu) (aa<|bD cu (ak 0) (aa aq) λ_ _=>rfl) (aa aZ)<|bA _)
  (aJ<|bc<|aG bj (aa<|aG bj (aa aZ)<|aa<|bD cu (ak 0) (aa aq) λ_ _=>rfl)<|aa aZ)
  bC)
  (aJ<|bc<|aG bj (aa<|aG bj (aa<|aG bj (aa<|aG bj (aa aZ)<|aa<|cT gr rfl B.str fV<|aO (aa<|bD cu (ak 0) (aa aq) λ_ _=>rfl) aV)<|aa aZ)<|aa<|bD cu (ak 0) (aa aq) λ_ _=>rfl)<|aa aZ))
theorem By(B:Bt mg)(Fu:Fun K "lead_of" "lead_of" qU f fd)(Gshow_ratio:FF P w K mg base 1 "show_ratio" ["first"] bU):
  b8 P w K mg base (CX1 P w) 2 f fd ["game", "lead"] (spF ⟨K,mg⟩ ik):=
 bW Fu Ht λcdv A outer s H E hr=>by
 have hu:=hr.units;unfold nQ nU;exact(aJ<|bc<|Ku (bK (cg hu) (aa<|bD cu (ak 0) (aa aq) λ_ _=>rfl) (aa aZ)<|bA _) (bY Gshow_ratio hr aQ<|az (bz 1) aK)<|bz 1)
theorem xK(B:Bt mg)(Fu:Fun K "pieces_of" "pieces_of" nu f fd)(Gshow_ratio:FF P w K mg base 1 "show_ratio" ["first"] bU)(Ghead_of:FF P w K mg base 1 "head_of" ["game"] fG)(Glead_of:FF P w K mg base 2 "lead_of" ["game", "lead"] ik):
  b8 P w K mg base (CX1 P w) 3 f fd ["game"] (spF ⟨K,mg⟩ iJ):=
 bW Fu gq λcdv A outer s H E hr=>by
 have hu:=hr.units;unfold mQ gw;exact(aB (cF (bK (cg hu) (aa<|bD cu (ak 0) (aa aq) λ_ _=>rfl) (aa aZ)<|bA _)
  (aJ<|Pz<|pM<|az (aG bj (aa aZ)<|aa<|bY Gshow_ratio hr aQ<|az (bD cu (ak 0) (aa aq) λ_ _=>rfl) aK) aK)
  bC)
  (aB (uQ (i:=1) gq.nd rfl (ar rfl)<|pM aK)
  (aB (cO (i:=2) gq.nd rfl (ar rfl)<|bY Ghead_of hr aQ<|az (bz 0) aK)
  (aB (u5 (k:=1000) eK rfl (mG<|bD cu (ak 0) (aa<|za nY<|aa aq) λ_ _=>rfl) (rz rfl<|dO (cz (i:=3) gq.nd rfl<|ar rfl)<|dO (cz (i:=4) gq.nd rfl<|ar rfl) oF)
  (aB (jm 1<|aG bj (aa<|aG bj (ak 2)<|aa<|bY Glead_of hr aQ<|az (bz 0)<|az (bz 3) aK)<|aa aZ)
  (aB (jm 1<|bz 4)
  (aJ<|cO (i:=2) gq.nd rfl (ar rfl) aZ))))
  (aB (jm 1 aZ)
  (aJ<|xq 1))))))
theorem Kq(B:Bt mg)(Fu:Fun K "shown" "shown" yj f fd)(Gpieces_of:FF P w K mg base 3 "pieces_of" ["game"] iJ):
  b8 P w K mg base (CX1 P w) 4 f fd ["game"] (spF ⟨K,mg⟩ tM):=
 bW Fu tR λcdv A outer s H E hr=>by
 have hu:=hr.units;unfold Fp uc;exact(aB (uQ (i:=1) tR.nd rfl (ar rfl)<|pM aK)
  (aB (uQ (i:=2) tR.nd rfl (ar rfl)<|pM<|az (bz 0) aK)
  (aB (yW eK (bK BP (aa<|bT cD rfl B.len fP<|aO (ak 2) aV) (aa aq)<|bA _)
  (aB (w6 3 2 tR.nd rfl<|ar rfl)
  (aJ (cF (cN<|dJ (x:="") (ak 3) rfl B.isinstance aW rfl B.str fV)
  (aJ<|jm 1<|bz 3)
  (aJ<|HN 2<|O9 rfl rfl B.list rfl B.reversed<|aO (aa<|bY Gpieces_of hr aQ<|az (bz 3) aK) aV)))))
  (aJ<|bc<|xf eu ix iA qp (aa aZ)<|aO (ak 1) aV))))
theorem sW(B:Bt mg)(Fu:Fun K "_law_numbers" "_law_numbers" jy f fd)  :
  b8 P w K mg base (CX1 P w) 1 f fd ["_law_script"] (spF ⟨K,mg⟩ gJ):=
 bW Fu jA λcdv A outer s H E hr=>by
 have hu:=hr.units;unfold mX gG;exact(aB (uQ (i:=1) jA.nd rfl (ar rfl)<|pM aK)
  (aB (u5 (k:=1000) eK rfl (km rfl B.range<|aO (aa<|bT cD rfl B.len fP<|aO (aa<|zq (ak 0) ye<|yE<|aa aq) aV) aV) (cz (i:=2) jA.nd rfl<|ar rfl)
  (aJ<|jm 1<|aG cJ (aa<|aG iI (aa<|aG bj (aa<|aG bj (aa<|aG bj (aa<|aG cJ (aa<|bD cu (ak 0) (ak 2) λ_ _=>rfl)<|aa aq)<|aa<|aG iI (aa<|aG iI (aa aq)<|ak 2)<|ak 2)<|aa<|aG iI (aa aq)<|ak 2)<|aa aq)<|aa aq)<|aa aq))
  (aJ<|xq 1)))
theorem xW(B:Bt mg)(Fu:Fun K "_law_name" "_law_name" jJ f fd)  :
  b8 P w K mg base (CX1 P w) 1 f fd ["_law_x"] (spF ⟨K,mg⟩ dG):=
 bW Fu rT λcdv A outer s H E hr=>by
 have hu:=hr.units;unfold jE jF;exact(aB (cO (i:=1) rT.nd rfl (ip rfl) aZ)
  (aB (cF (bK (cg hu) (aa<|aG cJ (ak 0)<|aa aq) (aa aq)<|bA _)
  (aJ<|bc<|bD cu (aa<|nA<|pM<|az aZ<|az aZ<|az aZ<|az aZ<|az aZ aK) (aa<|aG cJ (aa<|aG cV (ak 0)<|aa aq)<|aa aq) λ_ _=>rfl)
  bC)
  (aJ<|bc<|xf eu ix iA qp (aa aZ)<|aO (aa<|nA<|lB (aC jJ) ["_law_j", "_law_signs", "_law_x"] ["_law_signs", "_law_x"] 1 [1,0] rfl ⟨rfl,by decide +kernel,by decide +kernel,by decide +kernel,by decide +kernel⟩ (.cons rfl<|.cons rfl .nil) (jV<|km rfl B.range<|aO (aa<|aG bj (aa aq)<|aa<|aG cJ (ak 0)<|aa aq) aV) (λ_ _ _ _ _ _=>(cz (i:=0) (show eR (["_law_j", "_law_signs", "_law_x"]:List Str) by decide) rfl (ar rfl))) (λ_ _ _ _ _ _=>eU) (λ_ _ _ _ _ _=>(bD cu (ak 1) (aa<|aG cJ (aa<|aG bj (aa<|aG cV (ak 2)<|aa<|aG bj (ak 0)<|aa aq)<|aa<|aG iI (aa<|aG iI (ak 0)<|ak 0)<|aa aq)<|aa aq) λ_ _=>rfl))) aV)))
theorem vH(B:Bt mg)(Fu:Fun K "_law_ratio" "_law_ratio" lH f fd)  :
  b8 P w K mg base (CX1 P w) 1 f fd ["_law_x"] (spF ⟨K,mg⟩ cQ):=
 bW Fu yM λcdv A outer s H E hr=>by
 have hu:=hr.units;unfold fO fB;exact(aB (cF (bK (cg hu) (aa<|aG cJ (ak 0)<|aa aq) (aa aq)<|bA _)
  (aJ<|bc<|gY<|az (aG kY (aa<|aG kY (aa aq)<|aa<|aG Nq (aa aq)<|aa aq)<|ak 0)<|az aq aK)
  bC)
  (aB (cF (bK (cg hu) (aa<|aG cJ (ak 0)<|aa aq) (aa aq)<|bA _)
  (aJ<|bc<|gY<|az (aG kY (aa<|aG iI (aa aq)<|aa<|aG cJ (aa<|aG cV (ak 0)<|aa aq)<|aa aq)<|aa aq)<|az aq aK)
  bC)
  (aB (cF (bK (cg hu) (aa<|aG cJ (ak 0)<|aa aq) (aa aq)<|bA _)
  (aJ<|bc<|gY<|az (aG kY (aa<|aG iI (aa aq)<|aa<|aG cJ (aa<|aG cV (ak 0)<|aa aq)<|aa aq)<|aa aq)<|az aq aK)
  bC)
  (aJ<|bc<|gY<|az (aG kY (aa<|aG cJ (aa<|aG cV (ak 0)<|aa aq)<|aa aq)<|aa aq)<|az aq aK))))
theorem vJ(B:Bt mg)(Fu:Fun K "_law_words" "_law_words" lq f fd)(G_law_name:FF P w K mg base 1 "_law_name" ["_law_x"] dG):
  b8 P w K mg base (CX1 P w) 2 f fd ["_law_x", "_law_many"] (spF ⟨K,mg⟩ ji):=
 bW Fu gD λcdv A outer s H E hr=>by
 have hu:=hr.units;unfold qx je;exact(aB (uQ (i:=2) gD.nd rfl (ar rfl)<|pM aK)
  (aB (u5 (k:=1000) eK rfl (km rfl B.range<|aO (ak 1) aV) (cz (i:=3) gD.nd rfl<|ar rfl)
  (aB (cO (i:=4) gD.nd rfl (ar rfl)<|bY G_law_name hr aQ<|az (aG bj (aa<|aG cV (ak 0)<|aa<|aG bj (ak 3)<|aa aq)<|aa<|aG iI (aa aq)<|ak 3) aK)
  (aB (cF (bK Ao (ak 4) (ak 2)<|by with_unfolding_all rfl)
  (aJ<|cO (i:=4) gD.nd rfl (ar rfl)<|aG bj (aa aZ)<|aa<|cT gr rfl B.str fV<|aO (ak 3) aV)
  bC)
  (aJ (cF (bK xO (ak 4) (ak 2)<|by with_unfolding_all rfl)
  (aJ<|jm 2<|bz 4)
  bC)))))
  (aJ<|xq 2)))
theorem vM(B:Bt mg)(Fu:Fun K "_law_grown" "_law_grown" dM f fd)(G_law_name:FF P w K mg base 1 "_law_name" ["_law_x"] dG)(G_law_ratio:FF P w K mg base 1 "_law_ratio" ["_law_x"] cQ)(G_law_words:FF P w K mg base 2 "_law_words" ["_law_x", "_law_many"] ji)(n:Nat)(G_law_grown:FIO P w K mg base (2+n) "_law_grown" ["_law_xs", "_law_deep"] (bh n)):
  b8 P w K mg base (CX1 P w) (2+n+1) f fd ["_law_xs", "_law_deep"] (G6 ⟨K,mg⟩<|bh<|n+1):=
 IK Fu fH λcdv A outer s H E hr=>by
 have hu:=hr.units;unfold cP;exact(aB (cO (i:=2) fH.nd rfl (ip rfl) aq)
  (aB (cF (bK BP (aa<|bT cD rfl B.len fP<|aO (ak 0) aV) (aa aq)<|bA _)
  (aJ<|w6 2 0 fH.nd rfl<|ip rfl)
  bC)
  (aB (cF (qj<|gn (bK (cg hu) (ak 1) (aa aq)<|bA _)<|gn (bK (cg hu) (aa<|bT cD rfl B.len fP<|aO (ak 0) aV) (aa aq)<|bA _)<|iQ<|bK (cg hu) (aa<|aG cJ (ak 2)<|aa aq) (aa aq)<|bA _)
  (aJ<|bc<|gY<|az aZ<|az (bY G_law_ratio hr aQ (az (aG cV (ak 2)<|aa aq) aK) (hk:=by omega)) aK)
  bC)
  (aB (cF (bK (CV hu) (aa<|aG cJ (ak 2)<|aa aq) (aa aq)<|bA _)
  (aB (cF (qj<|JS (bK (cg hu) (ak 1) (aa aq)<|bA _)<|DK<|bK (cg hu) (aa<|aG cJ (aa<|aG cV (ak 2)<|aa aq)<|aa aq) (aa aq)<|bA _)
  (aJ<|bc<|gY<|az aZ<|az (bY G_law_name hr aQ (az (bz 2) aK) (hk:=by omega))<|az (cT jO rfl B.tuple dN<|aO (aa<|nA<|lB (aC dM) ["_law_k"] [] 1 [] rfl ⟨rfl,by decide +kernel,by decide +kernel,by decide +kernel,by decide +kernel⟩ .nil (jV<|km rfl B.range<|aO (aa aq) aV) (λ_ _ _ _ _ _=>(cz (i:=0) (show eR (["_law_k"]:List Str) by decide) rfl (ar rfl))) (λ_ _ _ _ _ _=>eU) (λ_ _ _ _ _ _=>(gY<|az (gY<|az aq<|az aq aK)<|az (gY<|az aZ<|az (gY<|az (aG cJ (ak 0)<|aa aq)<|az aq aK) aK) aK))) aV) aK)
  bC)
  (aB (lO (i:=3) (aC dM) ["_law_k", "_law_x"] ["_law_x"] 1 [2] fH.nd rfl (ar rfl) rfl ⟨rfl,by decide +kernel,by decide +kernel,by decide +kernel,by decide +kernel⟩ (.cons rfl .nil) (jV<|km rfl B.range<|aO (aa<|aG bj (aa aq)<|aa<|aG cJ (aa<|aG cV (ak 2)<|aa aq)<|aa aq) aV) (λ_ _ _ _ _ _=>(cz (i:=0) (show eR (["_law_k", "_law_x"]:List Str) by decide) rfl (ar rfl))) (λ_ _ _ _ _ _=>eU) (λ_ _ _ _ _ _=>(bY G_law_ratio hr oZ (az (aG cV (ak 1)<|aa<|aG bj (ak 0)<|aa aq) aK) (hk:=by omega))))
  (aJ<|Qm<|Be<|gB (Es aZ)<|gB (Es<|bY G_law_name hr aQ (az (aG cV (ak 2)<|aa aq) aK) (hk:=by omega))<|gB (xm jO rfl B.tuple dN<|gB (Ft (aC dM) ["_law_share", "_law_xs", "_law_deep"] ["_law_xs", "_law_deep"] 1 [0,1] rfl ⟨rfl,by decide +kernel,by decide +kernel,by decide +kernel,by decide +kernel⟩ (.cons rfl<|.cons rfl .nil) (by decide) (De<|bz 3) (λ_ _ _ _ _ _=>(cz (i:=0) (show eR (["_law_share", "_law_xs", "_law_deep"]:List Str) by decide) rfl (ar rfl))) (λ_ _ _ _ _ _=>(Be<|gB (Es<|bz 0)<|gB (QV 1 G_law_grown hr oZ (az (aG kY (ak 2)<|aa aq) aK) (hk:=by omega)) pY))) pY) pY)))
  bC)
  (aB (cO (i:=4) fH.nd rfl (ar rfl)<|bY G_law_words hr aQ (az (aG cV (ak 2)<|aa aq)<|az (aG bj (aa<|aG bj (aa aq)<|aa<|aG cJ (aa<|aG cV (ak 2)<|aa aq)<|aa aq)<|aa<|aG iI (aa aq)<|aa<|cT oK rfl B.int uP<|aO (aa<|f9 (iT (cg hu) (aa<|aG cJ (aa<|aG cV (ak 2)<|aa aq)<|aa aq) (aa aq)<|bA _)<|iV<|iT BP (ak 1) (aa aq)<|bA _) aV) aK) (hk:=by omega))
  (aB (Mz (i:=5) fH.nd rfl (ar rfl)<|xm jO rfl B.tuple dN<|gB (Ft (aC dM) ["_law_word", "_law_xs", "_law_deep"] ["_law_xs", "_law_deep"] 1 [0,1] rfl ⟨rfl,by decide +kernel,by decide +kernel,by decide +kernel,by decide +kernel⟩ (.cons rfl<|.cons rfl .nil) (by decide) (De<|bz 4) (λ_ _ _ _ _ _=>(cz (i:=0) (show eR (["_law_word", "_law_xs", "_law_deep"]:List Str) by decide) rfl (ar rfl))) (λ_ _ _ _ _ _=>(Be<|gB (Es<|bz 0)<|gB (QV 1 G_law_grown hr oZ (az (aG kY (ak 2)<|aa aq) aK) (hk:=by omega)) pY))) pY)
  (aJ<|bc<|gY<|az aZ<|az (aG bj (aa aq)<|aa<|aG cJ (aa<|aG cV (ak 2)<|aa aq)<|aa aq)<|az (bY G_law_name hr aQ (az (aG cV (ak 2)<|aa aq) aK) (hk:=by omega))<|az (bz 5) aK)))))))
theorem pJ(B:Bt mg)(Fu:Fun K "_law_ratio_text" "_law_ratio_text" gA f fd)  :
  b8 P w K mg base (CX1 P w) 1 f fd ["_law_one"] (spF ⟨K,mg⟩ bO):=
 bW Fu qu λcdv A outer s H E hr=>by
 have hu:=hr.units;unfold eN eF;exact(aB (cF (bK (cg hu) (aa<|bD cu (ak 0) (aa aq) λ_ _=>rfl) (aa aq)<|bA _)
  (aJ<|bc<|cT gr rfl B.str fV<|aO (aa<|bD cu (ak 0) (aa aq) λ_ _=>rfl) aV)
  bC)
  (aJ<|bc<|aG bj (aa<|aG bj (aa<|cT gr rfl B.str fV<|aO (aa<|bD cu (ak 0) (aa aq) λ_ _=>rfl) aV)<|aa aZ)<|aa<|cT gr rfl B.str fV<|aO (aa<|bD cu (ak 0) (aa aq) λ_ _=>rfl) aV))
theorem yL(B:Bt mg)(Fu:Fun K "_law_text" "_law_text" iK f fd)(G_law_ratio_text:FF P w K mg base 1 "_law_ratio_text" ["_law_one"] bO)(n:Nat)(G_law_text:FF P w K mg base (1+n) "_law_text" ["_law_game"] (bN n)):
  b8 P w K mg base (CX1 P w) (1+n+1) f fd ["_law_game"] (spF ⟨K,mg⟩<|bN<|n+1):=
 bW Fu nq λcdv A outer s H E hr=>by
 have hu:=hr.units;unfold dm;exact(aB (cF (bK (cg hu) (aa<|bD cu (ak 0) (aa aq) λ_ _=>rfl) (aa aZ)<|bA _)
  (aJ<|bc<|aG bj (aa aZ)<|aa<|bY G_law_ratio_text hr aQ (az (bD cu (ak 0) (aa aq) λ_ _=>rfl) aK) (hk:=by omega))
  bC)
  (aB (cF (bK (cg hu) (aa<|bD cu (ak 0) (aa aq) λ_ _=>rfl) (aa aZ)<|bA _)
  (aB (lO (i:=1) (aC iK) ["_law_share", "_law_part"] [] 2 [] nq.nd rfl (ar rfl) rfl ⟨rfl,by decide +kernel,by decide +kernel,by decide +kernel,by decide +kernel⟩ .nil (jV<|mG<|bD cu (ak 0) (aa aq) λ_ _=>rfl) (λ_ _ _ _ _ _=>(rz rfl<|dO (cz (i:=0) (show eR (["_law_share", "_law_part"]:List Str) by decide) rfl (ar rfl)) (dO (cz (i:=1) (show eR (["_law_share", "_law_part"]:List Str) by decide) rfl (ar rfl)) oF))) (λ_ _ _ _ _ _=>eU) (λ_ _ _ _ _ _=>(aG bj (aa<|aG bj (aa<|bY G_law_ratio_text hr oZ (az (bz 0) aK) (hk:=by omega))<|aa aZ)<|aa<|bY G_law_text hr oZ (az (bz 1) aK) (hk:=by omega))))
  (aJ<|bc<|aG bj (aa<|aG bj (aa<|aG bj (aa<|aG bj (aa aZ)<|aa<|bD cu (ak 0) (aa aq) λ_ _=>rfl)<|aa aZ)<|aa<|xf eu ix iA qp (aa aZ)<|aO (ak 1) aV)<|aa aZ))
  bC)
  (aB (lO (i:=1) (aC iK) ["_law_word", "_law_part"] [] 2 [] nq.nd rfl (ar rfl) rfl ⟨rfl,by decide +kernel,by decide +kernel,by decide +kernel,by decide +kernel⟩ .nil (jV<|mG<|bD cu (ak 0) (aa aq) λ_ _=>rfl) (λ_ _ _ _ _ _=>(rz rfl<|dO (cz (i:=0) (show eR (["_law_word", "_law_part"]:List Str) by decide) rfl (ar rfl)) (dO (cz (i:=1) (show eR (["_law_word", "_law_part"]:List Str) by decide) rfl (ar rfl)) oF))) (λ_ _ _ _ _ _=>eU) (λ_ _ _ _ _ _=>(aG bj (aa<|aG bj (ak 0)<|aa aZ)<|aa<|bY G_law_text hr oZ (az (bz 1) aK) (hk:=by omega))))
  (aJ<|bc<|aG bj (aa<|aG bj (aa<|aG bj (aa<|aG bj (aa<|aG bj (aa<|aG bj (aa aZ)<|aa<|cT gr rfl B.str fV<|aO (aa<|bD cu (ak 0) (aa aq) λ_ _=>rfl) aV)<|aa aZ)<|aa<|bD cu (ak 0) (aa aq) λ_ _=>rfl)<|aa aZ)<|aa<|xf eu ix iA qp (aa aZ)<|aO (ak 1) aV)<|aa aZ))))
theorem vG(B:Bt mg)(Fu:Fun K "_law_kinds" "_law_kinds" lA f fd)  (n:Nat)(G_law_kinds:FF P w K mg base (0+n) "_law_kinds" ["_law_game"] (cR n)):
  b8 P w K mg base (CX1 P w) (0+n+1) f fd ["_law_game"] (spF ⟨K,mg⟩<|cR<|n+1):=
 bW Fu qw λcdv A outer s H E hr=>by
 have hu:=hr.units;unfold gC;exact(aB (cF (qj<|gn (cY<|cN<|dJ (x:="") (ak 0) rfl B.isinstance aW rfl B.tuple dN)<|gn (cY<|cN<|dJ (x:="") (aa<|bD cu (ak 0) (aa aq) λ_ _=>rfl) rfl B.isinstance aW rfl B.str fV)<|iQ<|bK (CV hu) (aa<|bT cD rfl B.len fP<|aO (ak 0) aV) (aa aq)<|bA _)
  (aJ<|bc jt)
  bC)
  (aB (cF (bK (cg hu) (aa<|bD cu (ak 0) (aa aq) λ_ _=>rfl) (aa aZ)<|bA _)
  (aJ<|bc<|f9 (dJ (x:="") (aa<|bD cu (ak 0) (aa aq) λ_ _=>rfl) rfl B.isinstance aW rfl B.tuple dN)<|f9 (Dc<|dJ (x:="") (aa<|bD cu (aa<|bD cu (ak 0) (aa aq) λ_ _=>rfl) (aa aq) λ_ _=>rfl) rfl B.isinstance aW rfl B.bool tY)<|iV<|Dc<|dJ (x:="") (aa<|bD cu (aa<|bD cu (ak 0) (aa aq) λ_ _=>rfl) (aa aq) λ_ _=>rfl) rfl B.isinstance aW rfl B.bool tY)
  bC)
  (aB (cF (qj<|gn (cY<|cN<|dJ (x:="") (aa<|bD cu (ak 0) (aa<|za nY<|aa aq) λ_ _=>rfl) rfl B.isinstance aW rfl B.tuple dN)<|iQ<|qj<|JS (bK (cg hu) (aa<|bD cu (ak 0) (aa aq) λ_ _=>rfl) (aa aZ)<|bA _)<|DK<|cN<|dJ (x:="") (aa<|bD cu (ak 0) (aa aq) λ_ _=>rfl) rfl B.isinstance aW rfl B.bool tY)
  (aJ<|bc jt)
  bC)
  (aB (u5 (k:=1000) eK rfl (mG<|bD cu (ak 0) (aa<|za nY<|aa aq) λ_ _=>rfl) (cz (i:=1) qw.nd rfl<|ar rfl)
  (aJ (cF (qj<|gn (cY<|cN<|dJ (x:="") (ak 1) rfl B.isinstance aW rfl B.tuple dN)<|gn (bK (lC hu) (aa<|bT cD rfl B.len fP<|aO (ak 1) aV) (aa aq)<|bA _)<|iQ<|cY<|cN<|bY G_law_kinds hr aQ (az (bD cu (ak 1) (aa aq) λ_ _=>rfl) aK) (hk:=by omega))
  (aJ<|bc jt)
  bC)))
  (aJ<|bc jt)))))
theorem yP(B:Bt mg)(Fu:Fun K "_law_told" "_law_told" nD f fd)(Gshown:FF P w K mg base 4 "shown" ["game"] tM)(Gread:FF P w K mg base 8 "read" ["text"] yO)(G_law_text:FF P w K mg base 31 "_law_text" ["_law_game"] (bN 30))(G_law_kinds:FF P w K mg base 30 "_law_kinds" ["_law_game"] (cR 30)):
  b8 P w K mg base (CX1 P w) 32 f fd ["_law_game"] (spF ⟨K,mg⟩ eX):=
 bW Fu jP λcdv A outer s H E hr=>by
 have hu:=hr.units;unfold sy jL;exact(aB (cO (i:=1) jP.nd rfl (ar rfl)<|bY G_law_text hr aQ<|az (bz 0) aK)
  (aB (cO (i:=2) jP.nd rfl (ar rfl)<|bY Gshown hr aQ<|az (bz 0) aK)
  (aB (cF (qj<|gn (cY<|cN<|dJ (x:="") (ak 2) rfl B.isinstance aW rfl B.str fV)<|gn (bK (lC hu) (ak 2) (ak 1)<|bA _)<|iQ<|bK (lC hu) (aa<|bY Gshown hr aQ<|az (bz 0) aK) (ak 1)<|bA _)
  (aJ<|bc jt)
  bC)
  (aB (cO (i:=3) jP.nd rfl (ar rfl)<|bY Gread hr aQ<|az (bz 1) aK)
  (aJ<|bc<|f9 (bY G_law_kinds hr aQ<|az (bz 3) aK)<|f9 (iT (cg hu) (ak 3) (ak 0)<|bA _)<|iV<|iT (cg hu) (aa<|bY Gshown hr aQ<|az (bz 3) aK) (ak 1)<|bA _)))))
theorem Rv(B:Bt mg)(Fu:Fun K "law" "law" wW f fd)(G_law_numbers:FF P w K mg base 1 "_law_numbers" ["_law_script"] gJ)(G_law_grown:FIO P w K mg base 32 "_law_grown" ["_law_xs", "_law_deep"] (bh 30))(G_law_told:FF P w K mg base 32 "_law_told" ["_law_game"] eX):
  b8 P w K mg base (CX1 P w) 33 f fd ["_law_script"] (spF ⟨K,mg⟩ Qw):=
 bW Fu Ge λcdv A outer s H E hr=>by
 have hu:=hr.units;unfold QG Gq;exact(aB (cO (i:=1) Ge.nd rfl (ar rfl)<|Sg G_law_grown hr aQ (Va G_law_numbers hr aQ<|az (bz 0) aK)<|az aq aK)
  (aB (cF (cY<|cN<|bY G_law_told hr aQ<|az (bz 1) aK)
  (aJ<|bc jt)
  bC)
  (aB (cF (bK (lC hu) (aa<|bD cu (ak 1) (aa aq) λ_ _=>rfl) (aa aZ)<|bA _)
  (aJ (u5 (k:=1000) eK rfl (mG<|G4 (aa<|bD cu (ak 1) (aa<|za nY<|aa aq) λ_ _=>rfl) ye<|yE<|aa aq) (rz rfl<|dO (cz (i:=2) Ge.nd rfl<|ar rfl)<|dO (cz (i:=3) Ge.nd rfl<|ar rfl) oF)
  (aJ (cF (cY<|cN<|bY G_law_told hr aQ<|az (bz 3) aK)
  (aJ<|bc jt)
  bC))))
  bC)
  (aJ<|bc jt))))
end K09
namespace F
open PySem PySem.Spec PyProof.Rows L2 Hd
theorem CP {X:Cx}:MtR X "str.startswith" (λx vs H Q=>∃z y i,x=.str z/\vs=[.str y,.int i]/\Q (.bl<|iE z y i) H):=by
 intro π s σ H x vs v us Q I rx rv h;obtain⟨z,y,i,rfl,rfl,q⟩:=h;obtain⟨t,rfl⟩:=rx;cases rv with
 |cons r1 rv=>
  cases rv with
  |cons r2 rv=>
   cases rv;obtain⟨t1,rfl⟩:=r1;obtain⟨t2,rfl⟩:=r2;exact SC.startswith3 ⟨.bl _,H,I,rfl,q⟩
theorem Qc {X:Cx}:SlR X (λx lo hi H Q=>∃z,x=.str z/\z.length<=aT/\Q (.str<|kM z lo hi) H):=by
 intro π s σ H x v vl vu lo hi sl Q I rx hs pl pu h;obtain⟨z,rfl,hz,q⟩:=h;obtain⟨t,rfl⟩:=rx;obtain⟨l,rfl,rfl⟩:=xU pl;obtain⟨u,rfl,rfl⟩:=xU pu;exact⟨"str",_,nk.lookup,mT _ _ _,wpAny_getItem_str_slice (l:=l) (u:=u) (st:=none) hs rfl<|post_val_or_str ⟨cn (Txt.slice_le z _ _) hz,λt' k=>⟨.str _,H,I.tok _,⟨t',rfl⟩,q⟩⟩⟩
def KDict (w:cp)(K:aw)(a:Addr):Prop:=∃es n,K.lookup a=some ⟨.type "dict",none,.dict es n,#[]⟩/\W.KeysLit w.params es.toList/\(a==qh)=false
theorem Ly {X:Cx}:IxR X (λx y H Q=>∃z a v u,x=.ref a/\y=.str z/\KDict X.w X.K a/\fg X.K a z=some (some u)/\RelV v u/\Q v H):=by
 intro value slice π s σ H x y vx vy Q I rx ry h hs;obtain⟨z,a,v,u,rfl,rfl,⟨es,n,hl,hk,_⟩,e,ru,q⟩:=h;obtain rfl:vx=c9 a:=rx;obtain⟨t,rfl⟩:=ry;have hm:=W.mapOf_K (prog:=X.prog) (w:=X.w) I.kIn hl hk;exact tail_any hm.typeIs slot_dict_getitem.lookup (wpAny_getItem_of (tf X.prog X.w z t) hm (W.find_K hl e) ⟨v,H,I.tok _,ru,q⟩) hs
theorem MT {X:Cx}:OpR X (cy .NotIn) (λx y H Q=>∃z a r,x=.str z/\y=.ref a/\KDict X.w X.K a/\fg X.K a z=some r/\Q (.bl !r.isSome) H):=by
 intro π s σ H x y vx vy Q I rx ry h;obtain⟨z,a,r,rfl,rfl,⟨es,n,hl,hk,lo⟩,e,q⟩:=h;obtain rfl:vy=c9 a:=ry;obtain⟨t,rfl⟩:=rx;have hm:=W.mapOf_K (prog:=X.prog) (w:=X.w) I.kIn hl hk;refine wpAny_notIn_of (tf X.prog X.w z t) lo hm ?_;rw[W.find_K hl e];exact⟨.bl _,H,I.tok _,rfl,q⟩
def tMt (mg:Zs)(c m:Str)(sp:Sp)(E:XK)(ta:TE)(t:TA):TE:=λσ H Q=>ta σ H λx H1=>∃a C dx fs,x=.ref a/\mg c=some (.ref C)/\H1 a=some (.ins C dx fs)/\fs.lookup m=none/\t σ H1 λvs H2=>sp (.ref a::vs) H2 Q E
section
variable {X:Cx}{E:XK}{o e:Expr}{es:List Expr}{ta:TE}{t:TA}{pos apos:Pos}{c m:Str}{ps:List Str}{sp:Sp}{j k:Nat}
theorem lM {pl:Sem Bool}(Fh:FMt X.prog X.w X.K X.mg X.base k c m ps sp)(hr:fZ j X.A)(hx:Passes (CX1 X.prog X.w) X E)(he:PE X o ta)(ha:PA X (e::es) t)(hk:k<=j:=by decide)
  (hst:ax (e::es) X.env=(false,eval e X.env)::ax es X.env:=by rfl) (θ:(gX pos<|ax es X.env).any (·.1)=false:=by rfl)
  (ht:eval (.Call (.Attribute o m apos) (e::es) [] pos) X.env=(do
   let ov←eval o X.env
   standAt apos.atName
   let(f,first)←holding [ov] (getMethod ov m pl)
   callWith pos f first (gX pos<|ax (e::es) X.env) (sC pos<|l9 [] X.env)):=by rfl):
  PE X (.Call (.Attribute o m apos) (e::es) [] pos) (tMt X.mg c m sp E ta t):=by
 intro π s σ H Q I h;obtain⟨C,g,fd,hC,hc,hm,G,b⟩:=Fh.ex;refine W.methodCall_KW (pl:=pl) (thn (he π s σ H _ I h) λu s1 ⟨x,H1,I1,rx,a,C',dx,fs,ex,ec,ea,l,q⟩=>?_) ht;subst ex;obtain rfl:u=c9 a:=rx
 have:some (c9 C')=some (.ref C):=ec.symm.trans hC
 cases this;refine uO I1 ea hc hm l ?_;refine tz (first:=[.ref a]) (h₀:=X.base) I.ok.mod.kin hm.kp (thn (ha pos π s1 σ H1 _ I1 q) λus s2 hE=>xq2 hE λvs H2 I2 r q2=>⟨I2.kIn,?_⟩) hst θ;exact Br (us:=.ref a::us) (vs:=.ref a::vs) G (hr.mono hk) b .nil hx I2 (.cons rfl r) (by rw[dA];exact q2)
theorem pP {pl:Sem Bool}(Fh:FMt X.prog X.w X.K X.mg X.base k c m ps sp)(hr:fZ j X.A)(hx:Passes (CX1 X.prog X.w) X E)(he:PE X o ta)(hk:k<=j:=by decide)
  (ht:eval (.Call (.Attribute o m apos) [] [] pos) X.env=(do
   let ov←eval o X.env
   standAt apos.atName
   let(f,first)←holding [ov] (getMethod ov m pl)
   callWith pos f first (gX pos<|ax [] X.env) (sC pos<|l9 [] X.env)):=by rfl):
  PE X (.Call (.Attribute o m apos) [] [] pos) (tMt X.mg c m sp E ta Jz):=by
 intro π s σ H Q I h;obtain⟨C,g,fd,hC,hc,hm,G,b⟩:=Fh.ex;refine W.methodCall_KW (pl:=pl) (thn (he π s σ H _ I h) λu s1 ⟨x,H1,I1,rx,a,C',dx,fs,ex,ec,ea,l,q⟩=>?_) ht;subst ex;obtain rfl:u=c9 a:=rx
 have:some (c9 C')=some (.ref C):=ec.symm.trans hC
 cases this;refine uO I1 ea hc hm l ?_;exact W.callWith_K0 (first:=[.ref a]) I1.kIn hm.kp<|Br (us:=[.ref a]) (vs:=[.ref a]) G (hr.mono hk) b .nil hx I1 (.cons rfl .nil) q
end
end F
namespace K09
open PySem PySem.Spec PyProof.Rows L2 Hd F
abbrev uT:Stmt:=clsAt (top 32) 1
abbrev CG:Stmt:=clsAt (top 32) 2
abbrev yF:Stmt:=clsAt (top 32) 3
theorem KH:aX ["self", "piece"] ["self", "piece"] (aC uT):=⟨rfl,rfl,rfl,by decide +kernel,rfl,by decide +kernel,by decide +kernel⟩
theorem Rf:aX ["self", "piece"] ["self", "piece"] (aC CG):=⟨rfl,rfl,rfl,by decide +kernel,rfl,by decide +kernel,by decide +kernel⟩
theorem Em:aX ["self", "start"] ["self"] (aC yF):=⟨rfl,rfl,rfl,by decide +kernel,rfl,by decide +kernel,by decide +kernel⟩
abbrev rdF (z:Str)(i:Int):List (Str×V):=[("text",.str z),("spot",.int i)]
structure RC (K:aw)(mg:Zs)(C:Addr):Prop where
 at_:mg "Reader" = some (.ref C)
 cls:Cls K C
 text:iW K C "text"
 spot:iW K C "spot"
structure Rd1 (K:aw)(mg:Zs)(H:Hp)(r C dx:Addr)(z:Str)(i:Nat):Prop where
 at_:H r=some (.ins C dx (rdF z i))
 rc:RC K mg C
 zl:z.length<=100000
 il:i<=z.length
abbrev rdU (H:Hp)(r C dx:Addr)(z:Str)(i:Nat):Hp:=upd H r<|.ins C dx<|rdF z i
def Pc (z:Str)(i:Nat)(p:Str):Bool:=iE z p i
def mC (K:aw)(mg:Zs):Sp:=λvs H Q E=>∃r C dx z i p,vs=[.ref r,.str p]/\Rd1 K mg H r C dx z i/\p.length<=1000/\
 if Pc z i p=true then Q (.bl true) (rdU H r C dx z<|i+p.length) else Q (.bl false) H
def qP (K:aw)(mg:Zs):Sp:=λvs H Q E=>∃r C dx z i p,vs=[.ref r,.str p]/\Rd1 K mg H r C dx z i/\p.length<=1000/\Pc z i p=true/\Q .non (rdU H r C dx z<|i+p.length)
section
variable {P:bb}{w:cp}{K:aw}{mg:Zs}{base:Heap}{f:Addr}{fd:de}
theorem Hm (B:Bt mg)(Fu:Fun K "passes" "Reader.passes" uT f fd):b8 P w K mg base (CX1 P w) 1 f fd ["self", "piece"] (mC K mg):=by
 refine fD Fu KH (λvs H Q E h=>?_) λcdv A outer s H vs Q E hr h=>?_
 ·obtain⟨r,C,dx,z,i,p,rfl,_⟩:=h;rfl
 ·obtain⟨r,C,dx,z,i,p,rfl,R,p1,q⟩:=h;obtain⟨hr0,rc,z1,i1⟩:=R;refine⟨_,aY (mU (uN<|mY<|wH eu ml mn CP (fj (aL (i:=0) rfl<|ar rfl) rfl)<|aP (aL (i:=1) rfl<|ar rfl)<|aP (fj (aL (i:=0) rfl<|ar rfl) rfl) bG) (cI<|gF Ka) iY)
   (aY (nj (aL (i:=0) rfl<|ar rfl) (LK (fj (aL (i:=0) rfl<|ar rfl) rfl)<|iM jg rfl B.len rfl<|aP (aL (i:=1) rfl<|ar rfl) bG) rfl)<|cI<|gF Ka),?_⟩
  have k0:(start ["self", "piece"] [.ref r,.str p])[0]? = some (some<|.ref r):=rfl;have k1:(start ["self", "piece"] [.ref r,.str p])[1]? = some (some<|.str p):=rfl;dsimp only[Ov,RX,RG,L2.tB,tBM,DP,Jz,M9,Ac,U7,Uv,t2I,tCB,MF,tC,Kr];refine⟨_,k0,r,C,dx,_,.str z,rfl,hr0,rc.cls,rc.text,rfl,rfl,_,k1,_,k0,r,C,dx,_,.int i,rfl,hr0,rc.cls,rc.spot,rfl,z,p,i,rfl,rfl,_,rfl,?_⟩;unfold Pc at q;by_cases c:iE z p i=true
  ·rw[if_pos c] at q;rw[c,if_neg<|by simp];exact⟨_,k0,r,C,dx,_,.int i,rfl,hr0,rc.cls,rc.spot,rfl,_,k1,p,rfl,cn p1 (by decide),i,_,rfl,rfl,_,k0,r,C,dx,_,rfl,hr0,rc.cls,rc.spot,by simp,q⟩
  ·rw[if_neg c] at q;have c':iE z p i=false:=by simpa using c
   rw[c',if_pos<|by simp];exact q
theorem N5 (Gp:FMt P w K mg base 1 "Reader" "passes" ["self", "piece"] (mC K mg))(Fu:Fun K "need" "Reader.need" CG f fd):b8 P w K mg base (CX1 P w) 2 f fd ["self", "piece"] (qP K mg):=by
 refine fD Fu Rf (λvs H Q E h=>?_) λcdv A outer s H vs Q E hr h=>?_
 ·obtain⟨r,C,dx,z,i,p,rfl,_⟩:=h;rfl
 ·obtain⟨r,C,dx,z,i,p,rfl,R,p1,c,q⟩:=h;refine⟨_,cI<|mU (uN<|mY<|lM Gp hr (E:=E) aQ (aL (i:=0) rfl<|ar rfl)<|aP (aL (i:=1) rfl<|ar rfl) bG) kh iY,?_⟩;have k0:(start ["self", "piece"] [.ref r,.str p])[0]? = some (some<|.ref r):=rfl;have k1:(start ["self", "piece"] [.ref r,.str p])[1]? = some (some<|.str p):=rfl;dsimp only[RX,RG,L2.tB,tMt,DP,Jz,Ac,Kr];refine⟨_,k0,r,C,dx,_,rfl,R.rc.at_,R.at_,rfl,_,k1,r,C,dx,z,i,p,rfl,R,p1,?_⟩;rw[if_pos c];exact⟨_,rfl,by rw[if_neg<|by simp];exact q⟩
end
theorem Og:ae " (),"  = tx stops:=by decide +kernel
def pQ (K:aw)(mg:Zs):Sp:=λvs H Q E=>∃r C dx,∃a c b:List Nat,vs=[.ref r]/\Rd1 K mg H r C dx (tx<|a++c++b) a.length/\(∀x∈c,x∉stops)/\(∀x,b.head? = some x->x∈stops)/\
 Q (.str<|tx c) (rdU H r C dx (tx<|a++c++b)<|a.length+c.length)
theorem S8 {H:Hp}{r:Addr}{o:HO}(h:H r=some o):upd H r o=H:=by
 funext b;unfold upd;split
 ·rename_i e;rw[e,h]
 ·rfl
theorem Su {x:Nat}:xN (.str ⟨#[x]⟩) (.str<|ae " (),")=some (!decide (x∈stops)):=by
 rw[Og];show some (!(!(cS (tx stops) ⟨#[x]⟩ 0 (tx stops).length 1).isEmpty))=_;by_cases h:x∈stops
 ·rw[Fo h,decide_eq_true h];rfl
 ·rw[Bu h,decide_eq_false h];rfl
theorem Rx {a c b:List Nat}:kM (tx<|a++c++b) (some (a.length:Int)) (some ((a.length+c.length:Nat):Int))=tx c:=by
 have:=StrLaws.sliceText_plain (x:=tx<|a++c++b) (i:=(a.length:Int)) (j:=((a.length+c.length:Nat):Int)) ⟨by omega,by omega,by rw[du];simp;omega⟩
 refine(show kM (tx<|a++c++b) _ _=_ from this).trans (Ag ?_);rw[du,show(((a.length+c.length:Nat):Int)-(a.length:Int)).toNat=c.length by omega,show((a.length:Int)).toNat=a.length by omega,bP,mP,List.take_left]
section
variable {P:bb}{w:cp}{K:aw}{mg:Zs}{base:Heap}{f:Addr}{fd:de}
theorem Lf (B:Bt mg)(Cn:CnT K mg)(Fu:Fun K "chunk" "Reader.chunk" yF f fd):b8 P w K mg base (CX1 P w) 1 f fd ["self"] (pQ K mg):=by
 refine fD Fu Em (λvs H Q E h=>?_) λcdv A outer s H vs Q E hr h=>?_
 ·obtain⟨r,C,dx,a,c,b,rfl,_⟩:=h;rfl
 ·obtain⟨r,C,dx,a,c,b,rfl,R,hc,hb,q⟩:=h;obtain⟨v0,u0,m0,r0,d0⟩:=Cn.STOPS;refine⟨_,aY (dZ (i:=1) Em.nd rfl (ar rfl)<|fj (aL (i:=0) rfl<|ar rfl) rfl)
   (aY (uC eK (PW.pt (Lk (xG<|Qp (fj (aL (i:=0) rfl<|ar rfl) rfl)<|iM jg rfl B.len rfl<|aP (fj (aL (i:=0) rfl<|ar rfl) rfl) bG)
    (Fb<|tu xO (zE (fj (aL (i:=0) rfl<|ar rfl) rfl) (fj (aL (i:=0) rfl<|ar rfl) rfl) λ_ _=>rfl) (ud rfl m0 r0)<|by with_unfolding_all rfl)))
    (cI<|nj (aL (i:=0) rfl<|ar rfl) (LK (fj (aL (i:=0) rfl<|ar rfl) rfl) qQ) rfl))
   (cI<|gF<|u6 Qc (fj (aL (i:=0) rfl<|ar rfl) rfl) (yc<|aL (i:=1) rfl<|ar rfl)<|yc<|fj (aL (i:=0) rfl<|ar rfl) rfl)),?_⟩
  have n0:a.length<=100000:=by have:=R.il;have:=R.zl;omega
  have fl:(tx<|a++c++b).length=a.length+c.length+b.length:=by rw[bB];simp;omega
  have z1:(tx<|a++c++b).length<=100000:=R.zl;obtain⟨at0,rc,_,_⟩:=R;have zs:(tx<|a++c++b).length<=aT:=cn z1 (by decide);have k0:(start ["self", "start"] [.ref r])[0]? = some (some<|.ref r):=rfl;refine⟨_,k0,r,C,dx,_,.int a.length,rfl,at0,rc.cls,rc.spot,rfl,?_⟩;refine⟨λm σ H'=>∃k,k<=c.length/\m=c.length-k/\σ=[some<|.ref r,some<|.int a.length]/\H'=rdU H r C dx (tx<|a++c++b) (a.length+k),⟨c.length,0,eW _,rfl,rfl,(S8 at0).symm⟩,?_⟩;rintro m σ H' ⟨k,hk,rfl,rfl,rfl⟩;have at1:(rdU H r C dx (tx<|a++c++b)<|a.length+k) r=some (.ins C dx<|rdF (tx<|a++c++b) ((a.length+k:Nat):Int)):=aH;refine⟨_,rfl,r,C,dx,_,.int (a.length+k:Nat),rfl,at1,rc.cls,rc.spot,rfl,_,rfl,r,C,dx,_,.str<|tx<|a++c++b,rfl,at1,rc.cls,rc.text,rfl,_,rfl,zs,_,_,rfl,rfl,_,rfl,?_⟩;have out:k=c.length->(MF<|tSl (λx lo hi H Q=>∃z,x=.str z/\z.length<=aT/\Q (.str<|kM z lo hi) H) (M9 K (Ac 0) "text") (IV<|Ac 1)<|IV<|M9 K (Ac 0) "spot") { nx:=λ_ H'=>Q .non H',rt:=Q } [some<|.ref r,some<|.int a.length] (rdU H r C dx (tx<|a++c++b)<|a.length+k):=λe=>by
   subst e;refine⟨_,rfl,r,C,dx,_,.str<|tx<|a++c++b,rfl,at1,rc.cls,rc.text,rfl,_,rfl,_,rfl,_,rfl,r,C,dx,_,.int (a.length+c.length:Nat),rfl,at1,rc.cls,rc.spot,rfl,_,rfl,_,rfl,zs,?_⟩;rw[Rx];exact q
  show if decide (((a.length+k:Nat):Int)<((tx<|a++c++b).length:Int))=true then _ else _
  by_cases h1:a.length+k<(tx<|a++c++b).length
  ·rw[if_pos<|show decide (((a.length+k:Nat):Int)<((tx<|a++c++b).length:Int))=true from decide_eq_true (by omega)];have gl:∃ch,(tx<|a++c++b).cps[(((a.length+k:Nat):Int)).toNat]? = some ch/\(a++c++b)[a.length+k]? = some ch:=by
    have h2:a.length+k<(a++c++b).length:=by rw[bB] at h1;exact h1
    refine⟨(a++c++b)[a.length+k],?_,cf h2⟩;rw[show(((a.length+k:Nat):Int)).toNat=a.length+k by omega];have e:(tx<|a++c++b).cps[a.length+k]? = (a++c++b)[a.length+k]?:=by
     rw[← pd,du]
    rw[e];exact cf h2
   obtain⟨ch,g1,g2⟩:=gl;refine⟨_,rfl,r,C,dx,_,.str<|tx<|a++c++b,rfl,at1,rc.cls,rc.text,rfl,_,rfl,r,C,dx,_,.int (a.length+k:Nat),rfl,at1,rc.cls,rc.spot,rfl,_,_,ch,rfl,rfl,by omega,by omega,by omega,g1,λ_=>False,_,_,_,λ_ z=>z.elim,.inl<|.str _,.inl<|d0 _ _,Su,_,rfl,?_⟩;rw[bP,bp (by omega),nX] at g2;show if(!decide (ch∈stops))=true then _ else _
   by_cases h3:k<c.length
   ·rw[bE h3] at g2;rw[decide_eq_false<|hc ch<|gL g2,if_pos<|by rfl];refine⟨λσ' H'=>σ'=[some<|.ref r,some<|.int a.length]/\H'=rdU H r C dx (tx<|a++c++b) (a.length+(k+1)),λσ' H' ⟨e1,e2⟩=>⟨c.length-(k+1),by omega,k+1,h3,rfl,e1,e2⟩,?_⟩;exact⟨_,rfl,r,C,dx,_,.int (a.length+k:Nat),rfl,at1,rc.cls,rc.spot,rfl,_,_,rfl,rfl,_,rfl,r,C,dx,_,rfl,at1,rc.cls,rc.spot,by simp,rfl,nP⟩
   ·have e:k=c.length:=by omega
    rw[bp (by omega),e,Nat.sub_self] at g2;rw[decide_eq_true<|hb ch (by rw[List.head?_eq_getElem?];exact g2),if_neg<|by simp];exact out e
  ·rw[if_neg (show ¬decide (((a.length+k:Nat):Int)<((tx<|a++c++b).length:Int))=true from by rw[decide_eq_true_eq];omega)];show if false=true then _ else _
   rw[if_neg<|by simp];exact out<|by omega
end
abbrev Cu:Stmt:=clsAt (top 32) 0
abbrev Cp:Stmt:=clsAt (top 33) 0
theorem Rq:aX ["self", "text"] ["self", "text"] (aC Cu):=⟨rfl,rfl,rfl,by decide +kernel,rfl,by decide +kernel,by decide +kernel⟩
theorem S9:aX ["self", "head"] ["self", "head"] (aC Cp):=⟨rfl,rfl,rfl,by decide +kernel,rfl,by decide +kernel,by decide +kernel⟩
abbrev opF (h l w:V):List (Str×V):=[("head",h),("lead",l),("ways",w)]
structure OC (K:aw)(mg:Zs)(C:Addr):Prop where
 at_:mg "Opened" = some (.ref C)
 cls:Cls K C
 head:iW K C "head"
 lead:iW K C "lead"
 ways:iW K C "ways"
def Mi (K:aw)(mg:Zs):Sp:=λvs H Q E=>∃r C dx z,vs=[.ref r,.str z]/\H r=some (.ins C dx [])/\RC K mg C/\Q .non (rdU H r C dx z 0)
def Kg (K:aw)(mg:Zs):Sp:=λvs H Q E=>∃o C dx h,vs=[.ref o,h]/\H o=some (.ins C dx [])/\OC K mg C/\∀l,H l=none->l≠o->Q .non (upd (upd H l<|.lst []) o<|.ins C dx<|opF h .non<|.ref l)
section
variable {P:bb}{w:cp}{K:aw}{mg:Zs}{base:Heap}{f:Addr}{fd:de}
theorem Nh (Fu:Fun K "__init__" "Reader.__init__" Cu f fd):b8 P w K mg base (CX1 P w) 1 f fd ["self", "text"] (Mi K mg):=by
 refine fD Fu Rq (λvs H Q E h=>?_) λcdv A outer s H vs Q E hr h=>?_
 ·obtain⟨r,C,dx,z,rfl,_⟩:=h;rfl
 ·obtain⟨r,C,dx,z,rfl,a0,rc,q⟩:=h;refine⟨_,aY (nj (aL (i:=0) rfl<|ar rfl) (aL (i:=1) rfl<|ar rfl) rfl)<|cI<|nj (aL (i:=0) rfl<|ar rfl) qQ rfl,?_⟩;refine⟨_,rfl,_,rfl,r,C,dx,_,rfl,a0,rc.cls,rc.text,by simp,?_⟩;refine⟨_,rfl,r,C,dx,_,rfl,aH,rc.cls,rc.spot,by simp[j0],?_⟩;rw[nP];exact q
theorem Pq (Fu:Fun K "__init__" "Opened.__init__" Cp f fd):b8 P w K mg base (CX1 P w) 1 f fd ["self", "head"] (Kg K mg):=by
 refine fD Fu S9 (λvs H Q E h=>?_) λcdv A outer s H vs Q E hr h=>?_
 ·obtain⟨r,C,dx,z,rfl,_⟩:=h;rfl
 ·obtain⟨o,C,dx,h,rfl,a0,rc,q⟩:=h;refine⟨_,aY (nj (aL (i:=0) rfl<|ar rfl) (aL (i:=1) rfl<|ar rfl) rfl)<|aY (nj (aL (i:=0) rfl<|ar rfl) Ck rfl)<|cI<|nj (aL (i:=0) rfl<|ar rfl) (BZ bG) rfl,?_⟩;refine⟨_,rfl,_,rfl,o,C,dx,_,rfl,a0,rc.cls,rc.head,by simp,?_⟩;refine⟨_,rfl,o,C,dx,_,rfl,aH,rc.cls,rc.lead,by simp[j0],?_⟩;rw[nP];refine⟨eW _,λl hl=>?_⟩;have ne:l≠o:=λz=>by rw[z,aH] at hl;cases hl
  have hl':H l=none:=by rw[aM ne] at hl;exact hl
  refine⟨_,rfl,o,C,dx,_,rfl,(aM ne.symm).trans aH,rc.cls,rc.ways,by simp[j0],?_⟩;have e:∀x y z:HO,upd (upd (upd H o x) l y) o z=upd (upd H l y) o z:=λx y z=>by
   funext b;unfold upd;by_cases b1:b=o<;>by_cases b2:b=l<;>simp[b1,b2]
  rw[e];exact q l hl' ne
end
abbrev Ba:Stmt:=top 34
theorem Mt:aX ["reader", "opened", "chunk"] ["reader", "opened"] (aC Ba):=⟨rfl,rfl,rfl,by decide +kernel,rfl,by decide +kernel,by decide +kernel⟩
def Aq (K:aw)(mg:Zs)(Φ:Zf):Sp:=λvs H Q E=>∃(O:Za) (r C dx o Co dxo:Addr) (hv lv wv:V) (hd:Str) (ds:List D) (a c b:List Nat) (d:D),vs=[.ref r,.ref o]/\(∀b,O b->cj (H b))/\r≠o/\
 Rd1 K mg H r C dx (tx (a++c++32::b)) a.length/\(∀x∈c,x∉stops)/\H o=some (.ins Co dxo<|opF hv lv wv)/\OC K mg Co/\O r/\DV ⟨K,mg⟩ O H hv (.tup (.str hd::ds))/\Led Φ hd c d/\
 ∀v H',aD (rdU H r C dx (tx (a++c++32::b))<|a.length+c.length+1) H'->DV ⟨K,mg⟩ O H' v d->Q .non (upd H' o<|.ins Co dxo<|opF hv v wv)
theorem KC {a b p:List Nat}(hp:p≠[]):Pc (tx<|a++p++b) a.length (tx p)=true:=by
 unfold Pc iE;have e:fromIndex (tx<|a++p++b).length (a.length:Int)=a.length:=by
  unfold fromIndex;rw[bB]
  simp
  omega
 rw[e,oB,du,du,bB,bB,bP,mP,List.take_left]
 simp
theorem K8 {H:Hp}{O:Za}{r:Addr}{o:HO}(h:O r):Kp O H (upd H r o):=λb u e n=>by
 rw[aM λz=>n (by rw[z];exact h)];exact e
theorem JQ {H:Hp}{O:Za}{r C dx:Addr}{fs:List (Str×V)}(m:∀b,O b->cj (H b)):∀b,O b->cj (upd H r (.ins C dx fs) b):=λb z=>by
 by_cases e:b=r
 ·rw[e,aH];exact .inr<|.inr<|.inr ⟨(C,dx,fs),rfl⟩
 ·rw[aM e];exact m b z
section
variable {P:bb}{w:cp}{K:aw}{mg:Zs}{base:Heap}{f:Addr}{fd:de}{Φ:Zf}{kr:Nat}
theorem Qj (Gc:FMt P w K mg base 1 "Reader" "chunk" ["self"] (pQ K mg))(Gn:FMt P w K mg base 2 "Reader" "need" ["self", "piece"] (qP K mg))(Gr:FF P w K mg base 4 "read_ratio" ["text"] Φ)(Fu:Fun K "read_lead" "read_lead" Ba f fd):b8 P w K mg base (CX1 P w) 5 f fd ["reader", "opened"] (Aq K mg Φ):=by
 refine fD Fu Mt (λvs H Q E h=>?_) λcdv A outer s H vs Q E hr h=>?_
 ·obtain⟨O,r,C,dx,o,Co,dxo,hv,lv,wv,hd,ds,a,c,b,d,rfl,_⟩:=h;rfl
 ·obtain⟨O,r,C,dx,o,Co,dxo,hv,lv,wv,hd,ds,a,c,b,d,rfl,mO,ro,R,hc,ao,oc,or,dh,ld,q⟩:=h;have hu:=hr.units;refine⟨_,aY (dZ (i:=2) Mt.nd rfl (ar rfl)<|pP Gc hr (E:=E) aQ<|aL (i:=0) rfl<|ar rfl)
   (aY (fU<|lM Gn hr (E:=E) aQ (aL (i:=0) rfl<|ar rfl)<|aP ig bG)
   (cI<|nj (aL (i:=1) rfl<|ar rfl) (Aj (tu (cg hu) (Ed cu (fj (aL (i:=1) rfl<|ar rfl) rfl) qQ λ_ _=>rfl) ig<|bA _) (oX Gr hr<|aP (aL (i:=2) rfl<|ar rfl) bG)<|aL (i:=2) rfl<|ar rfl) rfl)),?_⟩
  have hst:∀x,(32::b).head? = some x->x∈stops:=λx e=>by cases e;decide
  refine⟨_,rfl,r,C,dx,_,rfl,R.rc.at_,R.at_,rfl,r,C,dx,a,c,32::b,rfl,R,hc,hst,?_⟩;have zl:(tx (a++c++32::b)).length=a.length+c.length+b.length+1:=by rw[bB];simp;omega
  have R1:Rd1 K mg (rdU H r C dx (tx (a++c++32::b))<|a.length+c.length) r C dx (tx (a++c++32::b)) (a.length+c.length):=⟨aH,R.rc,R.zl,by omega⟩;have s32:ae " " = tx [32]:=by decide +kernel
  have pc:Pc (tx (a++c++32::b)) (a.length+c.length) " " = true:=by
   have:=KC (a:=a++c) (p:=[32]) (b:=b)<|by simp
   rw[be] at this;show Pc _ _ (ae " ")=true;rw[s32];simpa using this
  have l1:(ae " ").length=1:=by decide +kernel
  refine⟨_,rfl,r,C,dx,_,rfl,R.rc.at_,aH,rfl,r,C,dx,_,_,_,rfl,R1,by rw[l1];decide,pc,?_⟩;unfold rdU;rw[nP,l1];generalize hH:upd H r (.ins C dx<|rdF (tx (a++c++32::b)) ((a.length+c.length+1:Nat):Int))=H2;have mO2:∀b,O b->cj (H2 b):=by rw[← hH];exact JQ mO
  have dh2:DV ⟨K,mg⟩ O H2 hv (.tup (.str hd::ds)):=by rw[← hH];exact dh.kp mO<|K8 or
  have ao2:H2 o=some (.ins Co dxo<|opF hv lv wv):=by rw[← hH,aM ro.symm];exact ao
  have q:∀v H',aD H2 H'->DV ⟨K,mg⟩ O H' v d->Q .non (upd H' o<|.ins Co dxo<|opF hv v wv):=λv H' g dv=>q v H' (by unfold rdU;rw[hH];exact g) dv;refine⟨_,rfl,o,Co,dxo,_,hv,rfl,ao2,oc.cls,oc.head,rfl,O,_,_,_,mO2,.inl dh2,.inl<|.int 0,(by show atI (D.str hd::ds) 0=_;unfold L2.atI L2.ixN;simp:gIx (.tup (.str hd::ds)) (.int 0)=some (.str hd)),λv H3 g3 dv=>?_⟩;cases dv;have mO3:∀b,O b->cj (H3 b):=λb z=>fJ g3<|mO2 b z;refine⟨O,_,_,_,mO3,.inl<|.str _,.inl<|.str _,rfl,_,rfl,?_⟩;show if decide (hd = "deal")=true then _ else _
  have fin:∀v H',aD H3 H'->DV ⟨K,mg⟩ O H' v d->∃v0,([some<|.ref r,some<|.ref o,some<|.str<|tx c]:L2.St)[1]? = some (some v0)/\∃a C dx fs,v0=.ref a/\H' a=some (.ins C dx fs)/\Cls K C/\iW K C "lead"/\fs.length<1000/\Q .non (upd H' a<|.ins C dx<|j0 "lead" v fs):=λv H' g dv=>
   ⟨_,rfl,o,Co,dxo,_,rfl,g _ _<|g3 _ _ ao2,oc.cls,oc.lead,by simp,q v H' (g3.trans g) dv⟩
  unfold Led at ld;by_cases hdl:hd = "deal"
  ·rw[if_pos hdl] at ld;obtain⟨fr,e⟩:=ld;rw[if_pos<|decide_eq_true hdl];refine⟨_,rfl,O,[.str<|tx c],mO3,.cons (.str _) .nil,?_⟩;rw[e];exact λv H' g dv _=>fin v H' g dv
  ·rw[if_neg hdl] at ld;subst ld;rw[if_neg<|by simpa using hdl];exact⟨_,rfl,fin _ H3 (aD.refl _)<|.str _⟩
end
abbrev Bk:Stmt:=top 35
abbrev Cq:Stmt:=top 36
theorem Jq:aX ["reader", "chunk"] ["reader"] (aC Bk):=⟨rfl,rfl,rfl,by decide +kernel,rfl,by decide +kernel,by decide +kernel⟩
theorem xT:aX ["reader", "head", "side"] ["reader"] (aC Cq):=⟨rfl,rfl,rfl,by decide +kernel,rfl,by decide +kernel,by decide +kernel⟩
structure SdT (w:cp)(K:aw)(mg:Zs):Prop where
 ex:∃a,mg "SIDES" = some (.ref a)/\KDict w K a/\(∃t,fg K a "1" = some (some (.int 1 t)))/\∃t,fg K a "2" = some (some (.int 2 t))
theorem Up {w:cp}{K:aw}{mg:Zs}(S:SdT w K mg){s:Int}(h:s=1\/s=2):∃a t,mg "SIDES" = some (.ref a)/\KDict w K a/\fg K a (tx<|sdS s)=some (some<|.int s t):=by
 obtain⟨a,h1,h2,⟨t1,h3⟩,t2,h4⟩:=S.ex;have e1:ae "1" = tx [49]:=by decide +kernel
 have e2:ae "2" = tx [50]:=by decide +kernel
 rcases h with rfl|rfl
 ·exact⟨a,t1,h1,h2,by show fg K a (tx [49])=_;rw[← e1];exact h3⟩
 ·exact⟨a,t2,h1,h2,by show fg K a (tx [50])=_;rw[← e2];exact h4⟩
def K5 (K:aw)(mg:Zs):Sp:=λvs H Q E=>∃(r C dx:Addr) (s:Int) (a b:List Nat),vs=[.ref r]/\(s=1\/s=2)/\Rd1 K mg H r C dx (tx (a++sdS s++32::b)) a.length/\Q (.int s) (rdU H r C dx (tx (a++sdS s++32::b))<|a.length+(sdS s).length+1)
theorem s32:ae " " = tx [32]:=by decide +kernel
theorem l32:(ae " ").length=1:=by decide +kernel
theorem TY {a c b:List Nat}:Pc (tx (a++c++32::b)) (a.length+c.length) " " = true:=by
 have:=KC (a:=a++c) (p:=[32]) (b:=b)<|by simp
 rw[be] at this;show Pc _ _ (ae " ")=true;rw[s32];simpa using this
section
variable {P:bb}{w:cp}{K:aw}{mg:Zs}{base:Heap}{f:Addr}{fd:de}
theorem Np (S:SdT w K mg)(Gc:FMt P w K mg base 1 "Reader" "chunk" ["self"] (pQ K mg))(Gn:FMt P w K mg base 2 "Reader" "need" ["self", "piece"] (qP K mg))(Fu:Fun K "read_side" "read_side" Bk f fd):b8 P w K mg base (CX1 P w) 3 f fd ["reader"] (K5 K mg):=by
 refine fD Fu Jq (λvs H Q E h=>?_) λcdv A outer s H vs Q E hr h=>?_
 ·obtain⟨r,C,dx,s,a,b,rfl,_⟩:=h;rfl
 ·obtain⟨r,C,dx,sd,a,b,rfl,hs,R,q⟩:=h;obtain⟨da,t,m0,kd,ns⟩:=Up S hs;refine⟨_,aY (dZ (i:=1) Jq.nd rfl (ar rfl)<|pP Gc hr (E:=E) aQ<|aL (i:=0) rfl<|ar rfl)
   (aY (mU (tu MT (aL (i:=1) rfl<|ar rfl) (ud (v:=.ref da) rfl m0 rfl)<|by with_unfolding_all rfl) kh iY)
   (aY (fU<|lM Gn hr (E:=E) aQ (aL (i:=0) rfl<|ar rfl)<|aP ig bG)
   (cI<|gF<|Ed Ly (ud (v:=.ref da) rfl m0 rfl) (aL (i:=1) rfl<|ar rfl) λ_ _=>rfl))),?_⟩
  have hst:∀x,(32::b).head? = some x->x∈stops:=λx e=>by cases e;decide
  have hc:∀x∈sdS sd,x∉stops:=by rcases hs with rfl|rfl<;>decide
  refine⟨_,rfl,r,C,dx,_,rfl,R.rc.at_,R.at_,rfl,r,C,dx,a,sdS sd,32::b,rfl,R,hc,hst,?_⟩;have zl:(tx (a++sdS sd++32::b)).length=a.length+(sdS sd).length+b.length+1:=by rw[bB];simp;omega
  refine⟨_,rfl,tx<|sdS sd,da,_,rfl,rfl,kd,ns,_,rfl,?_⟩;show if false=true then _ else _
  rw[if_neg<|by simp];have R1:Rd1 K mg (rdU H r C dx (tx (a++sdS sd++32::b))<|a.length+(sdS sd).length) r C dx (tx (a++sdS sd++32::b)) (a.length+(sdS sd).length):=⟨aH,R.rc,R.zl,by omega⟩;refine⟨_,rfl,r,C,dx,_,rfl,R.rc.at_,aH,rfl,r,C,dx,_,_,_,rfl,R1,by rw[l32];decide,TY,?_⟩;refine⟨_,rfl,tx<|sdS sd,da,.int sd,.int sd t,rfl,rfl,kd,ns,⟨t,rfl⟩,?_⟩;unfold rdU at q ⊢;rw[nP,l32];exact q
end
theorem TV:ae "deal " = tx dlT:=by decide +kernel
theorem V9:ae "move " = tx mvT:=by decide +kernel
theorem VL:ae "(" = tx [40]:=by decide +kernel
theorem wR {T a p b:List Nat}{P:Str}(hP:P=tx p)(hp:p≠[])(e:T=a++p++b):Pc (tx T) a.length P=true:=by rw[hP,e];exact KC hp
theorem CT {a b p:List Nat}{P:Str}(hP:P=tx p)(h:b.take p.length≠p):Pc (tx<|a++b) a.length P=false:=by
 unfold Pc iE;have e:fromIndex (tx<|a++b).length (a.length:Int)=a.length:=by
  unfold fromIndex;rw[bB]
  simp
  omega
 rw[e,hP,oB,du,du,bB,bB,mP]
 have:(b.take p.length==p)=false:=by simpa using h
 rw[this]
 simp
theorem Qi {H H2:Hp}{r:Addr}{x y:HO}(k:∀b o,b≠r->H b=some o->H2 b=some o):aD (upd H r x) (upd H2 r x):=λb o e=>by
 by_cases z:b=r
 ·rw[z,aH] at e ⊢;exact e
 ·rw[aM z] at e ⊢;exact k b o z e
def Lg (K:aw)(mg:Zs):Sp:=λvs H Q E=>∃(O:Za) (r C dx:Addr) (ho:Option Int) (n a b:List Nat),vs=[.ref r]/\(∀s,ho=some s->s=1\/s=2)/\(∀x∈n,x∉stops)/\Rd1 K mg H r C dx (tx (a++hT ho n++40::b)) a.length/\
 ∀v H',aD (rdU H r C dx (tx (a++hT ho n++40::b))<|a.length+(hT ho n).length+1) H'->DV ⟨K,mg⟩ O H' v (hD ho n)->Q v H'
section
variable {P:bb}{w:cp}{K:aw}{mg:Zs}{base:Heap}{f:Addr}{fd:de}
theorem NZ (Gp:FMt P w K mg base 1 "Reader" "passes" ["self", "piece"] (mC K mg))(Gc:FMt P w K mg base 1 "Reader" "chunk" ["self"] (pQ K mg))(Gn:FMt P w K mg base 2 "Reader" "need" ["self", "piece"] (qP K mg))(Gs:Hd.Fn P w K mg base 3 "read_side" ["reader"] (K5 K mg))(Fu:Fun K "read_head" "read_head" Cq f fd):b8 P w K mg base (CX1 P w) 4 f fd ["reader"] (Lg K mg):=by
 refine fD Fu xT (λvs H Q E h=>?_) (λcdv A outer s H vs Q E hr h=>?_)
 ·obtain ⟨O,r,C,dx,ho,n,a,b,rfl,_⟩:=h;rfl
 ·obtain ⟨O,r,C,dx,ho,n,a,b,rfl,hs,hn,R,q⟩:=h;refine ⟨_,aY (mU (mY (lM Gp hr (E:=E) aQ (aL (i:=0) rfl (ar rfl)) (aP ig bG)))
    (cI (dZ (i:=1) xT.nd rfl (ar rfl) (rD (aP ig (aP (pP Gc hr (E:=E) aQ (aL (i:=0) rfl (ar rfl))) bG)))))
    (aY (fU (lM Gn hr (E:=E) aQ (aL (i:=0) rfl (ar rfl)) (aP ig bG)))
    (aY (dZ (i:=2) xT.nd rfl (ar rfl) (oX Gs hr (aP (aL (i:=0) rfl (ar rfl)) bG)))
    (cI (dZ (i:=1) xT.nd rfl (ar rfl) (rD (aP ig (aP (aL (i:=2) rfl (ar rfl)) (aP (pP Gc hr (E:=E) aQ (aL (i:=0) rfl (ar rfl))) bG)))))))))
   (aY (fU (lM Gn hr (E:=E) aQ (aL (i:=0) rfl (ar rfl)) (aP ig bG)))
   (cI (gF (aL (i:=1) rfl (ar rfl))))),?_⟩
  have zl:(tx (a++hT ho n++40::b)).length=a.length+(hT ho n).length+b.length+1:=by rw [bB];simp;omega
  generalize hz:tx (a++hT ho n++40::b)=z at *;have zl1:=R.zl;have Rk:∀{H':Hp} {i:Nat},i<=z.length->Rd1 K mg (rdU H' r C dx z i) r C dx z i:=λh=>⟨aH,R.rc,zl1,h⟩;have hst:∀x,(40::b).head? = some x->x∈stops:=λx e=>by cases e;decide
  have lo:(ae "(").length=1:=by decide +kernel
  have fin:∀(H1:Hp) (p:Addr) (xs:List V) (σ:L2.St),(∀b o,b≠r->H b=some o->H1 b=some o)->H1 p=none->p≠r->DVs ⟨K,mg⟩ O (upd (upd H1 p (.tup xs)) r (.ins C dx (rdF z ((a.length+(hT ho n).length+1:Nat):Int)))) xs (match hD ho n with | .tup ds=>ds | _=>[])->σ[0]? = some (some (.ref r))->σ[1]? = some (some (.ref p))->H1 r=some (.ins C dx (rdF z ((a.length+(hT ho n).length:Nat):Int)))->
    (Ov (Qt (tMt mg "Reader" "need" (qP K mg) E (Ac 0) (DP (tC (.str "(")) Jz))) (MF (Ac 1))) { nx:=λ_ H'=>Q .non H',rt:=Q } σ (upd H1 p (.tup xs)):=λH1 p xs σ kp hp pr dv s0 s1 hr1=>by
   have h2:upd H1 p (.tup xs) r=some (.ins C dx (rdF z ((a.length+(hT ho n).length:Nat):Int))):=(aM pr.symm).trans hr1;have R2:Rd1 K mg (upd H1 p (.tup xs)) r C dx z (a.length+(hT ho n).length):=⟨h2,R.rc,zl1,by omega⟩;have pc:Pc z (a.length+(hT ho n).length) "(" = true:=by
    rw [← hz,← be];exact wR (a:=a++hT ho n) (p:=[40]) (b:=b) VL (by simp) (by simp)
   refine ⟨_,s0,r,C,dx,_,rfl,R.rc.at_,h2,rfl,r,C,dx,z,_,_,rfl,R2,by rw [lo];decide,pc,?_⟩;refine ⟨_,s1,?_⟩;unfold rdU;rw [lo];refine q _ _ (Qi (y:=.lst []) λb o nb e=>?_) ?_
   ·rw [aM (λz=>by rw [z] at nb e;rw [kp p o pr e] at hp;cases hp)];exact kp b o nb e
   ·have dt:∃ds,hD ho n=.tup ds:=by cases ho<;>exact ⟨_,rfl⟩
    obtain ⟨ds,ed⟩:=dt;rw [ed] at dv ⊢;exact .tup (.inl ((aM pr).trans aH)) dv
  have l5:(ae "deal ").length=5:=by decide +kernel
  have m5:(ae "move ").length=5:=by decide +kernel
  cases ho with
  |none=>
   have hz2:tx ((a++dlT)++n++40::b)=z:=by rw [← hz];congr 1;simp [hT]
   have le:(hT none n).length=5+n.length:=by simp [hT];omega
   have pc:Pc z a.length "deal " = true:=by rw [← hz];exact wR (p:=dlT) (b:=n++40::b) TV (by simp) (by simp [hT])
   refine ⟨_,rfl,r,C,dx,_,rfl,R.rc.at_,R.at_,rfl,r,C,dx,z,_,_,rfl,R,by rw [l5];decide,?_⟩;rw [if_pos pc];refine ⟨_,rfl,?_⟩;show if true=true then _ else _
   rw [if_pos rfl];have R1:Rd1 K mg (rdU H r C dx z (a.length+(ae "deal ").length)) r C dx (tx ((a++dlT)++n++40::b)) (a++dlT).length:=by
    rw [hz2,l5,show (a++dlT).length=a.length+5 by simp];exact Rk (by omega)
   refine ⟨_,rfl,r,C,dx,_,rfl,R.rc.at_,aH,rfl,r,C,dx,a++dlT,n,40::b,rfl,R1,hn,hst,by simp,λp hp=>?_⟩;have pr:p≠r:=λe=>by rw [e] at hp;unfold rdU at hp;rw [aH] at hp;cases hp
   refine fin _ p _ _ (λb o nb e=>?_) hp pr (.cons (.str _) (.cons (.str _) .nil)) rfl rfl ?_
   ·unfold rdU;rw [aM nb,aM nb];exact e
   ·unfold rdU;rw [aH,hz2,show (a++dlT).length+n.length=a.length+(hT none n).length by rw [le];simp;omega]
  |some sd=>
   have hsd:=hs sd rfl;have ls:(sdS sd).length=1:=by unfold sdS;split<;>rfl
   have hz2:tx ((a++mvT)++sdS sd++32::(n++40::b))=z:=by rw [← hz];congr 1;simp [hT]
   have hz3:tx ((a++mvT++sdS sd++[32])++n++40::b)=z:=by rw [← hz];congr 1;simp [hT]
   have le:(hT (some sd) n).length=7+n.length:=by simp [hT,ls];omega
   have pc0:Pc z a.length "deal " = false:=by rw [← hz,bP];exact CT TV (by simp [hT])
   have pc:Pc z a.length "move " = true:=by rw [← hz];exact wR (p:=mvT) (b:=sdS sd++32::n++40::b) V9 (by simp) (by simp [hT])
   refine ⟨_,rfl,r,C,dx,_,rfl,R.rc.at_,R.at_,rfl,r,C,dx,z,_,_,rfl,R,by rw [l5];decide,?_⟩;rw [if_neg (by rw [pc0];simp)];refine ⟨_,rfl,?_⟩;show if false=true then _ else _
   rw [if_neg (by simp)];refine ⟨_,rfl,r,C,dx,_,rfl,R.rc.at_,R.at_,rfl,r,C,dx,z,_,_,rfl,R,by rw [m5];decide,pc,?_⟩;have R1:Rd1 K mg (rdU H r C dx z (a.length+(ae "move ").length)) r C dx (tx ((a++mvT)++sdS sd++32::(n++40::b))) (a++mvT).length:=by
    rw [hz2,m5,show (a++mvT).length=a.length+5 by simp];exact Rk (by omega)
   refine ⟨_,rfl,r,C,dx,sd,a++mvT,n++40::b,rfl,hsd,R1,?_⟩;have e7:(a++mvT++sdS sd++([32]:List Nat)).length=(a++mvT).length+(sdS sd).length+1:=by simp [ls]
   have e8:(a++mvT++sdS sd++([32]:List Nat)).length=a.length+7:=by simp [ls]
   have e9:(a++mvT++sdS sd++([32]:List Nat)).length+n.length=a.length+(hT (some sd) n).length:=by rw [le,e8];omega
   have R2:Rd1 K mg (rdU (rdU H r C dx z (a.length+(ae "move ").length)) r C dx (tx ((a++mvT)++sdS sd++32::(n++40::b))) ((a++mvT).length+(sdS sd).length+1)) r C dx (tx ((a++mvT++sdS sd++[32])++n++40::b)) (a++mvT++sdS sd++[32]).length:=by
    rw [hz3,hz2,e7];exact Rk (by rw [← e7,e8];omega)
   refine ⟨_,rfl,_,rfl,r,C,dx,_,rfl,R.rc.at_,aH,rfl,r,C,dx,a++mvT++sdS sd++[32],n,40::b,rfl,R2,hn,hst,by simp,λp hp=>?_⟩;have pr:p≠r:=λe=>by rw [e] at hp;unfold rdU at hp;rw [aH] at hp;cases hp
   refine fin _ p _ _ (λb o nb e=>?_) hp pr (.cons (.str _) (.cons (.int _) (.cons (.str _) .nil))) rfl rfl ?_
   ·unfold rdU;rw [aM nb,aM nb,aM nb];exact e
   ·unfold rdU;rw [aH,hz3,e9]
end
abbrev yx:Stmt:=top 37
theorem Fd:aX ["reader", "waiting", "opened"] ["reader", "waiting"] (aC yx):=⟨rfl,rfl,rfl,by decide +kernel,rfl,by decide +kernel,by decide +kernel⟩
theorem T8:ae "end " = tx enT:=by decide +kernel
def BgE (K:aw)(mg:Zs)(Φ:Zf)(O:Za)(r C dx:Addr)(H:Hp)(Q:VK):Prop:=∃(a c b:List Nat) (d:D) (fr:Bool),Rd1 K mg H r C dx (tx<|a++(enT++c)++b) a.length/\(∀x∈c,x∉stops)/\(∀x,b.head? = some x->x∈stops)/\Φ [.str<|tx c]=.ok (fr,d)/\
 ∀v H',aD (rdU H r C dx (tx<|a++(enT++c)++b)<|a.length+(enT++c).length) H'->DV ⟨K,mg⟩ O H' v (.tup [.str "end",d])->Q v H'
def BgO (K:aw)(mg:Zs)(Φ:Zf)(O:Za)(r C dx w:Addr)(H:Hp)(Q:VK):Prop:=∃(ho:Option Int) (n a c b:List Nat) (d:D) (xs:List V),Rd1 K mg H r C dx (tx (a++hT ho n++40::(c++32::b))) a.length/\(∀s,ho=some s->s=1\/s=2)/\(∀x∈n,x∉stops)/\(∀x∈c,x∉stops)/\
 Led Φ (hN ho) c d/\H w=some (.lst xs)/\xs.length<1000000/\
 ∀o Co dxo l hv lv H',OC K mg Co->H o=none->H l=none->o≠l->H' r=some (.ins C dx<|rdF (tx (a++hT ho n++40::(c++32::b))) ((a.length+(hT ho n).length+1+c.length+1:Nat):Int))->H' w=some (.lst<|xs++[.ref o])->H' o=some (.ins Co dxo<|opF hv lv<|.ref l)->H' l=some (.lst [])->(∀b u,b≠r->b≠w->H b=some u->H' b=some u)->
  DV ⟨K,mg⟩ (λb=>O b\/b=o\/b=l) H' hv (hD ho n)->DV ⟨K,mg⟩ (λb=>O b\/b=o\/b=l) H' lv d->Q .non H'
def yd (K:aw)(mg:Zs)(Φ:Zf):Sp:=λvs H Q E=>∃(O:Za) (r C dx w:Addr),vs=[.ref r,.ref w]/\(∀b,O b->cj (H b))/\O r/\O w/\r≠w/\(BgE K mg Φ O r C dx H Q\/BgO K mg Φ O r C dx w H Q)
section
variable {P:bb}{w:cp}{K:aw}{mg:Zs}{base:Heap}{f:Addr}{fd:de}{Φ:Zf}
theorem KN (Gp:FMt P w K mg base 1 "Reader" "passes" ["self", "piece"] (mC K mg))(Gc:FMt P w K mg base 1 "Reader" "chunk" ["self"] (pQ K mg))(Gr:FF P w K mg base 4 "read_ratio" ["text"] Φ)(Gm:MkT P w K mg base 1 "Opened" ["self", "head"] (Kg K mg))(oc:∀C,mg "Opened" = some (.ref C)->OC K mg C)
  (Gh:Hd.Fn P w K mg base 4 "read_head" ["reader"] (Lg K mg)) (Gl:Hd.Fn P w K mg base 5 "read_lead" ["reader", "opened"] (Aq K mg Φ)) (Fu:Fun K "begun" "begun" yx f fd):b8 P w K mg base (CX1 P w) 6 f fd ["reader", "waiting"] (yd K mg Φ):=by
 refine fD Fu Fd (λvs H Q E h=>?_) (λcdv A outer s H vs Q E hr h=>?_)
 ·obtain ⟨O,r,C,dx,w,rfl,_⟩:=h;rfl
 ·obtain ⟨O,r,C,dx,wa,rfl,mO,or,ow,rw_,h⟩:=h;obtain ⟨Co,gi,fdi,hC,M,Gi,bi⟩:=Gm.ex;have occ:=oc Co hC;refine ⟨_,aY (mU (mY (lM Gp hr (E:=E) aQ (aL (i:=0) rfl (ar rfl)) (aP ig bG)))
    (cI (gF (rD (aP ig (aP (oX Gr hr (aP (pP Gc hr (E:=E) aQ (aL (i:=0) rfl (ar rfl))) bG)) bG))))) iY)
   (aY (dZ (i:=2) Fd.nd rfl (ar rfl) (DR M Gi (hr.mono (by decide)) rfl hC bi .nil (E:=E) aQ (aP (oX Gh hr (aP (aL (i:=0) rfl (ar rfl)) bG)) bG)))
   (aY (fU (oX Gl hr (aP (aL (i:=0) rfl (ar rfl)) (aP (aL (i:=2) rfl (ar rfl)) bG))))
   (aY (fU (wH eM jS j3 ou (aL (i:=1) rfl (ar rfl)) (aP (aL (i:=2) rfl (ar rfl)) bG)))
   (cI (gF Ck))))),?_⟩
  have l4:(ae "end ").length=4:=by decide +kernel
  rcases h with ⟨a,c,b,d,fr,R,hc,hb,e,q⟩ | ⟨ho,n,a,c,b,d,xs,R,hs,hn,hc,ld,hw,hx,q⟩
  ·have zl:(tx (a++(enT++c)++b)).length=a.length+4+c.length+b.length:=by rw [bB];simp;omega
   have el:(enT++c).length=4+c.length:=by simp;omega
   generalize hz:tx (a++(enT++c)++b)=z at *;have hz2:tx ((a++enT)++c++b)=z:=by rw [← hz];congr 1;simp
   have pc:Pc z a.length "end " = true:=by rw [← hz];exact wR (p:=enT) (b:=c++b) T8 (by simp) (by simp)
   refine ⟨_,rfl,r,C,dx,_,rfl,R.rc.at_,R.at_,rfl,r,C,dx,z,_,_,rfl,R,by rw [l4];decide,?_⟩;rw [if_pos pc];refine ⟨_,rfl,?_⟩;show if true=true then _ else _
   rw [if_pos rfl];have R1:Rd1 K mg (rdU H r C dx z (a.length+(ae "end ").length)) r C dx (tx ((a++enT)++c++b)) (a++enT).length:=by
    rw [hz2,l4,show (a++enT).length=a.length+4 by simp];exact ⟨aH,R.rc,R.zl,by omega⟩
   refine ⟨_,rfl,r,C,dx,_,rfl,R.rc.at_,aH,rfl,r,C,dx,a++enT,c,b,rfl,R1,hc,hb,?_⟩;have eH:rdU (rdU H r C dx z (a.length+(ae "end ").length)) r C dx (tx ((a++enT)++c++b)) ((a++enT).length+c.length)=rdU H r C dx z (a.length+(enT++c).length):=by
    unfold rdU;rw [nP,hz2,show (a++enT).length+c.length=a.length+(enT++c).length by rw [el];simp;omega]
   rw [eH];refine ⟨O,[.str (tx c)],JQ mO,.cons (.str _) .nil,?_⟩;rw [e];refine λv H3 g3 dv _=>⟨by simp,λp hp=>q _ _ (g3.trans (bJ hp _)) (.tup (.inl aH) (.cons (.str _) (.cons (dv.mono (bJ hp _)) .nil)))⟩
  ·have zl:(tx (a++hT ho n++40::(c++32::b))).length=a.length+(hT ho n).length+1+c.length+1+b.length:=by rw [bB];simp;omega
   have hz2:tx ((a++hT ho n++[40])++c++32::b)=tx (a++hT ho n++40::(c++32::b)):=by congr 1;simp
   have a2l:(a++hT ho n++([40]:List Nat)).length=a.length+(hT ho n).length+1:=by simp;omega
   have pc:Pc (tx (a++hT ho n++40::(c++32::b))) a.length "end " = false:=by rw [bP];exact CT T8 (by cases ho<;>simp [hT])
   refine ⟨_,rfl,r,C,dx,_,rfl,R.rc.at_,R.at_,rfl,r,C,dx,_,_,_,rfl,R,by rw [l4];decide,?_⟩;rw [if_neg (by rw [pc];simp)];refine ⟨_,rfl,?_⟩;show if false=true then _ else _
   rw [if_neg (by simp)];refine ⟨_,rfl,O,r,C,dx,ho,n,a,c++32::b,rfl,hs,hn,R,λv H1 g1 dv x dx' hx1 hd1 hdx=>?_⟩;generalize hz:tx (a++hT ho n++40::(c++32::b))=z at *;have h1r:H1 r=some (.ins C dx (rdF z ((a.length+(hT ho n).length+1:Nat):Int))):=g1 _ _ aH;have k1:∀b u,b≠r->H b=some u->H1 b=some u:=λb u nb e=>g1 b u (by unfold rdU;rw [aM nb];exact e);have back:∀b,H1 b=none->H b=none:=λb e=>by
    cases hb:H b with
    |none=>rfl
    |some u=>
     by_cases z:b=r
     ·rw [z,h1r] at e;cases e
     ·rw [k1 b u z hb] at e;cases e
   have m1:∀b,O b->cj (H1 b):=λb ob=>by
    by_cases z:b=r
    ·rw [z,h1r];exact .inr (.inr (.inr ⟨(C,dx,_),rfl⟩))
    ·cases hb:H b with
     |none=>have:=mO b ob;rw [hb] at this;rcases this with ⟨_,e⟩ | ⟨_,e⟩ | ⟨_,e⟩ | ⟨_,e⟩<;>cases e
     |some u=>rw [k1 b u z hb,← hb];exact mO b ob
   have h1w:H1 wa=some (.lst xs):=k1 _ _ rw_.symm hw;refine ⟨x,Co,dx',v,rfl,aH,occ,λl hl nlx=>⟨rfl,?_⟩⟩;rw [aM nlx] at hl;have nld:l≠dx':=λe=>by rw [e,aH] at hl;cases hl
   rw [aM nld] at hl;have nxr:x≠r:=λe=>by rw [e,h1r] at hx1;cases hx1
   have nxw:x≠wa:=λe=>by rw [e,h1w] at hx1;cases hx1
   have nlr:l≠r:=λe=>by rw [e,h1r] at hl;cases hl
   have nlw:l≠wa:=λe=>by rw [e,h1w] at hl;cases hl
   have ndr:dx'≠r:=λe=>by rw [e,h1r] at hd1;cases hd1
   have ndw:dx'≠wa:=λe=>by rw [e,h1w] at hd1;cases hd1
   generalize hH2:upd (upd (upd (upd H1 dx' (.own x)) x (.ins Co dx' [])) l (.lst [])) x (.ins Co dx' (opF v .non (.ref l)))=H2;have old:∀b,b≠x->b≠l->b≠dx'->H2 b=H1 b:=λb b1 b2 b3=>by rw [← hH2,aM b1,aM b2,aM b1,aM b3]
   have h2x:H2 x=some (.ins Co dx' (opF v .non (.ref l))):=by rw [← hH2];exact aH
   have h2l:H2 l=some (.lst []):=by rw [← hH2,aM nlx];exact aH
   have h2r:H2 r=some (.ins C dx (rdF z ((a.length+(hT ho n).length+1:Nat):Int))):=(old r nxr.symm nlr.symm ndr.symm).trans h1r;have h2w:H2 wa=some (.lst xs):=(old wa nxw.symm nlw.symm ndw.symm).trans h1w;have s12:aD H1 H2:=λb u e=>by
    rw [old b (λz=>by rw [z,hx1] at e;cases e) (λz=>by rw [z,hl] at e;cases e) (λz=>by rw [z,hd1] at e;cases e)];exact e
   have mO2:∀b,(O b\/b=x\/b=l)->cj (H2 b):=λb z=>by
    rcases z with z | z | z
    ·exact fJ s12 (m1 b z)
    ·rw [z,h2x];exact .inr (.inr (.inr ⟨(Co,dx',_),rfl⟩))
    ·rw [z,h2l];exact .inl ⟨[],rfl⟩
   have dv2:DV ⟨K,mg⟩ (λb=>O b\/b=x\/b=l) H2 v (hD ho n):=(dv.bZ (O':=λb=>O b\/b=x\/b=l) λb z=>by
    rcases z with z | z | z
    ·exact .inl z
    ·exact .inr (by rw [z];exact hx1)
    ·exact .inr (by rw [z];exact hl)).mono s12
   have R2:Rd1 K mg H2 r C dx (tx ((a++hT ho n++[40])++c++32::b)) (a++hT ho n++([40]:List Nat)).length:=by
    rw [hz2,a2l];exact ⟨h2r,R.rc,R.zl,by omega⟩
   obtain ⟨hd,ds,ed,ehd⟩:∃hd ds,hD ho n=.tup (.str hd::ds)/\hN ho=hd:=by cases ho<;>exact ⟨_,_,rfl,rfl⟩
   rw [ehd] at ld;refine ⟨_,rfl,_,rfl,λb=>O b\/b=x\/b=l,r,C,dx,x,Co,dx',v,.non,.ref l,hd,ds,a++hT ho n++[40],c,b,d,rfl,mO2,nxr.symm,R2,hc,h2x,occ,.inl or,by rw [← ed];exact dv2,ld,λlv H3 g3 dv3=>?_⟩;rw [hz2,a2l] at g3;have h3r:H3 r=some (.ins C dx (rdF z ((a.length+(hT ho n).length+1+c.length+1:Nat):Int))):=g3 _ _ aH;have k3:∀b u,b≠r->H2 b=some u->H3 b=some u:=λb u nb e=>g3 b u (by unfold rdU;rw [aM nb];exact e);have h3w:H3 wa=some (.lst xs):=k3 _ _ rw_.symm h2w;have h3l:H3 l=some (.lst []):=k3 _ _ nlr h2l;have h3x:H3 x=some (.ins Co dx' (opF v .non (.ref l))):=k3 _ _ nxr h2x;have h4w:upd H3 x (.ins Co dx' (opF v lv (.ref l))) wa=some (.lst xs):=(aM nxw.symm).trans h3w;refine ⟨_,rfl,.inl ⟨rfl,xs,.inl (.inl h4w)⟩,_,rfl,wa,xs,.ref x,rfl,rfl,h4w,a9 hx (by decide),?_⟩;have m3:∀b,(O b\/b=x\/b=l)->cj (H3 b):=λb z=>by
    by_cases e:b=r
    ·rw [e,h3r];exact .inr (.inr (.inr ⟨(C,dx,_),rfl⟩))
    ·cases hb:H2 b with
     |none=>have:=mO2 b z;rw [hb] at this;rcases this with ⟨_,e⟩ | ⟨_,e⟩ | ⟨_,e⟩ | ⟨_,e⟩<;>cases e
     |some u=>rw [k3 b u e hb,← hb];exact mO2 b z
   have kp:Kp (λb=>O b\/b=x\/b=l) H3 (upd (upd H3 x (.ins Co dx' (opF v lv (.ref l)))) wa (.lst (xs++[.ref x]))):=λb u e nb=>by
    rw [aM (λz=>nb (.inl (by rw [z];exact ow))),aM (λz=>nb (.inr (.inl z)))];exact e
   have kp2:Kp (λb=>O b\/b=x\/b=l) H2 H3:=λb u e nb=>k3 b u (λz=>nb (.inl (by rw [z];exact or))) e;refine q x Co dx' l v lv _ occ (back x hx1) (back l hl) nlx.symm ?_ aH ?_ ?_ ?_ ((dv2.kp mO2 kp2).kp m3 kp) (dv3.kp m3 kp)
   ·rw [aM rw_,aM nxr.symm];exact h3r
   ·rw [aM nxw];exact aH
   ·rw [aM nlw,aM nlx];exact h3l
   ·intro b u b1 b2 e;have e1:=k1 b u b1 e;have bx:b≠x:=λz=>by rw [z,hx1] at e1;cases e1
    rw [aM b2,aM bx];exact k3 b u b1 (s12 b u e1)
end
abbrev Ax:Stmt:=top 38
theorem Bf:aX ["reader", "waiting", "game", "opened", "closed"] ["reader", "waiting", "game"] (aC Ax):=⟨rfl,rfl,rfl,by decide +kernel,rfl,by decide +kernel,by decide +kernel⟩
structure Top (K:aw)(mg:Zs)(O:Za)(H:Hp)(r wa o Co dxo l:Addr)(hv lv:V)(xs:List Addr)(ws:List V)(hd:Str)(ds wd:List D)(dl:D):Prop where
 mO:∀b,O b->cj (H b)
 or:O r
 ow:O wa
 oo:O o
 ol:O l
 n1:r≠wa
 n2:r≠o
 n3:r≠l
 n4:wa≠o
 n5:wa≠l
 n6:o≠l
 hw:H wa=some (.lst ((xs++[o]).map V.ref))
 ho:H o=some (.ins Co dxo (opF hv lv (.ref l)))
 oc:OC K mg Co
 hl:H l=some (.lst ws)
 lw:ws.length<1000000
 dh:DV ⟨K,mg⟩ O H hv (.tup (.str hd::ds))
 dl:DV ⟨K,mg⟩ O H lv dl
 dw:DVs ⟨K,mg⟩ O H ws wd
theorem Top.mono {K:aw}{mg:Zs}{O:Za}{H H':Hp}{r wa o Co dxo l:Addr}{hv lv:V}{xs:List Addr}{ws:List V}{hd:Str}{ds wd:List D}{dl:D}(T:Top K mg O H r wa o Co dxo l hv lv xs ws hd ds wd dl)(g:aD H H'):Top K mg O H' r wa o Co dxo l hv lv xs ws hd ds wd dl:=
 ⟨λb z=>fJ g<|T.mO b z,T.or,T.ow,T.oo,T.ol,T.n1,T.n2,T.n3,T.n4,T.n5,T.n6,g _ _ T.hw,g _ _ T.ho,T.oc,g _ _ T.hl,T.lw,T.dh.mono g,T.dl.mono g,T.dw.mono g⟩
def GnN (K:aw)(mg:Zs)(Φ:Zf)(O:Za)(r C dx o Co dxo l:Addr)(hv:V)(ws:List V)(hd:Str)(dl dg:D)(H:Hp)(Q:VK):Prop:=∃(a c b:List Nat) (d:D),Rd1 K mg H r C dx (tx<|a++[44,32]++(c++32::b)) a.length/\(∀x∈c,x∉stops)/\Led Φ hd c d/\
 ∀p lv H',H p=none->H' r=some (.ins C dx<|rdF (tx<|a++[44,32]++(c++32::b)) ((a.length+2+c.length+1:Nat):Int))->H' l=some (.lst<|ws++[.ref p])->H' o=some (.ins Co dxo<|opF hv lv<|.ref l)->(∀b u,b≠r->b≠o->b≠l->H b=some u->H' b=some u)->
  DV ⟨K,mg⟩ O H' lv d->DV ⟨K,mg⟩ O H' (.ref p) (.tup [dl,dg])->Q .non H'
def GnC (K:aw)(mg:Zs)(Ψ:Zf)(O:Za)(r C dx wa l:Addr)(xs:List Addr)(hd:Str)(ds wd:List D)(dl dg:D)(H:Hp)(Q:VK):Prop:=∃(a b:List Nat) (fr:Bool),Rd1 K mg H r C dx (tx<|a++[41]++b) a.length/\Ψ [.tup (.str hd::ds++[.tup<|wd++[.tup [dl,dg]]])]=.ok (fr,.bl true)/\ds.length<=10/\
 ∀v H',H' r=some (.ins C dx<|rdF (tx<|a++[41]++b) ((a.length+1:Nat):Int))->H' wa=some (.lst<|xs.map V.ref)->(∀b u,b≠r->b≠wa->b≠l->H b=some u->H' b=some u)->DV ⟨K,mg⟩ O H' v (.tup (.str hd::ds++[.tup<|wd++[.tup [dl,dg]]]))->Q v H'
def Bd (K:aw)(mg:Zs)(Φ Ψ:Zf):Sp:=λvs H Q E=>∃(O:Za) (r C dx wa o Co dxo l:Addr) (hv lv gv:V) (xs:List Addr) (ws:List V) (hd:Str) (ds wd:List D) (dl dg:D),vs=[.ref r,.ref wa,gv]/\Top K mg O H r wa o Co dxo l hv lv xs ws hd ds wd dl/\DV ⟨K,mg⟩ O H gv dg/\
 (GnN K mg Φ O r C dx o Co dxo l hv ws hd dl dg H Q\/GnC K mg Ψ O r C dx wa l xs hd ds wd dl dg H Q)
theorem QW {G:Gx}{O:Za}{H:Hp}:∀xs:List Addr,DVs G O H (xs.map V.ref) (xs.map D.adr)
 |[]=>.nil
 |a::xs=>.cons (.adr a)<|QW xs
theorem Oh {xs:List Addr}{o:Addr}:gIx (.lst<|(xs++[o]).map D.adr) (.int (-1))=some (.adr o):=by
 show atI ((xs++[o]).map D.adr) (-1)=_;unfold L2.atI L2.ixN
 simp
 rw[if_pos<|by omega];show(List.map D.adr xs++[D.adr o])[(-1+((xs.length:Int)+1)).toNat]? = _;rw[show(-1+((xs.length:Int)+1)).toNat=xs.length by omega]
 simp
theorem K1 {xs:List Addr}{o:Addr}:((xs++[o]).map V.ref).dropLast=xs.map V.ref:=by
 rw[show(xs++[o]).map V.ref=xs.map V.ref++[V.ref o] by simp];exact qr
theorem Ko {xs:List Addr}{o:Addr}:((xs++[o]).map V.ref)[((xs++[o]).map V.ref).length-1]? = some (.ref o):=by
 have e:(xs++[o]).map V.ref=xs.map V.ref++[V.ref o]:=by simp
 rw[e,show(xs.map V.ref++[V.ref o]).length-1=(xs.map V.ref).length by simp,bp<|aI _]
 simp
section
variable {P:bb}{w:cp}{K:aw}{mg:Zs}{base:Heap}{f:Addr}{fd:de}{Φ Ψ:Zf}
theorem Pr (B:Bt mg)(Gp:FMt P w K mg base 1 "Reader" "passes" ["self", "piece"] (mC K mg))(Gn:FMt P w K mg base 2 "Reader" "need" ["self", "piece"] (qP K mg))(Gf:FF P w K mg base 6 "is_formed" ["thing"] Ψ)
  (Gl:Hd.Fn P w K mg base 5 "read_lead" ["reader", "opened"] (Aq K mg Φ)) (Fu:Fun K "gone_on" "gone_on" Ax f fd):b8 P w K mg base (CX1 P w) 7 f fd ["reader", "waiting", "game"] (Bd K mg Φ Ψ):=by
 refine fD Fu Bf (λvs H Q E h=>by obtain⟨O,r,C,dx,wa,o,Co,dxo,l,hv,lv,gv,xs,ws,hd,ds,wd,dl,dg,rfl,_⟩:=h;rfl) λcdv A outer s H vs Q E hr h=>?_;obtain⟨O,r,C,dx,wa,o,Co,dxo,l,hv,lv,gv,xs,ws,hd,ds,wd,dl,dg,rfl,T,dgv,h⟩:=h;have hu:=hr.units;refine⟨_,aY (dZ (i:=3) Bf.nd rfl (ar rfl)<|Ed cu (aL (i:=1) rfl<|ar rfl) (QH nY qQ) λ_ _=>rfl)
  (aY (fU<|wH eM jS j3 ou (fj (aL (i:=3) rfl<|ar rfl) rfl)<|aP (rD<|aP (fj (aL (i:=3) rfl<|ar rfl) rfl)<|aP (aL (i:=2) rfl<|ar rfl) bG) bG)
  (aY (mU (mY<|lM Gp hr (E:=E) aQ (aL (i:=0) rfl<|ar rfl)<|aP ig bG)
   (aY (fU<|oX Gl hr<|aP (aL (i:=0) rfl<|ar rfl)<|aP (aL (i:=3) rfl<|ar rfl) bG)<|cI<|gF Ck) iY)
  (aY (fU<|lM Gn hr (E:=E) aQ (aL (i:=0) rfl<|ar rfl)<|aP ig bG)
  (aY (fU<|Mp eM pw px Mf<|aL (i:=1) rfl<|ar rfl)
  (aY (dZ (i:=4) Bf.nd rfl (ar rfl)<|QB bj (fj (aL (i:=3) rfl<|ar rfl) rfl)<|rD<|aP (oE jO rfl B.tuple dN<|aP (fj (aL (i:=3) rfl<|ar rfl) rfl) bG) bG)
  (aY (mU (uN<|mY<|oX Gf hr<|aP (aL (i:=4) rfl<|ar rfl) bG) kh iY)
  (cI<|gF<|aL (i:=4) rfl<|ar rfl))))))),?_⟩
 refine⟨_,rfl,O,_,_,T.mO,.inl<|.int 1,(rfl:pU (.int 1)=some (.int (-1))),λv1 H1 g1 d1=>?_⟩;cases d1;have T1:=T.mono g1;refine⟨O,.lst<|(xs++[o]).map D.adr,.int (-1),_,T1.mO,.inr ⟨wa,rfl,T1.ow,_,T1.hw,QW _⟩,.inl<|.int _,Oh,λv2 H2 g2 d2=>?_⟩;have T2:=T1.mono g2;have g02:=g1.trans g2;cases d2;refine⟨_,rfl,o,Co,dxo,_,.ref l,rfl,T2.ho,T2.oc.cls,T2.oc.ways,rfl,.inl ⟨rfl,ws,.inl<|.inl T2.hl⟩,_,rfl,o,Co,dxo,_,lv,rfl,T2.ho,T2.oc.cls,T2.oc.lead,rfl,_,rfl,by simp,λp hp=>?_⟩;have ne:∀{b u},H2 b=some u->b≠p:=λe z=>by rw[z,hp] at e;cases e
 have h3l:upd H2 p (.tup [lv,gv]) l=some (.lst ws):=(aM<|ne T2.hl).trans T2.hl;refine⟨l,ws,.ref p,rfl,rfl,h3l,a9 T2.lw (by decide),?_⟩;generalize hH4:upd (upd H2 p<|.tup [lv,gv]) l (.lst<|ws++[.ref p])=H4;have old:∀b,b≠p->b≠l->H4 b=H2 b:=λb b1 b2=>by rw[← hH4,aM b2,aM b1]
 have np:H p=none:=by
  cases e:H p with
  |none=>rfl
  |some u=>rw[g02 _ _ e] at hp;cases hp
 have npl:p≠l:=λz=>ne T2.hl z.symm;have h4p:H4 p=some (.tup [lv,gv]):=by rw[← hH4,aM npl];exact aH
 have h4l:H4 l=some (.lst<|ws++[.ref p]):=by rw[← hH4];exact aH
 have h4o:H4 o=some (.ins Co dxo<|opF hv lv<|.ref l):=(old o (ne T2.ho) T2.n6).trans T2.ho;have h4w:H4 wa=some (.lst<|(xs++[o]).map V.ref):=(old wa (ne T2.hw) T2.n5).trans T2.hw;have kp4:Kp O H2 H4:=λb u e nb=>by
  rw[old b (ne e) λz=>nb (by rw[z];exact T2.ol)];exact e
 have mO4:∀b,O b->cj (H4 b):=λb ob=>by
  by_cases z:b=l
  ·rw[z,h4l];exact .inl ⟨_,rfl⟩
  ·have m2:=T2.mO b ob;have nb:b≠p:=λy=>by rw[y,hp] at m2;rcases m2 with⟨_,e⟩|⟨_,e⟩|⟨_,e⟩|⟨_,e⟩<;>cases e
   rw[old b nb z];exact m2
 have dh4:=T2.dh.kp T2.mO kp4;have dl4:=T2.dl.kp T2.mO kp4;have dg4:DV ⟨K,mg⟩ O H4 gv dg:=(dgv.mono g02).kp T2.mO kp4;have dp4:DV ⟨K,mg⟩ O H4 (.ref p) (.tup [dl,dg]):=.tup (.inl h4p)<|.cons dl4<|.cons dg4 .nil;have dw4:DVs ⟨K,mg⟩ O H4 (ws++[.ref p]) (wd++[.tup [dl,dg]]):=iC (T2.dw.kp T2.mO kp4)<|.cons dp4 .nil;have rd4:∀{z i},Rd1 K mg H r C dx z i->Rd1 K mg H4 r C dx z i:=λR=>⟨(old r (ne<|g02 _ _ R.at_) T2.n3).trans<|g02 _ _ R.at_,R.rc,R.zl,R.il⟩;have k4:∀b u,b≠l->H b=some u->H4 b=some u:=λb u nb e=>(old b (ne<|g02 _ _ e) nb).trans<|g02 _ _ e;have lc:(ae ", ").length=2:=by decide +kernel
 have lp:(ae ")").length=1:=by decide +kernel
 have sc:ae ", " = tx [44,32]:=by decide +kernel
 have sp:ae ")" = tx [41]:=by decide +kernel
 rcases h with⟨a,c,b,d,R,hc,ld,q⟩|⟨a,b,fr,R,e,dsl,q⟩
 ·have zl:(tx<|a++[44,32]++(c++32::b)).length=a.length+2+c.length+1+b.length:=by rw[bB];simp;omega
  have hz2:tx ((a++[44,32])++c++32::b)=tx (a++[44,32]++(c++32::b)):=by congr 1;simp
  have a2l:(a++([44,32]:List Nat)).length=a.length+2:=by simp
  have pc:Pc (tx<|a++[44,32]++(c++32::b)) a.length ", " = true:=wR (p:=[44,32]) (b:=c++32::b) sc (by simp) rfl;have R4:=rd4 R;refine⟨_,rfl,r,C,dx,_,rfl,R.rc.at_,R4.at_,rfl,r,C,dx,_,_,_,rfl,R4,by rw[lc];decide,?_⟩;rw[if_pos pc];refine⟨_,rfl,?_⟩;show if true=true then _ else _
  rw[if_pos rfl,lc];generalize hz:tx (a++[44,32]++(c++32::b))=z at *;have m5:∀b,O b->cj (rdU H4 r C dx z (a.length+2) b):=JQ mO4;have k5:Kp O H4 (rdU H4 r C dx z<|a.length+2):=K8 T2.or;have R5:Rd1 K mg (rdU H4 r C dx z<|a.length+2) r C dx (tx ((a++[44,32])++c++32::b)) (a++([44,32]:List Nat)).length:=by
   rw[hz2,a2l];exact⟨aH,R.rc,R.zl,by omega⟩
  refine⟨_,rfl,_,rfl,O,r,C,dx,o,Co,dxo,hv,lv,.ref l,hd,ds,a++[44,32],c,b,d,rfl,m5,T2.n2,R5,hc,(aM T2.n2.symm).trans h4o,T2.oc,T2.or,dh4.kp mO4 k5,ld,λlv' H6 g6 dv6=>?_⟩;rw[hz2,a2l] at g6;have h6r:H6 r=some (.ins C dx<|rdF z ((a.length+2+c.length+1:Nat):Int)):=g6 _ _ aH;have k6:∀b u,b≠r->H4 b=some u->H6 b=some u:=λb u nb e=>g6 b u (by unfold rdU;rw[aM nb,aM nb];exact e);have kq:Kp O H4 H6:=λb u e nb=>k6 b u (λz=>nb (by rw[z];exact T2.or)) e;have m6:∀b,O b->cj (H6 b):=λb ob=>by
   by_cases z:b=r
   ·rw[z,h6r];exact .inr<|.inr<|.inr ⟨(C,dx,_),rfl⟩
   ·cases hb:H4 b with
    |none=>have:=mO4 b ob;rw[hb] at this;rcases this with⟨_,e⟩|⟨_,e⟩|⟨_,e⟩|⟨_,e⟩<;>cases e
    |some u=>rw[k6 b u z hb,← hb];exact mO4 b ob
  have k7:Kp O H6 (upd H6 o<|.ins Co dxo<|opF hv lv'<|.ref l):=K8 T2.oo;refine q p lv' _ np ((aM T2.n2).trans h6r) ((aM T2.n6.symm).trans<|k6 _ _ T2.n3.symm h4l) aH (λb u b1 b2 b3 e=>(aM b2).trans<|k6 b u b1<|k4 b u b3 e) (dv6.kp m6 k7)<|(dp4.kp mO4 kq).kp m6 k7
 ·have zl:(tx<|a++[41]++b).length=a.length+1+b.length:=by rw[bB];simp;omega
  have pc0:Pc (tx<|a++[41]++b) a.length ", " = false:=by rw[bP];exact CT sc<|by simp
  have pc:Pc (tx<|a++[41]++b) a.length ")" = true:=wR (p:=[41]) (b:=b) sp (by simp) rfl;have R4:=rd4 R;refine⟨_,rfl,r,C,dx,_,rfl,R.rc.at_,R4.at_,rfl,r,C,dx,_,_,_,rfl,R4,by rw[lc];decide,?_⟩;rw[if_neg (by rw[pc0];simp)];refine⟨_,rfl,?_⟩;show if false=true then _ else _
  rw[if_neg<|by simp];refine⟨_,rfl,r,C,dx,_,rfl,R.rc.at_,R4.at_,rfl,r,C,dx,_,_,_,rfl,R4,by rw[lp];decide,pc,?_⟩;rw[lp];generalize hz:tx (a++[41]++b)=z at *;have h5w:rdU H4 r C dx z (a.length+1) wa=some (.lst<|(xs++[o]).map V.ref):=(aM T2.n1.symm).trans h4w;refine⟨_,rfl,.inl ⟨rfl,_,.inl<|.inl h5w⟩,wa,_,.ref o,rfl,rfl,h5w,Ko,?_⟩;rw[K1];generalize hH6:upd (rdU H4 r C dx z<|a.length+1) wa (.lst<|xs.map V.ref)=H6;have old6:∀b,b≠wa->b≠r->H6 b=H4 b:=λb b1 b2=>by rw[← hH6,aM b1];exact aM b2
  have h6r:H6 r=some (.ins C dx<|rdF z ((a.length+1:Nat):Int)):=by rw[← hH6,aM T2.n1];exact aH
  have h6w:H6 wa=some (.lst<|xs.map V.ref):=by rw[← hH6];exact aH
  have k6:Kp O H4 H6:=λb u e nb=>by rw[old6 b (λz=>nb (by rw[z];exact T2.ow)) λz=>nb (by rw[z];exact T2.or)];exact e
  have m6:∀b,O b->cj (H6 b):=λb ob=>by
   by_cases z:b=r
   ·rw[z,h6r];exact .inr<|.inr<|.inr ⟨(C,dx,_),rfl⟩
   ·by_cases y:b=wa
    ·rw[y,h6w];exact .inl ⟨_,rfl⟩
    ·rw[old6 b y z];exact mO4 b ob
  have h6o:H6 o=some (.ins Co dxo<|opF hv lv<|.ref l):=(old6 o T2.n4.symm T2.n2.symm).trans h4o;have h6l:H6 l=some (.lst<|ws++[.ref p]):=(old6 l T2.n5.symm T2.n3.symm).trans h4l;refine⟨_,rfl,o,Co,dxo,_,hv,rfl,h6o,T2.oc.cls,T2.oc.head,rfl,_,rfl,o,Co,dxo,_,.ref l,rfl,h6o,T2.oc.cls,T2.oc.ways,rfl,O,[D.lst<|wd++[D.tup [dl,dg]]],D.tup<|wd++[D.tup [dl,dg]],m6,.cons (.inr ⟨l,rfl,T2.ol,_,h6l,dw4.kp mO4 k6⟩) .nil,rfl,λv7 H7 g7 d7=>⟨by simp,λp' hp'=>?_⟩⟩;have g67:aD H6 (upd H7 p'<|.tup [v7]):=g7.trans<|bJ hp' _;have m7:∀b,O b->cj (upd H7 p' (.tup [v7]) b):=λb ob=>fJ g67<|m6 b ob;refine⟨O,.tup (.str hd::ds),.tup [.tup<|wd++[.tup [dl,dg]]],.tup (.str hd::ds++[.tup<|wd++[.tup [dl,dg]]]),m7,.inl<|(dh4.kp mO4 k6).mono g67,.inl<|.tup (.inl aH)<|.cons (d7.mono<|bJ hp' _) .nil,?_,λv8 H8 g8 d8=>?_⟩
  ·show(if(D.str hd::ds).length+[D.tup<|wd++[.tup [dl,dg]]].length<=aT then some (D.tup<|(D.str hd::ds)++[D.tup<|wd++[.tup [dl,dg]]]) else none)=_;have zz:aT=16777216:=rfl;rw[if_pos (by simp only[bS,List.length_nil];omega)]
  ·have g68:=g67.trans g8;have m8:∀b,O b->cj (H8 b):=λb ob=>fJ g68<|m6 b ob;refine⟨_,rfl,O,_,m8,.cons d8 .nil,?_⟩;rw[e];refine λv9 H9 g9 d9 _=>?_;cases d9;refine⟨_,rfl,?_⟩;show if false=true then _ else _
   rw[if_neg<|by simp];refine⟨_,rfl,q _ _ ((g68.trans g9) _ _ h6r) ((g68.trans g9) _ _ h6w) (λb u b1 b2 b3 e=>(g68.trans g9) _ _<|(old6 b b2 b1).trans<|k4 b u b3 e)<|d8.mono g9⟩
end
structure Frm where
 ho:Option Int
 n:List Nat
 dn:List D
 d:D
 left:Option Wt
def lT:Option Wt->List Nat
 |none=>[41]
 |some r=>44::32::(tW r++[41])
def lD:Option Wt->List D
 |none=>[]
 |some r=>dWt r
def kT:List Frm->List Nat
 |[]=>[]
 |f::fs=>lT f.left++kT fs
def pZ:List Frm->D->D
 |[],d=>d
 |f::fs,d=>pZ fs<|clD f.ho f.n (f.dn++.tup [f.d,d]::lD f.left)
def hdW:Wt->List Nat×D×Gt×Option Wt
 | .one c d g=>(c,d,g,none)
 | .more c d g r=>(c,d,g,some r)
theorem QX (ws:Wt):tW ws++[41]=(hdW ws).1++32::(tG (hdW ws).2.2.1++lT (hdW ws).2.2.2):=by
 cases ws<;>simp[tW,hdW,lT]
theorem Dy (ws:Wt):dWt ws=.tup [(hdW ws).2.1,dGt (hdW ws).2.2.1]::lD (hdW ws).2.2.2:=by
 cases ws<;>simp[dWt,hdW,lD]
theorem Rr (ho:Option Int)(n:List Nat)(ws:Wt)(fs:List Frm):tG (.nd ho n ws)++kT fs=hT ho n++40::((hdW ws).1++32::(tG (hdW ws).2.2.1++kT (⟨ho,n,[],(hdW ws).2.1,(hdW ws).2.2.2⟩::fs))):=by
 have e:=congrArg (· ++ kT fs)<|QX ws;simp only[tG,kT,bP,cm,dk] at e ⊢;rw[e]
theorem RQ (ho:Option Int)(n:List Nat)(ws:Wt)(fs:List Frm):pZ fs (dGt<|.nd ho n ws)=pZ (⟨ho,n,[],(hdW ws).2.1,(hdW ws).2.2.2⟩::fs) (dGt (hdW ws).2.2.1):=by
 simp only[pZ,dGt,dk];rw[Dy ws]
theorem RK (f:Frm)(r:Wt)(h:f.left=some r)(fs:List Frm):kT (f::fs)=44::32::((hdW r).1++32::(tG (hdW r).2.2.1++kT (⟨f.ho,f.n,[],(hdW r).2.1,(hdW r).2.2.2⟩::fs))):=by
 show lT f.left++kT fs=_;rw[h];show 44::32::(tW r++[41])++kT fs=_;rw[QX r];simp[kT]
theorem Tp (f:Frm)(r:Wt)(h:f.left=some r)(fs:List Frm)(d:D):pZ (f::fs) d=pZ (⟨f.ho,f.n,f.dn++[.tup [f.d,d]],(hdW r).2.1,(hdW r).2.2.2⟩::fs) (dGt (hdW r).2.2.1):=by
 show pZ fs (clD f.ho f.n (f.dn++.tup [f.d,d]::lD f.left))=pZ fs (clD f.ho f.n ((f.dn++[.tup [f.d,d]])++.tup [(hdW r).2.1,dGt (hdW r).2.2.1]::lD (hdW r).2.2.2));rw[h];show pZ fs (clD f.ho f.n (f.dn++.tup [f.d,d]::dWt r))=_;rw[Dy r,bP];rfl
theorem M8 (f:Frm)(h:f.left=none)(fs:List Frm)(d:D):pZ (f::fs) d=pZ fs (clD f.ho f.n<|f.dn++[.tup [f.d,d]]):=by
 simp only[pZ,h,lD]
theorem qY:aX ["text", "reader", "waiting", "game"] ["text"] (aC CZ):=⟨rfl,rfl,rfl,by decide +kernel,rfl,by decide +kernel,by decide +kernel⟩
def FrO (K:aw)(mg:Zs)(O:Za)(H:Hp)(f:Frm)(p:Addr×Addr):Prop:=∃(Co dxo:Addr) (hv lv:V) (ws:List V),OC K mg Co/\H p.1=some (.ins Co dxo<|opF hv lv<|.ref p.2)/\H p.2=some (.lst ws)/\DV ⟨K,mg⟩ O H hv (hD f.ho f.n)/\DV ⟨K,mg⟩ O H lv f.d/\DVs ⟨K,mg⟩ O H ws f.dn
structure Ad (H0:Hp)(r wa:Addr)(p:Addr×Addr)(ps:List (Addr×Addr)):Prop where
 n1:H0 p.1=none
 n2:H0 p.2=none
 n12:p.1≠p.2
 r1:p.1≠r
 r2:p.2≠r
 w1:p.1≠wa
 w2:p.2≠wa
 ps:∀q∈ps,(q.1≠p.1/\q.1≠p.2)/\q.2≠p.1/\q.2≠p.2
def FrS (K:aw)(mg:Zs)(O:Za)(H0 H:Hp)(r wa:Addr):List Frm->List (Addr×Addr)->Prop
 |[],[]=>True
 |f::fs,p::ps=>FrO K mg O H f p/\Ad H0 r wa p ps/\FrS K mg O H0 H r wa fs ps
 |_,_=>False
def Own (O0:Za)(r wa:Addr)(ps:List (Addr×Addr)):Za:=λb=>O0 b\/b=r\/b=wa\/∃p∈ps,b=p.1\/b=p.2
theorem Jx {G:Gx}{O O':Za}{H H':Hp}(t:∀v d,DV G O H v d->DV G O' H' v d):∀{vs:List V} {ds:List D},DVs G O H vs ds->DVs G O' H' vs ds
 |_,_,.nil=>.nil
 |_,_,.cons h hs=>.cons (t _ _ h)<|Jx t hs
theorem Nz {G:Gx}{O O':Za}{H H':Hp}(s:∀b,O' b->O b\/H b=none)(m:∀b,O b->cj (H b))(m':∀b,O' b->cj (H' b))(k:Kp O' H H'){v:V}{d:D}(h:DV G O H v d):DV G O' H' v d:=by
 classical
 have h1:DV G O' H v d:=h.bZ s
 let H1:Hp:=λb=>if H b=none/\O' b then H' b else H b
 have e1:aD H H1:=λb u e=>by
  show(if H b=none/\O' b then H' b else H b)=_;rw[if_neg (λz=>by rw[z.1] at e;cases e)];exact e
 have h2:DV G O' H1 v d:=h1.mono e1;refine h2.kp (λb ob=>?_) λb u e nb=>?_
 ·show cj (if H b=none/\O' b then H' b else H b);by_cases z:H b=none
  ·rw[if_pos ⟨z,ob⟩];exact m' b ob
  ·rw[if_neg λy=>z y.1];exact m b<|(s b ob).resolve_right z
 ·have e':(if H b=none/\O' b then H' b else H b)=some u:=e;rw[if_neg λy=>nb y.2] at e';exact k b u e' nb
section
variable {K:aw}{mg:Zs}{O O':Za}{H0 H H':Hp}{r wa:Addr}
theorem FrO.tr {f:Frm}{p:Addr×Addr}(h:FrO K mg O H f p)(t:∀v d,DV ⟨K,mg⟩ O H v d->DV ⟨K,mg⟩ O' H' v d)(k1:∀u,H p.1=some u->H' p.1=some u)(k2:∀u,H p.2=some u->H' p.2=some u):FrO K mg O' H' f p:=by
 obtain⟨Co,dxo,hv,lv,ws,oc,e1,e2,d1,d2,d3⟩:=h;exact⟨Co,dxo,hv,lv,ws,oc,k1 _ e1,k2 _ e2,t _ _ d1,t _ _ d2,Jx t d3⟩
theorem FrS.tr (t:∀v d,DV ⟨K,mg⟩ O H v d->DV ⟨K,mg⟩ O' H' v d):∀{fs:List Frm} {ps:List (Addr×Addr)},FrS K mg O H0 H r wa fs ps->(∀q∈ps,(∀u,H q.1=some u->H' q.1=some u)/\∀u,H q.2=some u->H' q.2=some u)->FrS K mg O' H0 H' r wa fs ps
 |[],[],_,_=>trivial
 |f::fs,p::ps,⟨h,a,hs⟩,k=>⟨h.tr t (k p<|aE).1 (k p<|aE).2,a,FrS.tr t hs λq hq=>k q<|ah _ hq⟩
 |[],_::_,h,_=>h.elim
 |_::_,[],h,_=>h.elim
theorem FrS.mut:∀{fs:List Frm} {ps:List (Addr×Addr)},FrS K mg O H0 H r wa fs ps->∀q∈ps,cj (H q.1)/\cj (H q.2)
 |[],[],_,q,hq=>by cases hq
 |f::fs,p::ps,⟨⟨Co,dxo,hv,lv,ws,_,e1,e2,_⟩,_,hs⟩,q,hq=>by
  rcases bo.1 hq with rfl|hq
  ·exact⟨by rw[e1];exact .inr<|.inr<|.inr ⟨(Co,dxo,_),rfl⟩,by rw[e2];exact .inl ⟨_,rfl⟩⟩
  ·exact hs.mut q hq
 |[],_::_,h,_,_=>h.elim
 |_::_,[],h,_,_=>h.elim
theorem FrS.new:∀{fs:List Frm} {ps:List (Addr×Addr)},FrS K mg O H0 H r wa fs ps->∀q∈ps,(H0 q.1=none/\H0 q.2=none)/\(q.1≠r/\q.1≠wa)/\q.2≠r/\q.2≠wa
 |[],[],_,q,hq=>by cases hq
 |f::fs,p::ps,⟨_,a,hs⟩,q,hq=>by
  rcases bo.1 hq with rfl|hq
  ·exact⟨⟨a.n1,a.n2⟩,⟨a.r1,a.w1⟩,a.r2,a.w2⟩
  ·exact hs.new q hq
 |[],_::_,h,_,_=>h.elim
 |_::_,[],h,_,_=>h.elim
theorem FrS.len:∀{fs:List Frm} {ps:List (Addr×Addr)},FrS K mg O H0 H r wa fs ps->ps.length=fs.length
 |[],[],_=>rfl
 |f::fs,p::ps,⟨_,_,hs⟩=>by simp[hs.len]
 |[],_::_,h=>h.elim
 |_::_,[],h=>h.elim
end
structure RS (K:aw)(mg:Zs)(O0:Za)(H0:Hp)(r C dx wa:Addr)(z:Str)(fs:List Frm)(ps:List (Addr×Addr))(i:Nat)(H:Hp):Prop where
 sm:aD H0 H
 m0:∀b,O0 b->cj (H0 b)
 rd:Rd1 K mg H r C dx z i
 rw:r≠wa
 r0:H0 r=none
 w0:H0 wa=none
 hw:H wa=some (.lst ((ps.map sL).reverse.map V.ref))
 fr:FrS K mg (Own O0 r wa ps) H0 H r wa fs ps
section
variable {K:aw}{mg:Zs}{O0:Za}{H0 H H':Hp}{r C dx wa:Addr}{z:Str}{fs:List Frm}{ps:List (Addr×Addr)}{i j:Nat}
theorem RS.mO (R:RS K mg O0 H0 r C dx wa z fs ps i H):∀b,Own O0 r wa ps b->cj (H b):=λb ob=>by
 rcases ob with o|o|o|⟨p,hp,o|o⟩
 ·exact fJ R.sm<|R.m0 b o
 ·rw[o,R.rd.at_];exact .inr<|.inr<|.inr ⟨(C,dx,_),rfl⟩
 ·rw[o,R.hw];exact .inl ⟨_,rfl⟩
 ·rw[o];exact(R.fr.mut p hp).1
 ·rw[o];exact(R.fr.mut p hp).2
theorem vq:Own O0 r wa ps r:=.inr<|.inl rfl
theorem Fv:Own O0 r wa ps wa:=.inr<|.inr<|.inl rfl
theorem Mh {p:Addr×Addr}:Own O0 r wa (p::ps) p.1:=.inr<|.inr<|.inr ⟨p,aE,.inl rfl⟩
theorem Eg {p:Addr×Addr}:Own O0 r wa (p::ps) p.2:=.inr<|.inr<|.inr ⟨p,aE,.inr rfl⟩
theorem KQ {p:Addr×Addr}{b:Addr}(h:Own O0 r wa ps b):Own O0 r wa (p::ps) b:=by
 rcases h with h|h|h|⟨q,hq,h⟩
 ·exact .inl h
 ·exact .inr<|.inl h
 ·exact .inr<|.inr<|.inl h
 ·exact .inr<|.inr<|.inr ⟨q,ah _ hq,h⟩
theorem Km {p:Addr×Addr}{b:Addr}(h:Own O0 r wa (p::ps) b):Own O0 r wa ps b\/b=p.1\/b=p.2:=by
 rcases h with h|h|h|⟨q,hq,h⟩
 ·exact .inl<|.inl h
 ·exact .inl<|.inr<|.inl h
 ·exact .inl<|.inr<|.inr<|.inl h
 ·rcases bo.1 hq with rfl|hq
  ·exact .inr h
  ·exact .inl<|.inr<|.inr<|.inr ⟨q,hq,h⟩
theorem RS.on (R:RS K mg O0 H0 r C dx wa z fs ps i H)(hj:j<=z.length)(g:aD (rdU H r C dx z j) H'):RS K mg O0 H0 r C dx wa z fs ps j H':=by
 have k:∀b u,b≠r->H b=some u->H' b=some u:=λb u nb e=>g b u (by unfold rdU;rw[aM nb];exact e);refine⟨λb u e=>k b u (λz=>by rw[z,R.r0] at e;cases e) (R.sm b u e),R.m0,⟨g _ _ aH,R.rd.rc,R.rd.zl,hj⟩,R.rw,R.r0,R.w0,k _ _ R.rw.symm R.hw,R.fr.tr (λv d h=>h.kp R.mO λb u e nb=>k b u (λz=>nb (by rw[z];exact vq)) e) λq hq=>?_⟩;obtain⟨_,⟨a,_⟩,b,_⟩:=R.fr.new q hq;exact⟨λu e=>k _ u a e,λu e=>k _ u b e⟩
theorem RS.open {f:Frm}{o l Co dxo:Addr}{hv lv:V}(R:RS K mg O0 H0 r C dx wa z fs ps i H)(hj:j<=z.length)(oc:OC K mg Co)(no:H o=none)(nl:H l=none)(ol:o≠l)(hr:H' r=some (.ins C dx<|rdF z (j:Int)))(hw:H' wa=some (.lst<|(ps.map sL).reverse.map V.ref++[.ref o]))
  (ho:H' o=some (.ins Co dxo<|opF hv lv<|.ref l)) (hl:H' l=some (.lst [])) (k:∀b u,b≠r->b≠wa->H b=some u->H' b=some u) (hd:f.dn=[])
  (d1:DV ⟨K,mg⟩ (Own O0 r wa ((o,l)::ps)) H' hv (hD f.ho f.n)) (d2:DV ⟨K,mg⟩ (Own O0 r wa ((o,l)::ps)) H' lv f.d):RS K mg O0 H0 r C dx wa z (f::fs) ((o,l)::ps) j H':=by
 have n0:∀{b},H b=none->H0 b=none:=λ{b} e=>by
  cases h:H0 b with
  |none=>rfl
  |some u=>rw[R.sm _ _ h] at e;cases e
 have s:∀b,Own O0 r wa ((o,l)::ps) b->Own O0 r wa ps b\/H b=none:=λb h=>by
  rcases Km h with h|h|h
  ·exact .inl h
  ·exact .inr (by rw[h];exact no)
  ·exact .inr (by rw[h];exact nl)
 have ne:∀{b u},H b=some u->b≠o/\b≠l:=λe=>⟨λz=>(by rw[z,no] at e;cases e),λz=>(by rw[z,nl] at e;cases e)⟩;have m':∀b,Own O0 r wa ((o,l)::ps) b->cj (H' b):=λb h=>by
  rcases Km h with h|h|h
  ·by_cases z1:b=r
   ·rw[z1,hr];exact .inr<|.inr<|.inr ⟨(C,dx,_),rfl⟩
   ·by_cases z2:b=wa
    ·rw[z2,hw];exact .inl ⟨_,rfl⟩
    ·have m:=R.mO b h;cases hb:H b with
     |none=>rw[hb] at m;rcases m with⟨_,e⟩|⟨_,e⟩|⟨_,e⟩|⟨_,e⟩<;>cases e
     |some u=>rw[k b u z1 z2 hb,← hb];exact m
  ·rw[h,ho];exact .inr<|.inr<|.inr ⟨(Co,dxo,_),rfl⟩
  ·rw[h,hl];exact .inl ⟨_,rfl⟩
 have kp:Kp (Own O0 r wa ((o,l)::ps)) H H':=λb u e nb=>k b u (λz=>nb (by rw[z];exact vq)) (λz=>nb (by rw[z];exact Fv)) e;refine⟨λb u e=>k b u (λz=>by rw[z,R.r0] at e;cases e) (λz=>by rw[z,R.w0] at e;cases e) (R.sm b u e),R.m0,⟨hr,R.rd.rc,R.rd.zl,hj⟩,R.rw,R.r0,R.w0,by rw[hw];simp,⟨Co,dxo,hv,lv,[],oc,ho,hl,d1,d2,by rw[hd];exact .nil⟩,?_,?_⟩
 ·refine⟨n0 no,n0 nl,ol,(ne R.rd.at_).1.symm,(ne R.rd.at_).2.symm,(ne R.hw).1.symm,(ne R.hw).2.symm,λq hq=>?_⟩;obtain⟨m1,m2⟩:=R.fr.mut q hq;have f1:∀{b},cj (H b)->b≠o/\b≠l:=λ{b} m=>by
   cases hb:H b with
   |none=>rw[hb] at m;rcases m with⟨_,e⟩|⟨_,e⟩|⟨_,e⟩|⟨_,e⟩<;>cases e
   |some u=>exact ne hb
  exact⟨f1 m1,f1 m2⟩
 ·refine R.fr.tr (λv d h=>Nz s R.mO m' kp h) λq hq=>?_;obtain⟨_,⟨a1,a2⟩,b1,b2⟩:=R.fr.new q hq;exact⟨λu e=>k _ u a1 a2 e,λu e=>k _ u b1 b2 e⟩
theorem RS.next {f f':Frm}{p:Addr×Addr}{Co dxo:Addr}{hv lv:V}{ws:List V}(R:RS K mg O0 H0 r C dx wa z (f::fs) (p::ps) i H)(hj:j<=z.length)(oc:OC K mg Co)(hr:H' r=some (.ins C dx<|rdF z (j:Int)))(ho:H' p.1=some (.ins Co dxo<|opF hv lv<|.ref p.2))(hl:H' p.2=some (.lst ws))
  (k:∀b u,b≠r->b≠p.1->b≠p.2->H b=some u->H' b=some u) (d1:DV ⟨K,mg⟩ (Own O0 r wa (p::ps)) H' hv (hD f'.ho f'.n)) (d2:DV ⟨K,mg⟩ (Own O0 r wa (p::ps)) H' lv f'.d) (d3:DVs ⟨K,mg⟩ (Own O0 r wa (p::ps)) H' ws f'.dn):RS K mg O0 H0 r C dx wa z (f'::fs) (p::ps) j H':=by
 obtain⟨_,a,hs⟩:=R.fr;have kp:Kp (Own O0 r wa (p::ps)) H H':=λb u e nb=>k b u (λz=>nb (by rw[z];exact vq)) (λz=>nb (by rw[z];exact Mh)) (λz=>nb (by rw[z];exact Eg)) e;refine⟨λb u e=>k b u (λz=>by rw[z,R.r0] at e;cases e) (λz=>by rw[z,a.n1] at e;cases e) (λz=>by rw[z,a.n2] at e;cases e) (R.sm b u e),R.m0,⟨hr,R.rd.rc,R.rd.zl,hj⟩,R.rw,R.r0,R.w0,k _ _ R.rw.symm a.w1.symm a.w2.symm R.hw,⟨Co,dxo,hv,lv,ws,oc,ho,hl,d1,d2,d3⟩,a,?_⟩;refine hs.tr (λv d h=>h.kp R.mO kp) λq hq=>?_;obtain⟨_,⟨a1,a2⟩,b1,b2⟩:=hs.new q hq;obtain⟨⟨c1,c2⟩,e1,e2⟩:=a.ps q hq;exact⟨λu e=>k _ u a1 c1 c2 e,λu e=>k _ u b1 e1 e2 e⟩
theorem RS.close {f:Frm}{p:Addr×Addr}(R:RS K mg O0 H0 r C dx wa z (f::fs) (p::ps) i H)(hj:j<=z.length)(hr:H' r=some (.ins C dx<|rdF z (j:Int)))(hw:H' wa=some (.lst<|(ps.map sL).reverse.map V.ref))
  (k:∀b u,b≠r->b≠wa->b≠p.2->H b=some u->H' b=some u):RS K mg O0 H0 r C dx wa z fs ps j H':=by
 obtain⟨_,a,hs⟩:=R.fr;have kp:Kp (Own O0 r wa (p::ps)) H H':=λb u e nb=>k b u (λz=>nb (by rw[z];exact vq)) (λz=>nb (by rw[z];exact Fv)) (λz=>nb (by rw[z];exact Eg)) e;refine⟨λb u e=>k b u (λz=>by rw[z,R.r0] at e;cases e) (λz=>by rw[z,R.w0] at e;cases e) (λz=>by rw[z,a.n2] at e;cases e) (R.sm b u e),R.m0,⟨hr,R.rd.rc,R.rd.zl,hj⟩,R.rw,R.r0,R.w0,hw,?_⟩;refine hs.tr (λv d h=>(h.kp R.mO kp).bZ λb o=>.inl<|KQ o) λq hq=>?_;obtain⟨_,⟨a1,a2⟩,b1,b2⟩:=hs.new q hq;obtain⟨⟨c1,c2⟩,e1,e2⟩:=a.ps q hq;exact⟨λu e=>k _ u a1 a2 c2 e,λu e=>k _ u b1 b2 e2 e⟩
end
section
variable (Φ Ψ:Zf)
def okL (ho:Option Int):Option Wt->Prop
 |none=>True
 |some r=>okW Φ Ψ ho r
def okP:List Frm->D->Prop
 |[],_=>True
 |f::fs,d=>(∃fr,Ψ [clD f.ho f.n (f.dn++.tup [f.d,d]::lD f.left)]=.ok (fr,.bl true))/\okL Φ Ψ f.ho f.left/\okP fs (clD f.ho f.n (f.dn++.tup [f.d,d]::lD f.left))
def Bnd (fs:List Frm)(i:Nat):Prop:=fs.length<=i/\∀f∈fs,f.dn.length<=i
def MdA (z:Str)(D0:D)(fs:List Frm)(a:List Nat):Prop:=Bnd fs a.length/\∃g,okG Φ Ψ g/\z=tx (a++(tG g++kT fs))/\pZ fs (dGt g)=D0/\okP Φ Ψ fs (dGt g)
def MdB (z:Str)(D0:D)(fs:List Frm)(a:List Nat)(d:D):Prop:=Bnd fs a.length/\z=tx (a++kT fs)/\pZ fs d=D0/\okP Φ Ψ fs d
theorem K3 {ho:Option Int}{ws:Wt}(h:okW Φ Ψ ho ws):(∀x∈(hdW ws).1,x∉stops)/\Led Φ (hN ho) (hdW ws).1 (hdW ws).2.1/\okG Φ Ψ (hdW ws).2.2.1/\okL Φ Ψ ho (hdW ws).2.2.2:=by
 cases ws with
 |one c d g=>simp only[okW] at h;exact⟨h.1,h.2.1,h.2.2,trivial⟩
 |more c d g r=>simp only[okW] at h;exact⟨h.1,h.2.1,h.2.2.1,h.2.2.2⟩
end
theorem Ox:∀(fs:List Frm) (x:Nat),(kT fs).head? = some x->x∈stops
 |[],x,h=>by cases h
 |f::fs,x,h=>by
  unfold kT lT at h;cases hl:f.left with
  |none=>rw[hl] at h;cases h;decide
  |some r=>rw[hl] at h;cases h;decide
theorem Bnd.mono {fs:List Frm}{i j:Nat}(h:Bnd fs i)(l:i<=j):Bnd fs j:=⟨cn h.1 l,λf hf=>cn (h.2 f hf) l⟩
section
variable {K:aw}{mg:Zs}{Φ Ψ:Zf}{O0:Za}{H0 H:Hp}{r C dx wa:Addr}{z:Str}{D0:D}{fs:List Frm}{ps:List (Addr×Addr)}{a:List Nat}{Q:VK}{E:XK}
def Aft (K:aw)(mg:Zs)(Φ Ψ:Zf)(O0:Za)(H0:Hp)(r C dx wa:Addr)(z:Str)(D0:D)(n:Nat)(v:V)(H:Hp):Prop:=∃(fs:List Frm) (ps:List (Addr×Addr)) (a:List Nat),n<a.length/\RS K mg O0 H0 r C dx wa z fs ps a.length H/\
 ((v=.non/\fs≠[]/\MdA Φ Ψ z D0 fs a)\/(v≠.non/\∃d,DV ⟨K,mg⟩ (Own O0 r wa ps) H v d/\MdB Φ Ψ z D0 fs a d))
theorem z6 (R:RS K mg O0 H0 r C dx wa z fs ps a.length H)(m:MdA Φ Ψ z D0 fs a)(q:∀v H',Aft K mg Φ Ψ O0 H0 r C dx wa z D0 a.length v H'->Q v H'):yd K mg Φ [.ref r,.ref wa] H Q E:=by
 obtain⟨bd,g,og,ez,ep,op⟩:=m;have zl:=R.rd.zl;have il:=R.rd.il;refine⟨Own O0 r wa ps,r,C,dx,wa,rfl,R.mO,vq,Fv,R.rw,?_⟩;cases g with
 |fin c d=>
  obtain⟨hc,fr,e⟩:(∀x∈c,x∉stops)/\∃fr,Φ [.str<|tx c]=.ok (fr,d):=by simpa only[okG] using og
  have e1:z=tx (a++(enT++c)++kT fs):=by rw[ez];simp only[tG,bP]
  have l1:a.length+(enT++c).length<=z.length:=by rw[e1,bB];simp
  refine .inl ⟨a,c,kT fs,d,fr,by rw[← e1];exact R.rd,hc,Ox fs,e,λv H' g dv=>q v H' ⟨fs,ps,a++(enT++c),by simp,?_,.inr ⟨λz=>(by rw[z] at dv;cases dv),_,dv,bd.mono (by simp),e1,ep,op⟩⟩⟩;rw[← e1] at g;rw[be];exact R.on l1 g
 |nd ho n ws=>
  obtain⟨hs,hn,ow,fr,e⟩:(∀s,ho=some s->s=1\/s=2)/\(∀x∈n,x∉stops)/\okW Φ Ψ ho ws/\∃fr,Ψ [clD ho n<|dWt ws]=.ok (fr,.bl true):=by simpa only[okG] using og
  obtain⟨hc,ld,og1,ol⟩:=K3 Φ Ψ ow;have e1:z=tx (a++hT ho n++40::((hdW ws).1++32::(tG (hdW ws).2.2.1++kT (⟨ho,n,[],(hdW ws).2.1,(hdW ws).2.2.2⟩::fs)))):=by rw[ez,Rr,bP]
  have ln:ps.length<=a.length:=by rw[R.fr.len];exact bd.1
  refine .inr ⟨ho,n,a,(hdW ws).1,_,(hdW ws).2.1,_,by rw[← e1];exact R.rd,hs,hn,hc,ld,R.hw,by simp;omega,λo Co dxo l hv lv H' oc no nl onl hr hw hho hl k d1 d2=>?_⟩;rw[← e1] at hr;have l1:(a++hT ho n++40::((hdW ws).1++[32])).length=a.length+(hT ho n).length+1+(hdW ws).1.length+1:=by simp;omega
  have l2:a.length+(hT ho n).length+1+(hdW ws).1.length+1<=z.length:=by rw[e1,bB];simp;omega
  have eo:(λb=>Own O0 r wa ps b\/b=o\/b=l)=Own O0 r wa ((o,l)::ps):=funext λb=>propext ⟨λh=>h.elim KQ λh=>.inr<|.inr<|.inr ⟨(o,l),aE,h⟩,Km⟩;rw[eo] at d1 d2;refine q _ _ ⟨⟨ho,n,[],(hdW ws).2.1,(hdW ws).2.2.2⟩::fs,(o,l)::ps,a++hT ho n++40::((hdW ws).1++[32]),by rw[l1];omega,?_,.inl ⟨rfl,by simp,⟨by rw[l1];have:=bd.1;simp;omega,λf hf=>?_⟩,(hdW ws).2.2.1,og1,?_,?_,?_⟩⟩
  ·rw[l1];exact R.open l2 oc no nl onl hr hw hho hl k rfl d1 d2
  ·rcases bo.1 hf with rfl|hf
   ·simp
   ·exact cn (bd.2 f hf) (by rw[l1];omega)
  ·rw[e1];congr 1;simp
  ·rw[← ep,RQ]
  ·have ed:clD ho n ([]++D.tup [(hdW ws).2.1,dGt (hdW ws).2.2.1]::lD (hdW ws).2.2.2)=clD ho n (dWt ws):=by rw[Dy ws];rfl
   refine⟨⟨fr,by rw[ed];exact e⟩,ol,?_⟩;show okP Φ Ψ fs (clD ho n ([]++D.tup [(hdW ws).2.1,dGt (hdW ws).2.2.1]::lD (hdW ws).2.2.2));rw[ed];simpa only[dGt] using op
theorem Nb {f:Frm}{p:Addr×Addr}{v:V}{d:D}(R:RS K mg O0 H0 r C dx wa z (f::fs) (p::ps) a.length H)(dv:DV ⟨K,mg⟩ (Own O0 r wa (p::ps)) H v d)(m:MdB Φ Ψ z D0 (f::fs) a d)(q:∀v H',Aft K mg Φ Ψ O0 H0 r C dx wa z D0 a.length v H'->Q v H'):Bd K mg Φ Ψ [.ref r,.ref wa,v] H Q E:=by
 obtain⟨bd,ez,ep,op⟩:=m;have zl:=R.rd.zl;have il:=R.rd.il;obtain⟨⟨Co,dxo,hv,lv,ws,oc,e1,e2,d1,d2,d3⟩,ad,hs⟩:=R.fr;have lw:ws.length=f.dn.length:=bR d3;have bf:=bd.2 f aE;have T:Top K mg (Own O0 r wa (p::ps)) H r wa p.1 Co dxo p.2 hv lv (ps.map sL).reverse ws (hN f.ho) (hP f.ho f.n) f.dn f.d:=
  ⟨R.mO,vq,Fv,Mh,Eg,R.rw,ad.r1.symm,ad.r2.symm,ad.w1.symm,ad.w2.symm,ad.n12,by rw[R.hw];simp,e1,oc,e2,by omega,by rw[← Vo];exact d1,d2,d3⟩
 obtain⟨⟨fr,op1⟩,op2,op3⟩:=op;refine⟨Own O0 r wa (p::ps),r,C,dx,wa,p.1,Co,dxo,p.2,hv,lv,v,_,ws,_,_,_,_,d,rfl,T,dv,?_⟩;cases hl:f.left with
 |some rw_=>
  rw[hl] at op2;obtain⟨hc,ld,og1,ol⟩:=K3 Φ Ψ op2;have e3:z=tx (a++[44,32]++((hdW rw_).1++32::(tG (hdW rw_).2.2.1++kT (⟨f.ho,f.n,[],(hdW rw_).2.1,(hdW rw_).2.2.2⟩::fs)))):=by rw[ez,RK f rw_ hl];simp
  refine .inl ⟨a,(hdW rw_).1,_,(hdW rw_).2.1,by rw[← e3];exact R.rd,hc,ld,λt lv' H' nt hr hl' ho k d5 d6=>?_⟩;rw[← e3] at hr;have l1:(a++[44,32]++((hdW rw_).1++[32])).length=a.length+2+(hdW rw_).1.length+1:=by simp;omega
  have l2:a.length+2+(hdW rw_).1.length+1<=z.length:=by rw[e3,bB];simp;omega
  have kp:Kp (Own O0 r wa (p::ps)) H H':=λb u e nb=>k b u (λz=>nb (by rw[z];exact vq)) (λz=>nb (by rw[z];exact Mh)) (λz=>nb (by rw[z];exact Eg)) e;refine q _ _ ⟨⟨f.ho,f.n,f.dn++[.tup [f.d,d]],(hdW rw_).2.1,(hdW rw_).2.2.2⟩::fs,p::ps,a++[44,32]++((hdW rw_).1++[32]),by rw[l1];omega,?_,.inl ⟨rfl,by simp,⟨by rw[l1];have:=bd.1;simp at this ⊢;omega,λf' hf=>?_⟩,(hdW rw_).2.2.1,og1,?_,?_,?_⟩⟩
  ·rw[l1];exact R.next l2 oc hr ho hl' k (d1.kp R.mO kp) d5<|iC (d3.kp R.mO kp)<|.cons d6 .nil
  ·rcases bo.1 hf with rfl|hf
   ·rw[l1];simp;omega
   ·exact cn (bd.2 f'<|ah _ hf) (by rw[l1];omega)
  ·rw[e3];congr 1;simp[kT]
  ·rw[← ep,Tp f rw_ hl]
  ·have ed:clD f.ho f.n ((f.dn++[.tup [f.d,d]])++D.tup [(hdW rw_).2.1,dGt (hdW rw_).2.2.1]::lD (hdW rw_).2.2.2)=clD f.ho f.n (f.dn++.tup [f.d,d]::lD f.left):=by
    rw[hl];show _=clD f.ho f.n (f.dn++.tup [f.d,d]::dWt rw_);rw[Dy rw_];simp
   refine⟨⟨fr,by rw[ed];exact op1⟩,ol,?_⟩;show okP Φ Ψ fs (clD f.ho f.n ((f.dn++[.tup [f.d,d]])++D.tup [(hdW rw_).2.1,dGt (hdW rw_).2.2.1]::lD (hdW rw_).2.2.2));rw[ed];exact op3
 |none=>
  have e3:z=tx (a++[41]++kT fs):=by rw[ez,show kT (f::fs)=[41]++kT fs by show lT f.left++kT fs=_;rw[hl];rfl,bP]
  have ed:f.dn++.tup [f.d,d]::lD f.left=f.dn++[.tup [f.d,d]]:=by rw[hl];rfl
  rw[ed] at op1 op3;have l2:a.length+1<=z.length:=by rw[e3,bB];simp
  refine .inr ⟨a,kT fs,fr,by rw[← e3];exact R.rd,op1,by cases f.ho<;>simp[hP],λv' H' hr hw k d5=>?_⟩;rw[← e3] at hr;refine q _ _ ⟨fs,ps,a++[41],by simp,?_,.inr ⟨λz=>(by rw[z] at d5;cases d5),_,d5.bZ λb o=>.inl<|KQ o,⟨?_,λf' hf=>?_⟩,e3,?_,op3⟩⟩
  ·rw[be];exact R.close l2 hr hw k
  ·have:=bd.1;simp at this ⊢;omega
  ·exact cn (bd.2 f'<|ah _ hf)<|by simp
  ·rw[← ep,M8 f hl];rfl
end
theorem QR {P:bb}{w:cp}{K:aw}{mg:Zs}{base:Heap}{j k:Nat}{x:Str}{ps:List Str}{sp:Sp}(h:Hd.Fn P w K mg base j x ps sp)(le:j<=k):Hd.Fn P w K mg base k x ps sp:=by
 obtain⟨f,fd,F,b,kp,m⟩:=h.ex;exact⟨f,fd,F.mono le,b,kp,m⟩
section
variable {P:bb}{w:cp}{K:aw}{mg:Zs}{base:Heap}{f:Addr}{fd:de}{Φ Ψ:Zf}
theorem Oe (B:Bt mg)(Gm:MkT P w K mg base 1 "Reader" ["self", "text"] (Mi K mg))(rc:∀C,mg "Reader" = some (.ref C)->RC K mg C)(Gb:Hd.Fn P w K mg base 6 "begun" ["reader", "waiting"] (yd K mg Φ))(Gg:Hd.Fn P w K mg base 7 "gone_on" ["reader", "waiting", "game"] (Bd K mg Φ Ψ))(Fu:Fun K "read" "read" CZ f fd):b8 P w K mg base (CX1 P w) 8 f fd ["text"] (spF ⟨K,mg⟩<|zN Φ Ψ):=by
 have inv:∀{vs H Q E},spF ⟨K,mg⟩ (zN Φ Ψ) vs H Q E->∃(O0:Za) (g:Gt),vs=[.str<|tx<|tG g]/\okG Φ Ψ g/\(tx<|tG g).length<=100000/\(∀b,O0 b->cj (H b))/\∀v H',aD H H'->DV ⟨K,mg⟩ O0 H' v (dGt g)->Q v H':=by
  rintro vs H Q E ⟨O,ds,mO,dv,h⟩;unfold zN at h;by_cases e:∃g,Rdb Φ Ψ ds g
  ·rw[dif_pos e] at h;obtain⟨e1,e2,e3⟩:=e.choose_spec
   have:vs=[.str<|tx<|tG e.choose]:=by
    rw[e1] at dv;cases dv with
    |cons a b=>cases a;cases b;rfl
   exact⟨O,e.choose,this,e2,e3,mO,λv H' s d=>h v H' s d λz=>by cases z⟩
  ·rw[dif_neg e] at h;exact h.elim
 refine fD Fu qY (λvs H Q E h=>by obtain⟨_,g,rfl,_⟩:=inv h;rfl) λcdv A outer s H vs Q E hr h=>?_;obtain⟨O0,g,rfl,og,zl,mO,q⟩:=inv h;obtain⟨C,gi,fdi,hC,M,Gi,bi⟩:=Gm.ex;refine⟨_,aY (mU (uN<|mY<|iM xn rfl B.isinstance aW<|aP (aL (i:=0) rfl<|ar rfl)<|aP (Dm (v:=.ty "str") rfl B.str fV rfl) bG) kh iY)
  (aY (dZ (i:=1) qY.nd rfl (ar rfl)<|DR M Gi (hr.mono<|by decide) rfl hC bi .nil (E:=E) aQ<|aP (aL (i:=0) rfl<|ar rfl) bG)
  (aY (dZ (i:=2) qY.nd rfl (ar rfl)<|BZ bG)
  (aY (dZ (i:=3) qY.nd rfl (ar rfl)<|oX Gb hr<|aP (aL (i:=1) rfl<|ar rfl)<|aP (aL (i:=2) rfl<|ar rfl) bG)
  (aY (uC eK (xG<|Vp (iM lN rfl B.len rfl<|aP (aL (i:=2) rfl<|ar rfl) bG) qQ)
   (cI (mU (xG<|Ra<|aL (i:=3) rfl<|ar rfl)
    (cI<|dZ (i:=3) qY.nd rfl (ar rfl)<|oX Gb hr<|aP (aL (i:=1) rfl<|ar rfl)<|aP (aL (i:=2) rfl<|ar rfl) bG)
    (cI<|dZ (i:=3) qY.nd rfl (ar rfl)<|oX Gg hr<|aP (aL (i:=1) rfl<|ar rfl)<|aP (aL (i:=2) rfl<|ar rfl)<|aP (aL (i:=3) rfl<|ar rfl) bG))))
  (aY (mU (xG<|Qp (fj (aL (i:=1) rfl<|ar rfl) rfl)<|iM jg rfl B.len rfl<|aP (aL (i:=0) rfl<|ar rfl) bG) kh iY)
  (cI<|gF<|aL (i:=3) rfl<|ar rfl)))))),?_⟩
 generalize hz:tx (tG g)=z at *;refine⟨_,rfl,_,_,.type "str",_,true,rfl,rfl,.of<|.str z,rfl,_,rfl,?_⟩;show if(!true)=true then _ else _
 rw[if_neg<|by simp];refine⟨_,rfl,λr dx hr0 hd0 dr=>⟨r,C,dx,z,rfl,aH,rc C hC,rfl,?_⟩⟩;generalize hH1:rdU (upd (upd H dx<|.own r) r<|.ins C dx []) r C dx z 0=H1;have h1r:H1 r=some (.ins C dx<|rdF z ((0:Nat):Int)):=by rw[← hH1];exact aH
 have s01:aD H H1:=λb u e=>by
  rw[← hH1];have n1:b≠r:=λz=>by rw[z,hr0] at e;cases e
  have n2:b≠dx:=λz=>by rw[z,hd0] at e;cases e
  unfold rdU;rw[aM n1,aM n1,aM n2];exact e
 refine⟨eW _,λwa hw0=>?_⟩;have rw_:r≠wa:=λz=>by rw[← z,h1r] at hw0;cases hw0
 have w0:H wa=none:=by
  cases e:H wa with
  |none=>rfl
  |some u=>rw[s01 _ _ e] at hw0;cases hw0
 have R0:RS K mg O0 H r C dx wa z [] [] ([]:List Nat).length (upd H1 wa<|.lst []):=
  ⟨s01.trans<|bJ hw0 _,mO,⟨(aM rw_).trans h1r,rc C hC,zl,eW _⟩,rw_,hr0,w0,aH,trivial⟩
 have M0:MdA Φ Ψ z (dGt g) [] []:=⟨⟨aI _,λ_ h=>by cases h⟩,g,og,by rw[← hz];simp[kT],rfl,trivial⟩;refine⟨_,rfl,_,rfl,z6 (E:=E0) R0 M0 λv H2 A2=>?_⟩;refine⟨λm σ H'=>∃v n,m=z.length-n/\σ=[some<|.str z,some<|.ref r,some<|.ref wa,some v]/\Aft K mg Φ Ψ O0 H r C dx wa z (dGt g) n v H',⟨_,v,_,rfl,rfl,A2⟩,?_⟩;rintro m σ H3 ⟨v3,n,rfl,rfl,fs,ps,a,na,R,md⟩;have il:=R.rd.il;refine⟨_,rfl,wa,_,rfl,.inl<|.inl<|.inl R.hw,_,_,rfl,rfl,_,rfl,?_⟩;have le:((ps.map sL).reverse.map V.ref).length=ps.length:=by simp
 show if decide (((((ps.map sL).reverse.map V.ref).length:Nat):Int)>0)=true then _ else _
 rw[le]
 match fs,ps,R,md with
 |[],[],R,md=>
  rw[if_neg<|by simp];rcases md with⟨_,h,_⟩|⟨_,d,dv,_,ez,ep,_⟩
  ·exact absurd rfl h
  ·have ea:a.length=z.length:=by rw[ez,bB];simp[kT]
   refine⟨_,rfl,r,C,dx,_,.int a.length,rfl,R.rd.at_,R.rd.rc.cls,R.rd.rc.spot,rfl,_,rfl,_,rfl,cn zl (by decide),_,_,rfl,rfl,_,rfl,?_⟩;show if decide ((a.length:Int)<(z.length:Int))=true then _ else _
   rw[if_neg (by rw[decide_eq_true_eq];omega)];refine⟨_,rfl,q _ _ R.sm ?_⟩
   have:d=dGt g:=ep
   rw[← this];exact dv.bZ λb o=>.inl<|.inl o
 |f'::fs,p::ps,R,md=>
  rw[if_pos<|by simp];refine⟨λσ' H'=>∃v,σ'=[some<|.str z,some<|.ref r,some<|.ref wa,some v]/\Aft K mg Φ Ψ O0 H r C dx wa z (dGt g) a.length v H',λσ' H' ⟨v,e,A⟩=>⟨z.length-a.length,by omega,v,a.length,rfl,e,A⟩,?_⟩;rcases md with⟨rfl,_,m⟩|⟨nn,d,dv,m⟩
  ·refine⟨_,rfl,_,rfl,?_⟩;show if decide (V.non=V.non)=true then _ else _
   rw[if_pos<|by simp];exact⟨_,rfl,_,rfl,z6 (E:=E0) R m λv H' A=>⟨v,rfl,A⟩⟩
  ·refine⟨_,rfl,_,rfl,?_⟩;show if decide (v3=V.non)=true then _ else _
   rw[if_neg (by rw[decide_eq_true_eq];exact nn)];exact⟨_,rfl,_,rfl,_,rfl,Nb (E:=E0) R dv m λv H' A=>⟨v,rfl,A⟩⟩
 |[],_::_,R,_=>exact R.fr.elim
 |_::_,[],R,_=>exact R.fr.elim
end
open PySem L2 Hd F Pk Lw
theorem all_mk {l:W.OpenLaw}{w:cp}{K:aw}{h:Heap}{mg:Zs}{fa:Addr}(X:K.In h)(G:h.Ns br mg)(hfa:mg "law" = some (.ref fa))
  (q0:QD K "is_whole" pC)
  (q1:QD K "common_divisor" iu)
  (q2:QD K "lowest" uK)
  (q3:QD K "is_ratio" ph)
  (q4:QD K "show_ratio" lQ)
  (q5:QD K "are_figures" iG)
  (q6:QD K "read_ratio" kJ)
  (q7:QD K "is_name" nR)
  (q8:QD K "is_pair" qT)
  (q9:QD K "are_pairs" jM)
  (q10:QD K "is_end" vg)
  (q11:QD K "is_deal" oH)
  (q12:QD K "is_move" j9)
  (q13:QD K "is_formed" mR)
  (q14:QD K "head_of" rC)
  (q15:QD K "lead_of" qU)
  (q16:QD K "pieces_of" nu)
  (q17:QD K "shown" yj)
  (q18:QD K "read" CZ)
  (q19:QD K "_law_numbers" jy)
  (q20:QD K "_law_name" jJ)
  (q21:QD K "_law_ratio" lH)
  (q22:QD K "_law_words" lq)
  (q23:QD K "_law_grown" dM)
  (q24:QD K "_law_ratio_text" gA)
  (q25:QD K "_law_text" iK)
  (q26:QD K "_law_kinds" lA)
  (q27:QD K "_law_told" nD)
  (q28:QD K "law" wW)
  (qa:QD K "read_lead" Ba)
  (qb:QD K "read_side" Bk)
  (qc:QD K "read_head" Cq)
  (qb_:QD K "begun" yx)
  (qg:QD K "gone_on" Ax)
  {CR:Addr} (oR:fg K br "Reader" = some (some<|.ref CR))
  (pgR:nc K CR kG=true)
  (hdR:nL K CR=true)
  (poR:rf K CR=true)
  (saR:fR K (.ref CR) "__setattr__" = some (some<|.builtin "object.__setattr__"))
  (mkR:sk K CR=true)
  (kcR:kC K (.ref CR)=true)
  (nRtext:fR K (.ref CR) "text" = some none)
  (nRspot:fR K (.ref CR) "spot" = some none)
  {CO:Addr} (oO:fg K br "Opened" = some (some<|.ref CO))
  (pgO:nc K CO kG=true)
  (hdO:nL K CO=true)
  (poO:rf K CO=true)
  (saO:fR K (.ref CO) "__setattr__" = some (some<|.builtin "object.__setattr__"))
  (mkO:sk K CO=true)
  (kcO:kC K (.ref CO)=true)
  (nOhead:fR K (.ref CO) "head" = some none)
  (nOlead:fR K (.ref CO) "lead" = some none)
  (nOways:fR K (.ref CO) "ways" = some none)
  (mR0:QM K CR "__init__" "Reader.__init__" Cu)
  (mR1:QM K CR "passes" "Reader.passes" uT)
  (mR2:QM K CR "need" "Reader.need" CG)
  (mR3:QM K CR "chunk" "Reader.chunk" yF)
  (mO0:QM K CO "__init__" "Opened.__init__" Cp)
  {CS:Addr} (oS:fg K br "SIDES" = some (some<|.ref CS))
  {esS:Array DictEntry} {nnS:Nat} (lS:K.lookup CS=some ⟨.type "dict",none,.dict esS nnS,#[]⟩)
  (kS:W.KeysLit w.params esS.toList)
  (sS:(CS==qh)=false)
  {tS1:Tok} (s1:fg K CS "1" = some (some<|.int 1 tS1))
  {tS2:Tok} (s2:fg K CS "2" = some (some<|.int 2 tS2))
  (zValueError:fg K br "ValueError" = some none)
  (zabs:fg K br "abs" = some none)
  (zall:fg K br "all" = some none)
  (zbool:fg K br "bool" = some none)
  (zint:fg K br "int" = some none)
  (zisinstance:fg K br "isinstance" = some none)
  (zlen:fg K br "len" = some none)
  (zlist:fg K br "list" = some none)
  (zrange:fg K br "range" = some none)
  (zreversed:fg K br "reversed" = some none)
  (zset:fg K br "set" = some none)
  (zstr:fg K br "str" = some none)
  (ztuple:fg K br "tuple" = some none)
  {tFIGURES:Tok} (nFIGURES:fg K br "FIGURES" = some (some<|.str "0123456789" tFIGURES))
  {tMOST_FIGURES:Tok} (nMOST_FIGURES:fg K br "MOST_FIGURES" = some (some<|.int 30 tMOST_FIGURES))
  {tNAME_SIGNS:Tok} (nNAME_SIGNS:fg K br "NAME_SIGNS" = some (some<|.str "abcdefghijklmnopqrstuvwxyz0123456789" tNAME_SIGNS))
  {tMOST_SIGNS:Tok} (nMOST_SIGNS:fg K br "MOST_SIGNS" = some (some<|.int 8 tMOST_SIGNS))
  {tMOST_DEALT:Tok} (nMOST_DEALT:fg K br "MOST_DEALT" = some (some<|.int 64 tMOST_DEALT))
  {tMOST_WORDS:Tok} (nMOST_WORDS:fg K br "MOST_WORDS" = some (some<|.int 6 tMOST_WORDS))
  {tSTOPS:Tok} (nSTOPS:fg K br "STOPS" = some (some<|.str " ()," tSTOPS))
  : ∃fd:de,(∀(s:aS) (v:ay),uS s fd ⟨[v],[]⟩ [("_law_script",v)])/\∀base:Heap,K.In base->base.Ns br mg->b8 l.prog w K mg base (CX1 l.prog w) 33 fa fd ["_law_script"] (Er K):=by
 obtain⟨f,fd,F0,a⟩:=q28.ex;have e:=hfa.symm.trans<|mh X G a;cases e;have D0:=q0.df (ps:=["thing"]) X G λ_ _ _ _ _ _=>xb1 λ_=>rfl;have D1:=q1.df (ps:=["first", "second"]) X G λ_ _ _ _ _ _=>xb2 λ_ _=>rfl;have D2:=q2.df (ps:=["top", "bottom"]) X G λ_ _ _ _ _ _=>xb2 λ_ _=>rfl;have D3:=q3.df (ps:=["thing"]) X G λ_ _ _ _ _ _=>xb1 λ_=>rfl;have D4:=q4.df (ps:=["first"]) X G λ_ _ _ _ _ _=>xb1 λ_=>rfl;have D5:=q5.df (ps:=["text"]) X G λ_ _ _ _ _ _=>xb1 λ_=>rfl;have D6:=q6.df (ps:=["text"]) X G λ_ _ _ _ _ _=>xb1 λ_=>rfl;have D7:=q7.df (ps:=["thing"]) X G λ_ _ _ _ _ _=>xb1 λ_=>rfl;have D8:=q8.df (ps:=["thing"]) X G λ_ _ _ _ _ _=>xb1 λ_=>rfl;have D9:=q9.df (ps:=["thing", "most"]) X G λ_ _ _ _ _ _=>xb2 λ_ _=>rfl;have D10:=q10.df (ps:=["thing"]) X G λ_ _ _ _ _ _=>xb1 λ_=>rfl;have D11:=q11.df (ps:=["thing"]) X G λ_ _ _ _ _ _=>xb1 λ_=>rfl;have D12:=q12.df (ps:=["thing"]) X G λ_ _ _ _ _ _=>xb1 λ_=>rfl;have D13:=q13.df (ps:=["thing"]) X G λ_ _ _ _ _ _=>xb1 λ_=>rfl;have D14:=q14.df (ps:=["game"]) X G λ_ _ _ _ _ _=>xb1 λ_=>rfl;have D15:=q15.df (ps:=["game", "lead"]) X G λ_ _ _ _ _ _=>xb2 λ_ _=>rfl;have D16:=q16.df (ps:=["game"]) X G λ_ _ _ _ _ _=>xb1 λ_=>rfl;have D17:=q17.df (ps:=["game"]) X G λ_ _ _ _ _ _=>xb1 λ_=>rfl;have D18:=q18.df (ps:=["text"]) X G λ_ _ _ _ _ _=>xb1 λ_=>rfl;have D19:=q19.df (ps:=["_law_script"]) X G λ_ _ _ _ _ _=>xb1 λ_=>rfl;have D20:=q20.df (ps:=["_law_x"]) X G λ_ _ _ _ _ _=>xb1 λ_=>rfl;have D21:=q21.df (ps:=["_law_x"]) X G λ_ _ _ _ _ _=>xb1 λ_=>rfl;have D22:=q22.df (ps:=["_law_x", "_law_many"]) X G λ_ _ _ _ _ _=>xb2 λ_ _=>rfl;have D23:=q23.df (ps:=["_law_xs", "_law_deep"]) X G λ_ _ _ _ _ _=>xb2 λ_ _=>rfl;have D24:=q24.df (ps:=["_law_one"]) X G λ_ _ _ _ _ _=>xb1 λ_=>rfl;have D25:=q25.df (ps:=["_law_game"]) X G λ_ _ _ _ _ _=>xb1 λ_=>rfl;have D26:=q26.df (ps:=["_law_game"]) X G λ_ _ _ _ _ _=>xb1 λ_=>rfl;have D27:=q27.df (ps:=["_law_game"]) X G λ_ _ _ _ _ _=>xb1 λ_=>rfl;have B:Bt mg:=⟨eS X G zValueError,eS X G zabs,eS X G zall,eS X G zbool,eS X G zint,eS X G zisinstance,eS X G zlen,eS X G zlist,eS X G zrange,eS X G zreversed,eS X G zset,eS X G zstr,eS X G ztuple⟩;have Cn:CnT K mg:=⟨⟨.str "0123456789",_,mh X G nFIGURES,⟨tFIGURES,rfl⟩,λ_ _=>.str "0123456789"⟩,⟨.int 30,_,mh X G nMOST_FIGURES,⟨tMOST_FIGURES,rfl⟩,λ_ _=>.int 30⟩,⟨.str "abcdefghijklmnopqrstuvwxyz0123456789",_,mh X G nNAME_SIGNS,⟨tNAME_SIGNS,rfl⟩,λ_ _=>.str "abcdefghijklmnopqrstuvwxyz0123456789"⟩,⟨.int 8,_,mh X G nMOST_SIGNS,⟨tMOST_SIGNS,rfl⟩,λ_ _=>.int 8⟩,⟨.int 64,_,mh X G nMOST_DEALT,⟨tMOST_DEALT,rfl⟩,λ_ _=>.int 64⟩,⟨.int 6,_,mh X G nMOST_WORDS,⟨tMOST_WORDS,rfl⟩,λ_ _=>.int 6⟩,⟨.str " (),",_,mh X G nSTOPS,⟨tSTOPS,rfl⟩,λ_ _=>.str " (),"⟩⟩;obtain⟨oc,od,kV,doc,pm,an,cdv,ct,osl,rfl,lk,hcd⟩:=F0.ex;refine⟨oT "law" "law" (iD wW) (fM wW) (aC wW) .none kV doc pm an cdv ct,λs v=>.of_eq rfl,λbase kb nb=>?_⟩;have Gis_whole:=D0.fn (P:=l.prog) (w:=w) (base:=base) λf fd F=>zR B F;have Gcommon_divisor:=D1.fn (P:=l.prog) (w:=w) (base:=base) λf fd F=>pX B F;have Glowest:=D2.fn (P:=l.prog) (w:=w) (base:=base) λf fd F=>Hg B F Gcommon_divisor;have Gis_ratio:=D3.fn (P:=l.prog) (w:=w) (base:=base) λf fd F=>Ab B F Gis_whole Gcommon_divisor;have Gshow_ratio:=D4.fn (P:=l.prog) (w:=w) (base:=base) λf fd F=>vX B F;have Gare_figures:=D5.fn (P:=l.prog) (w:=w) (base:=base) λf fd F=>uh B Cn F;have Gread_ratio:=D6.fn (P:=l.prog) (w:=w) (base:=base) λf fd F=>vQ B F Glowest Gshow_ratio Gare_figures;have Gis_name:=D7.fn (P:=l.prog) (w:=w) (base:=base) λf fd F=>Cr B Cn F;have Gis_pair:=D8.fn (P:=l.prog) (w:=w) (base:=base) λf fd F=>Ci B F;have Gare_pairs:=D9.fn (P:=l.prog) (w:=w) (base:=base) λf fd F=>yq B F Gis_pair;have Gis_end:=D10.fn (P:=l.prog) (w:=w) (base:=base) λf fd F=>Hw B F Gis_ratio;have Gis_deal:=D11.fn (P:=l.prog) (w:=w) (base:=base) λf fd F=>Aw B Cn F Gis_ratio Gis_name Gare_pairs;have Gis_move:=D12.fn (P:=l.prog) (w:=w) (base:=base) λf fd F=>Av B Cn F Gis_whole Gis_name Gare_pairs;have Gis_formed:=D13.fn (P:=l.prog) (w:=w) (base:=base) λf fd F=>yN B F Gis_end Gis_deal Gis_move;have Ghead_of:=D14.fn (P:=l.prog) (w:=w) (base:=base) λf fd F=>Bo B F;have Glead_of:=D15.fn (P:=l.prog) (w:=w) (base:=base) λf fd F=>By B F Gshow_ratio;have Gpieces_of:=D16.fn (P:=l.prog) (w:=w) (base:=base) λf fd F=>xK B F Gshow_ratio Ghead_of Glead_of;have Gshown:=D17.fn (P:=l.prog) (w:=w) (base:=base) λf fd F=>Kq B F Gpieces_of;have ClR:Cls K CR:=⟨pgR,hdR,poR,saR⟩;have MgR:=mh X G oR;have rcR:RC K mg CR:=⟨MgR,ClR,nRtext,nRspot⟩;have ClO:Cls K CO:=⟨pgO,hdO,poO,saO⟩;have MgO:=mh X G oO;have ocO:OC K mg CO:=⟨MgO,ClO,nOhead,nOlead,nOways⟩;have Sd:SdT w K mg:=⟨CS,mh X G oS,⟨_,_,lS,kS,sS⟩,⟨_,s1⟩,_,s2⟩;have GmR:=mR0.mkT (P:=l.prog) (w:=w) (base:=base) MgR mkR kcR (λ_ _ F=>Nh F) λ_ _ _ _ _ _=>xb2 λ_ _=>rfl;have GmO:=mO0.mkT (P:=l.prog) (w:=w) (base:=base) MgO mkO kcO (λ_ _ F=>Pq F) λ_ _ _ _ _ _=>xb2 λ_ _=>rfl;have Gps:=mR1.mt (P:=l.prog) (w:=w) (base:=base) MgR ClR (λ_ _ F=>Hm B F) λ_ _ _ _ _ _=>xb2 λ_ _=>rfl;have Gnd:=mR2.mt (P:=l.prog) (w:=w) (base:=base) MgR ClR (λ_ _ F=>N5 Gps F) λ_ _ _ _ _ _=>xb2 λ_ _=>rfl;have Gck:=mR3.mt (P:=l.prog) (w:=w) (base:=base) MgR ClR (λ_ _ F=>Lf B Cn F) λ_ _ _ _ _ _=>xb1 λ_=>rfl;have Gr:=QR (k:=4) Gread_ratio (by decide);have Gf:=QR (k:=6) Gis_formed (by decide);have Glead:=(qa.df (ps:=["reader", "opened"]) X G λ_ _ _ _ _ _=>xb2 λ_ _=>rfl).fn (P:=l.prog) (w:=w) (base:=base) λf fd F=>Qj Gck Gnd Gr F;have Gside:=(qb.df (ps:=["reader"]) X G λ_ _ _ _ _ _=>xb1 λ_=>rfl).fn (P:=l.prog) (w:=w) (base:=base) λf fd F=>Np Sd Gck Gnd F;have Ghead:=(qc.df (ps:=["reader"]) X G λ_ _ _ _ _ _=>xb1 λ_=>rfl).fn (P:=l.prog) (w:=w) (base:=base) λf fd F=>NZ Gps Gck Gnd Gside F;have Gbegun:=(qb_.df (ps:=["reader", "waiting"]) X G λ_ _ _ _ _ _=>xb2 λ_ _=>rfl).fn (P:=l.prog) (w:=w) (base:=base) λf fd F=>KN Gps Gck Gr GmO (λC e=>by rw[MgO] at e;cases e;exact ocO) Ghead Glead F;have Ggone:=(qg.df (ps:=["reader", "waiting", "game"]) X G λ_ _ _ _ _ _=>xb3 λ_ _ _=>rfl).fn (P:=l.prog) (w:=w) (base:=base) λf fd F=>Pr B Gps Gnd Gf Glead F;have Gread:=D18.fn (P:=l.prog) (w:=w) (base:=base) λf fd F=>Oe B GmR (λC e=>by rw[MgR] at e;cases e;exact rcR) Gbegun Ggone F;have G_law_numbers:=D19.fn (P:=l.prog) (w:=w) (base:=base) λf fd F=>sW B F;have G_law_name:=D20.fn (P:=l.prog) (w:=w) (base:=base) λf fd F=>xW B F;have G_law_ratio:=D21.fn (P:=l.prog) (w:=w) (base:=base) λf fd F=>vH B F;have G_law_words:=D22.fn (P:=l.prog) (w:=w) (base:=base) λf fd F=>vJ B F G_law_name;have G_law_grown:∀n:Nat,FIO l.prog w K mg base (2+n) "_law_grown" ["_law_xs", "_law_deep"] (bh n):=by
  intro n;induction n with
  |zero=>exact D23.fn λf fd F=>Ud
  |succ n ih=>exact D23.fn λf fd F=>vM B F G_law_name G_law_ratio G_law_words n ih
 have G_law_ratio_text:=D24.fn (P:=l.prog) (w:=w) (base:=base) λf fd F=>pJ B F;have G_law_text:∀n:Nat,FF l.prog w K mg base (1+n) "_law_text" ["_law_game"] (bN n):=by
  intro n;induction n with
  |zero=>exact D25.fn λf fd F=>QL
  |succ n ih=>exact D25.fn λf fd F=>yL B F G_law_ratio_text n ih
 have G_law_kinds:∀n:Nat,FF l.prog w K mg base (0+n) "_law_kinds" ["_law_game"] (cR n):=by
  intro n;induction n with
  |zero=>exact D26.fn λf fd F=>QL
  |succ n ih=>exact D26.fn λf fd F=>vG B F  n ih
 have G_law_told:=D27.fn (P:=l.prog) (w:=w) (base:=base) λf fd F=>yP B F Gshown Gread (G_law_text 30)<|G_law_kinds 30;exact Ob JW<|Rv B F0 G_law_numbers (G_law_grown 30) G_law_told
theorem walk {l:W.OpenLaw}{q:bb}{loose:List Str}{XP:(Zs)->Heap->Prop}{YP:cp->Heap->Prop}{d:DefRec}{K:Params->aw}(hn:l.most=some 63)(hdf:d.params.defaults=[])
  (hY:∀(w:cp) (h:Heap),YP w h->(K w.params).In h)
  (F:∀(w:cp) (mg:Zs) (fa:Addr) (h:Heap),(K w.params).In h->h.Ns br mg->mg d.name=some (.ref fa)->
   ∃fd:de,(∀(s:aS) (u:ay),uS s fd ⟨[u],[]⟩ [("_law_script",u)])/\∀base:Heap,(K w.params).In base->base.Ns br mg->b8 l.prog w (K w.params) mg base (CX1 l.prog w) 33 fa fd ["_law_script"] (Er<|K w.params)):
  W.WalkO q loose XP YP l.row.toRowW d [] (λf vs=>va f vs):=
 L2.Ol (n:=63) (k:=33) (x:="_law_script") (CX:=λw=>CX1 l.prog w) (sp:=λw=>Er<|K w.params) hn (by decide) hdf ⟨rfl,by decide,by decide,rfl⟩ hY F (λ_ _ a ns hl _ hS=>⟨a,ns,rfl,hS,hl,λ_=>rfl⟩) λ_ _ _ _ _ ⟨_,_,_,_,_,_,z⟩=>z.elim
end K09
namespace PySem.W.Fast
theorem tw4616190666780158657:True:=⟨⟩
theorem tw2308902379858339635:True:=⟨⟩
theorem tw18418202579569860350:True:=⟨⟩
theorem tw9304616616407177550:True:=⟨⟩
theorem tw2678646668049159893:True:=⟨⟩
theorem tw16516400741940673580:True:=⟨⟩
theorem tw11392179206295063079:True:=⟨⟩
theorem tw7717971351749786801:True:=⟨⟩
theorem tw4468950558062367513:True:=⟨⟩
theorem tw10576593475126399376:True:=⟨⟩
theorem tw1958770299624148556:True:=⟨⟩
theorem tw17873202538656057661:True:=⟨⟩
theorem tw9712270112531013559:True:=⟨⟩
theorem tw4052268919865908391:True:=⟨⟩
theorem tw13751823987100435781:True:=⟨⟩
theorem tw12714703432118332330:True:=⟨⟩
theorem tw6583434389046426036:True:=⟨⟩
theorem tw9054844451294370154:True:=⟨⟩
theorem tw9085032803267709239:True:=⟨⟩
theorem tw6559482889800513935:True:=⟨⟩
theorem tw11641031618949685155:True:=⟨⟩
theorem tw3963112044009766287:True:=⟨⟩
theorem tw10460434172848996004:True:=⟨⟩
theorem tw27863002811657542:True:=⟨⟩
theorem tw13639176167949186694:True:=⟨⟩
theorem tw17249922701614152459:True:=⟨⟩
theorem tw2042950126232633956:True:=⟨⟩
theorem tw7665679487542025354:True:=⟨⟩
theorem tw788952852667221951:True:=⟨⟩
theorem tw15354471990624493470:True:=⟨⟩
theorem tw10939823408778041973:True:=⟨⟩
theorem tw2326481552519602070:True:=⟨⟩
theorem tw1383977260526550831:True:=⟨⟩
theorem tw5510890120123004248:True:=⟨⟩
theorem tw2726665636188888903:True:=⟨⟩
theorem tw5370131749612204923:True:=⟨⟩
theorem tw11659613873965993363:True:=⟨⟩
theorem tw14518977990188274358:True:=⟨⟩
theorem tw1466028479170388144:True:=⟨⟩
theorem tw5776866876234159960:True:=⟨⟩
theorem tw2543768476923857136:True:=⟨⟩
theorem tw12379360954345125880:True:=⟨⟩
theorem tw11942408600484576572:True:=⟨⟩
theorem tw4720717383234308912:True:=⟨⟩
theorem tw12581321563083961930:True:=⟨⟩
theorem tw2514357906509809846:True:=⟨⟩
theorem tw7327443336776944467:True:=⟨⟩
theorem tw2402796824758163778:True:=⟨⟩
theorem tw12379673258837534966:True:=⟨⟩
theorem tw9044581481840908206:True:=⟨⟩
theorem tw3718381638898443635:True:=⟨⟩
theorem tw11341392682297181966:True:=⟨⟩
theorem tw18435051276329562686:True:=⟨⟩
theorem tw17379150914521795313:True:=⟨⟩
theorem tw5165892941367902476:True:=⟨⟩
theorem tw11909577888012511619:True:=⟨⟩
theorem tw12142566587033472798:True:=⟨⟩
theorem tw11229145117443306715:True:=⟨⟩
theorem tw10110859025758353109:True:=⟨⟩
theorem tw12846335199728807783:True:=⟨⟩
theorem tw5882544489413112254:True:=⟨⟩
theorem tw1076738445051108423:True:=⟨⟩
theorem tw9138790641905181098:True:=⟨⟩
theorem tw12643277841153573363:True:=⟨⟩
theorem tw1431117864157372170:True:=⟨⟩
theorem tw15364023101010934709:True:=⟨⟩
theorem tw11060008549162736737:True:=⟨⟩
theorem tw7178505274459542951:True:=⟨⟩
theorem tw7779299036184181343:True:=⟨⟩
theorem tw11361814446587288161:True:=⟨⟩
theorem tw267399451264043547:True:=⟨⟩
theorem tw16550916326383505114:True:=⟨⟩
theorem tw3326600455056266499:True:=⟨⟩
theorem tw1122255857871897908:True:=⟨⟩
theorem tw6671760739215629111:True:=⟨⟩
theorem tw9864264335105631999:True:=⟨⟩
theorem tw1069551563806127492:True:=⟨⟩
theorem tw9991716711020508006:True:=⟨⟩
theorem tw378612863094890159:True:=⟨⟩
theorem tw5356681235390568455:True:=⟨⟩
theorem tw16834039934292051907:True:=⟨⟩
theorem tw1909294272200903943:True:=⟨⟩
theorem tw338273145879298783:True:=⟨⟩
theorem tw3567528853641898837:True:=⟨⟩
theorem tw6314119032067249699:True:=⟨⟩
theorem tw15552985935116766869:True:=⟨⟩
theorem tw12218725718507148682:True:=⟨⟩
theorem tw12463802549884346762:True:=⟨⟩
theorem tw14815102574833301457:True:=⟨⟩
theorem tw7944910247951120510:True:=⟨⟩
theorem tw13408915852292600474:True:=⟨⟩
theorem tw15894320433841983190:True:=⟨⟩
theorem tw15255490117249696684:True:=⟨⟩
theorem tw11280945690533349505:True:=⟨⟩
theorem tw6303562385744333341:True:=⟨⟩
theorem tw6877023177757250385:True:=⟨⟩
theorem tw8759597745391708591:True:=⟨⟩
theorem tw15813295342443823141:True:=⟨⟩
theorem tw2052868364590313160:True:=⟨⟩
theorem tw537294157591118391:True:=⟨⟩
theorem tw195190840723648245:True:=⟨⟩
theorem tw6403755350045005134:True:=⟨⟩
theorem tw15107420223421595232:True:=⟨⟩
theorem tw3108462801415805417:True:=⟨⟩
theorem tw8604916633164129003:True:=⟨⟩
theorem tw15168601395487369197:True:=⟨⟩
theorem tw3869213446415713293:True:=⟨⟩
theorem tw8349939626674714010:True:=⟨⟩
theorem tw16239472627097858566:True:=⟨⟩
theorem tw14498342129581714477:True:=⟨⟩
theorem tw5931941380698846144:True:=⟨⟩
theorem tw6536969338202231647:True:=⟨⟩
theorem tw17899913501110178575:True:=⟨⟩
theorem tw8002661746828125934:True:=⟨⟩
theorem tw3010797467370279344:True:=⟨⟩
theorem tw14128812369655291307:True:=⟨⟩
theorem tw12073809655818035639:True:=⟨⟩
theorem tw9120670063620158068:True:=⟨⟩
theorem tw4215293929148478430:True:=⟨⟩
theorem tw2775930281579921845:True:=⟨⟩
theorem tw10115119611035362440:True:=⟨⟩
theorem tw10834852925013526361:True:=⟨⟩
theorem tw12771231746354502809:True:=⟨⟩
theorem tw2255132582299728006:True:=⟨⟩
theorem tw7168853440424208055:True:=⟨⟩
theorem tw4564860933553164493:True:=⟨⟩
theorem tw8168752529307808875:True:=⟨⟩
theorem tw14266073601397145420:True:=⟨⟩
theorem tw14811840126066231962:True:=⟨⟩
theorem tw11912534728433438508:True:=⟨⟩
theorem tw14530153863414039373:True:=⟨⟩
theorem tw572664583230566601:True:=⟨⟩
theorem tw5320994297055145546:True:=⟨⟩
theorem tw3571076308946229493:True:=⟨⟩
theorem tw2759155325484665699:True:=⟨⟩
theorem tw12542431886478273904:True:=⟨⟩
theorem tw10682077477751411444:True:=⟨⟩
theorem tw10661545635978153231:True:=⟨⟩
theorem tw17903658039265544514:True:=⟨⟩
theorem tw10291382809569636547:True:=⟨⟩
theorem tw17313633237523980819:True:=⟨⟩
theorem tw6880362992733327256:True:=⟨⟩
theorem tw4831102922744857964:True:=⟨⟩
theorem tw3586629441711945232:True:=⟨⟩
theorem tw17512263343378152687:True:=⟨⟩
theorem tw17310556032032827737:True:=⟨⟩
theorem tw17151275357224436250:True:=⟨⟩
theorem tw1591868388119750148:True:=⟨⟩
theorem tw15655865065025206179:True:=⟨⟩
theorem tw11677851114819874332:True:=⟨⟩
theorem tw17365220619634762975:True:=⟨⟩
theorem tw15821129393108939370:True:=⟨⟩
theorem tw11704008991190896294:True:=⟨⟩
theorem tw9879659284270610748:True:=⟨⟩
theorem tw3649404109219586677:True:=⟨⟩
theorem tw18081339062317909473:True:=⟨⟩
theorem tw18014113093087352959:True:=⟨⟩
theorem tw17435449301895100873:True:=⟨⟩
theorem tw16703655155502265020:True:=⟨⟩
theorem tw15853802638526260196:True:=⟨⟩
theorem tw15092945763202135816:True:=⟨⟩
theorem tw14944401747542053708:True:=⟨⟩
theorem tw14793999401647314503:True:=⟨⟩
theorem tw14223686383560097424:True:=⟨⟩
theorem tw13477916909618066863:True:=⟨⟩
theorem tw3651754448277191454:True:=⟨⟩
theorem tw10326634980233971942:True:=⟨⟩
theorem tw8698669050918859163:True:=⟨⟩
theorem tw8684400157721455637:True:=⟨⟩
theorem tw7302554026217093333:True:=⟨⟩
theorem tw67197549525119163:True:=⟨⟩
theorem tw6609781684895940616:True:=⟨⟩
theorem tw6148092395541743660:True:=⟨⟩
theorem tw589121072753003070:True:=⟨⟩
theorem tw509733783864977923:True:=⟨⟩
theorem tw5008683563685525388:True:=⟨⟩
theorem tw4353534107452036661:True:=⟨⟩
theorem tw4333531644821143216:True:=⟨⟩
theorem tw407265175980737954:True:=⟨⟩
theorem tw2526186404317925360:True:=⟨⟩
theorem tw11313410409924273493:True:=⟨⟩
theorem tw9872327826894671852:True:=⟨⟩
theorem tw15191888207152517758:True:=⟨⟩
theorem tw13892813399846827932:True:=⟨⟩
theorem tw2150419396489205162:True:=⟨⟩
theorem tw2124920863472203838:True:=⟨⟩
theorem tw16362579651949559849:True:=⟨⟩
theorem tw16969419226450698234:True:=⟨⟩
theorem tw942983950764635308:True:=⟨⟩
theorem tw9040935878409054228:True:=⟨⟩
theorem tw8293913968508051965:True:=⟨⟩
theorem tw5058252906278004612:True:=⟨⟩
theorem tw4258528682468983164:True:=⟨⟩
theorem tw16887004758983616701:True:=⟨⟩
theorem tw6908311397168287987:True:=⟨⟩
theorem tw3911597069393732253:True:=⟨⟩
theorem tw8413006830661404979:True:=⟨⟩
theorem tw457106890062812683:True:=⟨⟩
theorem tw13088532268288505111:True:=⟨⟩
theorem tw9436247568592283875:True:=⟨⟩
theorem tw8720829487791786863:True:=⟨⟩
theorem tw8599075238861221985:True:=⟨⟩
theorem tw8436566010584052061:True:=⟨⟩
theorem tw7778516520365592679:True:=⟨⟩
theorem tw7214203503354831746:True:=⟨⟩
theorem tw6170592938476888242:True:=⟨⟩
theorem tw18249702265258862833:True:=⟨⟩
theorem tw15565731554304780091:True:=⟨⟩
theorem tw6133361972705065177:True:=⟨⟩
theorem tw16497286834188304921:True:=⟨⟩
theorem tw15622004806124831411:True:=⟨⟩
theorem tw8068164775323436859:True:=⟨⟩
theorem tw374634458739517014:True:=⟨⟩
theorem tw10274079158920165916:True:=⟨⟩
theorem tw15219375617953872831:True:=⟨⟩
theorem tw9534702254181094225:True:=⟨⟩
theorem tw8030618516217537292:True:=⟨⟩
theorem tw4240110741223719935:True:=⟨⟩
theorem tw15437412386465994021:True:=⟨⟩
theorem tw17450166910445007531:True:=⟨⟩
theorem tw16488999088090937535:True:=⟨⟩
theorem tw15505576263814425502:True:=⟨⟩
theorem tw15198968243073609907:True:=⟨⟩
theorem tw14991102999951469719:True:=⟨⟩
theorem tw1456797777614748264:True:=⟨⟩
theorem tw14487477898455108077:True:=⟨⟩
theorem tw14047251193327455856:True:=⟨⟩
theorem tw13485389060230836257:True:=⟨⟩
theorem tw13304181001106637360:True:=⟨⟩
theorem tw1213506977891044174:True:=⟨⟩
theorem tw11967780691041247344:True:=⟨⟩
theorem tw1177318944250015128:True:=⟨⟩
theorem tw1108338699651448348:True:=⟨⟩
theorem tw10943172842513212588:True:=⟨⟩
theorem tw10827598052335156496:True:=⟨⟩
theorem tw10421462003942516082:True:=⟨⟩
theorem tw10410260483290922624:True:=⟨⟩
theorem tw9825286783027202223:True:=⟨⟩
theorem tw9664732464779729536:True:=⟨⟩
theorem tw9586767368595218815:True:=⟨⟩
theorem tw9332027374766309630:True:=⟨⟩
theorem tw9136487435365745822:True:=⟨⟩
theorem tw9040728859049554589:True:=⟨⟩
theorem tw8586466101637146656:True:=⟨⟩
theorem tw8463323658773925912:True:=⟨⟩
theorem tw8298591909126365816:True:=⟨⟩
theorem tw8194147641671812492:True:=⟨⟩
theorem tw7776728956120971860:True:=⟨⟩
theorem tw7468448697199814844:True:=⟨⟩
theorem tw7341610789884734198:True:=⟨⟩
theorem tw7292073817292516462:True:=⟨⟩
theorem tw7036982508029323095:True:=⟨⟩
theorem tw6810333180236111974:True:=⟨⟩
theorem tw6770911220818576697:True:=⟨⟩
theorem tw6745392260303900599:True:=⟨⟩
theorem tw5821210218003499722:True:=⟨⟩
theorem tw5645495367306983152:True:=⟨⟩
theorem tw5227030507805315742:True:=⟨⟩
theorem tw4842293860224270584:True:=⟨⟩
theorem tw4778957744388953994:True:=⟨⟩
theorem tw4638305275657675530:True:=⟨⟩
theorem tw4487808970349115229:True:=⟨⟩
theorem tw4244467596545249559:True:=⟨⟩
theorem tw4163845863188452351:True:=⟨⟩
theorem tw4111983714413067495:True:=⟨⟩
theorem tw3883247351886222457:True:=⟨⟩
theorem tw3839706985503644565:True:=⟨⟩
theorem tw383347416446184413:True:=⟨⟩
theorem tw2946775852059291840:True:=⟨⟩
theorem tw2636242859895116774:True:=⟨⟩
theorem tw2624471650078797703:True:=⟨⟩
theorem tw2402843373928437477:True:=⟨⟩
theorem tw2253418635741211721:True:=⟨⟩
theorem tw2033368171328734734:True:=⟨⟩
theorem tw18316368230904358265:True:=⟨⟩
theorem tw1767315280966385436:True:=⟨⟩
theorem tw17639932212798578079:True:=⟨⟩
theorem tw17340997996290802409:True:=⟨⟩
theorem tw1720053757509199287:True:=⟨⟩
theorem tw16856593190578266366:True:=⟨⟩
theorem tw16464547883285930134:True:=⟨⟩
theorem tw15988476534183211184:True:=⟨⟩
theorem tw15775618070776481635:True:=⟨⟩
theorem tw15589896300033869336:True:=⟨⟩
theorem tw15364670445185587347:True:=⟨⟩
theorem tw14902789264371209752:True:=⟨⟩
theorem tw14864005164173080306:True:=⟨⟩
theorem tw14470191297727126743:True:=⟨⟩
theorem tw1426731729304506788:True:=⟨⟩
theorem tw13980755597235965113:True:=⟨⟩
theorem tw13643849556335955248:True:=⟨⟩
theorem tw13455622587174148414:True:=⟨⟩
theorem tw13387059920317035089:True:=⟨⟩
theorem tw12772866823937401962:True:=⟨⟩
theorem tw12207890007406119859:True:=⟨⟩
theorem tw12074714800918973668:True:=⟨⟩
theorem tw1186806707956869473:True:=⟨⟩
theorem tw11847181234744817974:True:=⟨⟩
theorem tw11680564943833824491:True:=⟨⟩
theorem tw11626785301653527029:True:=⟨⟩
end PySem.W.Fast
open PySem PySem.W PyProof.Rows
set_option maxRecDepth 100000 in
set_option maxHeartbeats 0 in
theorem PySem.Challenge.cw_hushduel_k09_games_shown_holds : PySem.Challenge.rw_hushduel_k09_games_shown.Holds := by
 w_on;o_law;k_head;(case hw=>w_witness2)
 k_fill
 refine K09.walk (l:=PySem.Challenge.rw_hushduel_k09_games_shown) rfl rfl (λw h Y=>PySem.W.kIn_of Y) ?F
 case F=>
  intro w mg fa h KX G hmg;refine' K09.all_mk KX G hmg ?_ ?_ ?_ ?_ ?_ ?_ ?_ ?_ ?_ ?_ ?_ ?_ ?_ ?_ ?_ ?_ ?_ ?_ ?_ ?_ ?_ ?_ ?_ ?_ ?_ ?_ ?_ ?_ ?_ ?_ ?_ ?_ ?_ ?_ ?_ ?_ ?_ ?_ ?_ ?_ ?_ ?_ ?_ ?_ ?_ ?_ ?_ ?_ ?_ ?_ ?_ ?_ ?_ ?_ ?_ ?_ ?_ ?_ ?_ ?_ ?kS ?sS ?_ ?_ ?_ ?_ ?_ ?_ ?_ ?_ ?_ ?_ ?_ ?_ ?_ ?_ ?_ ?_ ?_ ?_ ?_ ?_ ?_ ?_
  all_goals try first | (refine' F.qd ?a ?l ?c ?k;(case a=>k_is);(case l=>k_is);(case c=>k_is);(case k=>k_is)) | (refine' F.qm ?a ?i ?l ?c ?k;(case a=>k_is);(case i=>k_is);(case l=>k_is);(case c=>k_is);(case k=>k_is)) | k_is
  (case kS=>k_keys)
  (case sS=>decide)
