import PyProof.Rows.All
import Wide.All
import OpenK.AllK
import Wide.FinOn
import Lean
import PyProof.EqAt
import PyProof.EqKinds
import PyProof.TupleCall
import PyProof.TupleKey
import KE.KRevSl
import PyProof.P3Eq
import KE.LcSums
import PyProof.EnumMake
import PyProof.StrWalks
import PyProof.Conv_int_bool
import KE.KIntText
import PyProof.Rows.StrNews2
import PyProof.StrBlock2
import PyProof.Rows.StrNews
import PyProof.StrLawsRepr
import PyProof.ReprStr
import PyProof.ReprRoads
import PyProof.DictIter
import PyProof.Rows.SetFrom
import KE.KDictList
import KE.KDictOf
import PyProof.AttrMissHeap
import KE.KEqDict
import PyProof.DictItems
import KE.KPairComp
import PyProof.ZipIter
import PyProof.Rows.ZipGen
import PyProof.Rows.Range3
import PyProof.ListRange
import PySem.Challenge.RW_hushduel_k35_whole_seekings_with_papers
set_option genSizeOf false
theorem xq5 {A B C D E:Sort _}{R Q:A->B->C->D->E->Prop}{P:Prop}(h:∃a b c d e,R a b c d e/\Q a b c d e)(k:∀a b c d e,R a b c d e->Q a b c d e->P):P:=by
 obtain ⟨a,b,c,d,e,r,q⟩:=h
 exact k a b c d e r q
theorem xq7 {A B C D E F G:Sort _}{R Q S T:A->B->C->D->E->F->G->Prop}{P:Prop}(h:∃a b c d e f g,R a b c d e f g/\Q a b c d e f g/\S a b c d e f g/\T a b c d e f g)(k:∀a b c d e f g,R a b c d e f g->Q a b c d e f g->S a b c d e f g->T a b c d e f g->P):P:=by
 obtain ⟨a,b,c,d,e,f,g,r,q,s,t⟩:=h
 exact k a b c d e f g r q s t
theorem xq2 {A B:Sort _}{R Q S:A->B->Prop}{P:Prop}(h:∃a b,R a b/\Q a b/\S a b)(k:∀a b,R a b->Q a b->S a b->P):P:=by
 obtain ⟨a,b,r,q,s⟩:=h
 exact k a b r q s
theorem xl1 {A:Type _}{us:List A}(h:us.length=1):∃a,us=[a]:=by
 cases us with
 |nil=>cases h
 |cons a t=>cases t with
  |nil=>exact ⟨a,rfl⟩
  |cons _ _=>cases h
theorem xl0 {A:Type _}{us:List A}{n:Nat}(h:us.length=n+1):∃a t,us=a::t/\t.length=n:=by
 cases us with
 |nil=>cases h
 |cons a t=>exact ⟨a,t,rfl,Nat.succ.inj h⟩
theorem xl2 {A:Type _}{us:List A}(h:us.length=2):∃a b,us=[a,b]:=by
 obtain ⟨a,t,rfl,h'⟩:=xl0 (n:=1) h
 obtain ⟨b,rfl⟩:=xl1 h'
 exact ⟨a,b,rfl⟩
theorem xl3 {A:Type _}{us:List A}(h:us.length=3):∃a b c,us=[a,b,c]:=by
 obtain ⟨a,t,rfl,h'⟩:=xl0 (n:=2) h
 obtain ⟨b,c,rfl⟩:=xl2 h'
 exact ⟨a,b,c,rfl⟩
theorem xl4 {A:Type _}{us:List A}(h:us.length=4):∃a b c d,us=[a,b,c,d]:=by
 obtain ⟨a,t,rfl,h'⟩:=xl0 (n:=3) h
 obtain ⟨b,c,d,rfl⟩:=xl3 h'
 exact ⟨a,b,c,d,rfl⟩
set_option Elab.async false
set_option linter.all false
set_option maxRecDepth 100000
namespace L2
open PySem PySem.Spec PyProof.Rows
noncomputable abbrev Key:=Sum Int Str
noncomputable def keyIs:Key->Value->Bool
 | .inl k,v=>Value.isInt k v
 | .inr x,v=>Value.isStrOf x v
noncomputable def keyH (w:World):Key->Int
 | .inl k=>hashInt k
 | .inr x=>hashStr w x
theorem keyIs_shape:∀{k:Key} {v:Value},keyIs k v=true->(∃i t,k=Sum.inl i/\v=Value.int i t)\/(∃x t,k=Sum.inr x/\v=Value.str x t)
 | .inl i,v,h=>by
  obtain ⟨t,e⟩:=Value.isInt_shape (k:=i) (v:=v) h
  exact .inl ⟨i,t,rfl,e⟩
 | .inr x,v,h=>by
  obtain ⟨t,e⟩:=Value.isStrOf_shape (x:=x) (v:=v) h
  exact .inr ⟨x,t,rfl,e⟩
theorem key_ll (a b:Int):decide ((Sum.inl a:Key)=Sum.inl b)=(a == b):=by
 by_cases e:a=b
 ·subst e; simp
 ·have h:¬(Sum.inl a:Key)=Sum.inl b:=fun q=>e (Sum.inl.inj q)
  rw [decide_eq_false h]
  exact (beq_eq_false_iff_ne.mpr e).symm
theorem key_rr (a b:Str):decide ((Sum.inr a:Key)=Sum.inr b)=decide (a=b):=by
 by_cases e:a=b
 ·subst e; simp
 ·have h:¬(Sum.inr a:Key)=Sum.inr b:=fun q=>e (Sum.inr.inj q)
  rw [decide_eq_false h,decide_eq_false e]
theorem key_lr (a:Int)(b:Str):decide ((Sum.inl a:Key)=Sum.inr b)=false:=decide_eq_false (fun q=>nomatch q)
theorem key_rl (a:Str)(b:Int):decide ((Sum.inr a:Key)=Sum.inl b)=false:=decide_eq_false (fun q=>nomatch q)
noncomputable def mixKind (prog:Program)(w:World):PySem.KeyKind prog w Key where
 is:=keyIs
 hash:=keyH w
 inj:=fun v a b ha hb=>by
  rcases keyIs_shape ha with ⟨i,t,rfl,rfl⟩ | ⟨x,t,rfl,rfl⟩
  ·rcases keyIs_shape hb with ⟨j,u,rfl,e⟩ | ⟨y,u,rfl,e⟩
   ·injection e with e1 _; rw [e1]
   ·exact nomatch e
  ·rcases keyIs_shape hb with ⟨j,u,rfl,e⟩ | ⟨y,u,rfl,e⟩
   ·exact nomatch e
   ·injection e with e1 _; rw [e1]
 byValue:=fun k v h=>by
  rcases keyIs_shape h with ⟨i,t,rfl,rfl⟩ | ⟨x,t,rfl,rfl⟩ <;> rfl
 pyHash:=fun hv h=>by
  rcases keyIs_shape hv with ⟨i,t,rfl,rfl⟩ | ⟨x,t,rfl,rfl⟩
  ·exact wpAny_pyHash_int h
  ·exact wpAny_pyHash_str h
 eqBool:=fun hu hv h=>by
  rcases keyIs_shape hu with ⟨i,t,rfl,rfl⟩ | ⟨x,t,rfl,rfl⟩
  ·rcases keyIs_shape hv with ⟨j,u,rfl,rfl⟩ | ⟨y,u,rfl,rfl⟩
   ·rw [key_ll] at h; exact wpAny_eqBool_int h
   ·rw [key_lr] at h; exact SeqAt.EqAt.int_str i t y u _ _ _ _ h
  ·rcases keyIs_shape hv with ⟨j,u,rfl,rfl⟩ | ⟨y,u,rfl,rfl⟩
   ·rw [key_rl] at h; exact SeqAt.EqAt.str_int x t j u _ _ _ _ h
   ·rw [key_rr] at h; exact wpAny_eqBool_str h
 «strs»:=fun k x t v h=>by
  rcases keyIs_shape h with ⟨i,u,rfl,e⟩ | ⟨y,u,rfl,e⟩
  ·exact nomatch e
  ·injection e with e1 _
   subst e1
   cases v <;> rfl
inductive Kt where
 |k (x:Key) | t (xs:List Kt)
mutual
noncomputable def Kt.dec:(a b:Kt)->Decidable (a=b)
 | .k x,.k y=>if h:x=y then .isTrue (by rw [h]) else .isFalse fun e=>h (by injection e)
 | .t xs,.t ys=>match Kt.decs xs ys with
  | .isTrue h=>.isTrue (by rw [h])
  | .isFalse h=>.isFalse fun e=>h (by injection e)
 | .k _,.t _=>.isFalse fun e=>nomatch e
 | .t _,.k _=>.isFalse fun e=>nomatch e
noncomputable def Kt.decs:(a b:List Kt)->Decidable (a=b)
 |[],[]=>.isTrue rfl
 |[],_::_=>.isFalse fun e=>nomatch e
 |_::_,[]=>.isFalse fun e=>nomatch e
 |x::xs,y::ys=>match Kt.dec x y,Kt.decs xs ys with
  | .isTrue h,.isTrue g=>.isTrue (by rw [h,g])
  | .isFalse h,_=>.isFalse fun e=>h (by injection e)
  |_,.isFalse g=>.isFalse fun e=>g (by injection e)
end
noncomputable instance:DecidableEq Kt:=Kt.dec
mutual
noncomputable def ktHash (w:World):Kt->Int
 | .k x=>keyH w x
 | .t xs=>reduceHash (Builtin.Tuple.tupleHashOf (ktHashs w xs))
noncomputable def ktHashs (w:World):List Kt->List Int
 |[]=>[]
 |x::xs=>ktHash w x::ktHashs w xs
end
mutual
noncomputable def ktDraws:Kt->Nat
 | .k _=>1
 | .t xs=>ktDrawss xs+1
noncomputable def ktDrawss:List Kt->Nat
 |[]=>0
 |x::xs=>ktDraws x+ktDrawss xs
end
noncomputable def KtIs (h:Heap):Nat->Kt->Value->Prop
 |_,.k x,v=>keyIs x v=true
 |0,.t _,_=>False
 |n+1,.t xs,v=>∃a o items m,v=.ref a/\h.get? a=some o/\o.cls=.type "tuple"/\o.data=.seq items m/\Paired (KtIs h n) xs items.toList
theorem ktIs_t {h:Heap}{n:Nat}{xs:List Kt}{v:Value}:KtIs h (n+1) (.t xs) v↔∃a o items m,v=.ref a/\h.get? a=some o/\o.cls=.type "tuple"/\o.data=.seq items m/\Paired (KtIs h n) xs items.toList:=by rw [KtIs]
theorem ktIs_k {h:Heap}{n:Nat}{x:Key}{v:Value}:KtIs h n (.k x) v↔keyIs x v=true:=by cases n <;> rw [KtIs]
theorem paired_imp {α β:Type}{F G:α->β->Prop}(f:∀a b,F a b->G a b):∀{l:List α} {m:List β},Paired F l m->Paired G l m
 |_,_,.nil=>.nil
 |_,_,.cons r t=>.cons (f _ _ r) (paired_imp f t)
theorem paired_inj {α β:Type}{F:α->β->Prop}(f:∀x y b,F x b->F y b->x=y):∀{l l':List α} {m:List β},Paired F l m->Paired F l' m->l=l'
 |_,_,_,.nil,.nil=>rfl
 |_,_,_,.cons r t,.cons r' t'=>by rw [f _ _ _ r r',paired_inj f t t']
theorem ktIs_inj {h:Heap}:∀(n:Nat) (x y:Kt) (v:Value),KtIs h n x v->KtIs h n y v->x=y
 |n,.k x,.k y,v,hx,hy=>by
  rw [ktIs_k] at hx hy
  rcases keyIs_shape hx with ⟨i,t,rfl,rfl⟩ | ⟨z,t,rfl,rfl⟩
  ·rcases keyIs_shape hy with ⟨j,u,rfl,e⟩ | ⟨y,u,rfl,e⟩
   ·injection e with e1 _; rw [e1]
   ·exact nomatch e
  ·rcases keyIs_shape hy with ⟨j,u,rfl,e⟩ | ⟨y,u,rfl,e⟩
   ·exact nomatch e
   ·injection e with e1 _; rw [e1]
 |0,.t _,_,_,hx,_=>by rw [KtIs] at hx; exact hx.elim
 |0,.k _,.t _,_,_,hy=>by rw [KtIs] at hy; exact hy.elim
 |n+1,.k x,.t ys,v,hx,hy=>by
  rw [ktIs_k] at hx
  obtain ⟨a,_,_,_,e,_⟩:=ktIs_t.mp hy
  subst e
  rcases keyIs_shape hx with ⟨_,_,_,e⟩ | ⟨_,_,_,e⟩ <;> exact nomatch e
 |n+1,.t xs,.k y,v,hx,hy=>by
  rw [ktIs_k] at hy
  obtain ⟨a,_,_,_,e,_⟩:=ktIs_t.mp hx
  subst e
  rcases keyIs_shape hy with ⟨_,_,_,e⟩ | ⟨_,_,_,e⟩ <;> exact nomatch e
 |n+1,.t xs,.t ys,v,hx,hy=>by
  obtain ⟨a,o,it,m,e,g,_,d,p⟩:=ktIs_t.mp hx
  obtain ⟨a',o',it',m',e',g',_,d',p'⟩:=ktIs_t.mp hy
  subst e
  injection e' with e'
  subst e'
  cases g.symm.trans g'
  rw [d] at d'
  injection d' with d' _
  subst d'
  rw [paired_inj (ktIs_inj n) p p']
theorem ktIs_keeps {h h':Heap}{d:Addr}{o:Obj}{es ep}(ho:h.get? d=some o)(hd:o.data=.dict es ep)(hs:Heap.SameBut d h h'):∀(n:Nat) (x:Kt) (v:Value),KtIs h n x v->KtIs h' n x v
 |n,.k x,v,hx=>by rw [ktIs_k] at hx ⊢; exact hx
 |0,.t _,_,hx=>by rw [KtIs] at hx; exact hx.elim
 |n+1,.t xs,v,hx=>by
  obtain ⟨a,o',it,m,e,g,c,dd,p⟩:=ktIs_t.mp hx
  have ne:a≠d:=by
   rintro rfl
   cases g.symm.trans ho
   rw [hd] at dd
   cases dd
  exact ktIs_t.mpr ⟨a,o',it,m,e,(hs.2 a ne).trans g,c,dd,paired_imp (ktIs_keeps ho hd hs n) p⟩
section
variable {pr:Program}{wo:World}{E:Value->Shared->Prop}
theorem ktHashs_map (w:World):∀xs:List Kt,ktHashs w xs=xs.map (ktHash w)
 |[]=>by rw [ktHashs]; rfl
 |x::xs=>by rw [ktHashs,ktHashs_map w xs]; rfl
theorem ktDrawss_app:∀xs ys:List Kt,ktDrawss (xs++ys)=ktDrawss xs+ktDrawss ys
 |[],ys=>by rw [List.nil_append,ktDrawss,Nat.zero_add]
 |x::xs,ys=>by rw [List.cons_append,ktDrawss,ktDrawss,ktDrawss_app xs ys,Nat.add_assoc]
theorem ktDrawss_one (x:Kt):ktDrawss [x]=ktDraws x:=by rw [ktDrawss,ktDrawss,Nat.add_zero]
theorem ktHash_is:∀(n:Nat) {A:Around} {s:Shared} {x:Kt} {v:Value} {Q:Int->Shared->Prop},A.units+n<cLine->KtIs s.heap n x v->Q (ktHash wo x) { s with toks:=s.toks+ktDraws x }->wpAny (model pr wo) A (pyHash v) Q E s
 |n,A,s,.k x,v,Q,hu,hx,q=>by
  rw [ktIs_k] at hx
  rw [ktHash,ktDraws] at q
  exact (mixKind pr wo).pyHash hx q
 |0,_,_,.t _,_,_,_,hx,_=>by rw [KtIs] at hx; exact hx.elim
 |n+1,A,s,.t xs,v,Q,hu,hx,h=>by
  obtain ⟨a,o,items,m,e,ho,hc,hd,hi⟩:=ktIs_t.mp hx
  subst e
  have hT:s.TypeIs (.ref a) "tuple":=⟨o,ho,hc⟩
  rw [ktHash,ktDraws] at h
  unfold pyHash
  first | unfold pyHashByItsType | skip
  first | refine wpAny_bind (wpAny_cRoomFor_or (.inr (by omega)) ?_) | skip
  refine wpAny_bind (wpAny_specialOf hT PySem.F.slot_tuple_hash.lookup ?_)
  show wpAny _ _ (if (some (Value.builtin "tuple.__hash__") == some Value.none)=true then _ else _) Q E s
  rw [if_neg (by rw [beq_builtin_none]; exact Bool.false_ne_true)]
  refine wpAny_bind (wpAny_specialOf hT PySem.F.slot_tuple_hash.lookup ?_)
  show wpAny _ _ (callSpecialIfBoundUnlessNone? (.ref a) "__hash__" _ >>= _) Q E s
  refine wpAny_bind (wpAny_callSpecialIfBoundUnlessNone?_slot hT PySem.F.slot_tuple_hash (wpAny_call_entry PySem.F.slot_tuple_hash hT PySem.F.entry_tuple_hash ?_ (PySem.F.args_tuple_hash_1 _)))
  show wpAny _ _ (Builtin.Tuple.tupleItemsOf (.ref a) >>= _) _ _ s
  refine wpAny_bind (wpAny_tupleItemsOf ho hd ?_)
  refine wpAny_bind ?_
  rw [← Array.forIn_toList]
  refine wpAny_forIn_list _
   (fun rest (b:Array Int) s'=>∃done left,xs=done++left/\Paired (KtIs s.heap n) left rest/\b.toList=done.map (ktHash wo)/\s'={ s with toks:=s.toks+ktDrawss done })
   _ ?_ ?_ _ _ ⟨[],xs,rfl,hi,rfl,by rw [ktDrawss]; rfl⟩
  ·rintro x rest b s' ⟨done,left,rfl,hl,hb,rfl⟩
   cases hl with
   | @cons k _ ks' _ h1 hl'=>
    refine wpAny_bind (ktHash_is n (A:=A.in1) (show A.units+1+n<cLine by omega) (s:={ s with toks:=s.toks+ktDrawss done }) h1 ?_)
    refine wpAny_pure ⟨done++[k],ks',by simp,hl',by simp [hb],?_⟩
    rw [ktDrawss_app,ktDrawss_one,Nat.add_assoc]
  ·rintro b s' ⟨done,left,rfl,hl,hb,rfl⟩
   cases hl
   rw [List.append_nil] at h
   show wpAny _ _ (retInt (Builtin.Tuple.tupleHashOf b.toList)) _ _ _
   rw [hb,← ktHashs_map]
   refine wpAny_ret_mkInt ?_
   show wpAny _ _ (if (decide (-(2:Int) ^ 63<=Builtin.Tuple.tupleHashOf (ktHashs wo done)) && decide (Builtin.Tuple.tupleHashOf (ktHashs wo done)<2 ^ 63))=true then _ else _) Q E _
   unfold reduceHash at h
   by_cases hr:(decide (-(2:Int) ^ 63<=Builtin.Tuple.tupleHashOf (ktHashs wo done)) && decide (Builtin.Tuple.tupleHashOf (ktHashs wo done)<2 ^ 63))=true
   ·rw [if_pos hr]
    rw [if_pos hr] at h
    exact wpAny_pure (by simpa [Nat.add_assoc] using h)
   ·rw [if_neg hr]
    rw [if_neg hr] at h
    exact wpAny_bind (wpAny_rule (wpAny_pure (by simpa [Nat.add_assoc] using h)))
noncomputable def ktPair (xs ys:List Kt)(j:Nat):Bool:=match xs[j]?,ys[j]? with
 |some x,some y=>decide (x=y)
 |_,_=>true
theorem ktPair_all:∀xs ys:List Kt,((List.range (min xs.length ys.length)).all (ktPair xs ys) && xs.length == ys.length)=decide (xs=ys)
 |[],[]=>by simp
 |[],_::_=>by simp
 |_::_,[]=>by simp
 |x::xs,y::ys=>by
  have ih:=ktPair_all xs ys
  rw [List.length_cons,List.length_cons,Nat.succ_min_succ,List.range_succ_eq_map,List.all_cons,List.all_map]
  have e:(ktPair (x::xs) (y::ys) ∘ Nat.succ)=ktPair xs ys:=by funext j; simp [ktPair]
  rw [e]
  have e0:ktPair (x::xs) (y::ys) 0=decide (x=y):=by simp [ktPair]
  rw [e0,Bool.and_assoc]
  have e1:((xs.length+1 == ys.length+1):Bool)=(xs.length == ys.length):=by simp
  rw [e1,ih]
  by_cases a:x=y <;> by_cases b:xs=ys <;> simp [a,b]
theorem paired_at {α β:Type}{F:α->β->Prop}:∀{l:List α} {m:List β} (j:Nat) (h:j<m.length),Paired F l m->∃a,l[j]? = some a/\F a m[j]
 |_,_,j,h,.nil=>absurd h (Nat.not_lt_zero _)
 |_,_,0,_,.cons r _=>⟨_,rfl,r⟩
 |_,_,j+1,h,.cons _ t=>by
  obtain ⟨a,h1,h2⟩:=paired_at j (by simpa using h) t
  exact ⟨a,by simpa using h1,by simpa using h2⟩
theorem ktEq_is:∀(n:Nat) (A:Around) (s:Shared) (x y:Kt) (v u:Value),A.units+n<cLine->KtIs s.heap n x v->KtIs s.heap n y u->SeqAt.EqAt A s v u (decide (x=y))
 |n,A,s,.k x,.k y,v,u,hu,hx,hy=>by
  rw [ktIs_k] at hx hy
  intro pr wo E Q q
  refine (mixKind pr wo).eqBool (a:=x) (b:=y) hx hy ?_
  have e:decide (Kt.k x=Kt.k y)=decide (x=y):=decide_eq_decide.mpr ⟨fun e=>by injection e,fun e=>by rw [e]⟩
  rw [← e]
  exact q
 |0,_,_,.t _,_,_,_,_,hx,_=>by rw [KtIs] at hx; exact hx.elim
 |0,_,_,.k _,.t _,_,_,_,_,hy=>by rw [KtIs] at hy; exact hy.elim
 |n+1,A,s,.k x,.t ys,v,u,hu,hx,hy=>by
  rw [ktIs_k] at hx
  obtain ⟨a,o,it,m,e,g,c,d,_⟩:=ktIs_t.mp hy
  subst e
  have hl:s.heap.IsTuple a it:=⟨o,g,c,m,d⟩
  rw [show decide (Kt.k x=Kt.t ys)=false from decide_eq_false fun e=>nomatch e]
  rcases keyIs_shape hx with ⟨i,t,rfl,rfl⟩ | ⟨z,t,rfl,rfl⟩
  ·exact SeqAt.EqAt.int_tuple i t hl (by omega)
  ·exact SeqAt.EqAt.str_tuple z t hl (by omega)
 |n+1,A,s,.t xs,.k y,v,u,hu,hx,hy=>by
  rw [ktIs_k] at hy
  obtain ⟨a,o,it,m,e,g,c,d,_⟩:=ktIs_t.mp hx
  subst e
  have hl:s.heap.IsTuple a it:=⟨o,g,c,m,d⟩
  rw [show decide (Kt.t xs=Kt.k y)=false from decide_eq_false fun e=>nomatch e]
  rcases keyIs_shape hy with ⟨i,t,rfl,rfl⟩ | ⟨z,t,rfl,rfl⟩
  ·exact SeqAt.EqAt.tuple_int i t hl (by omega)
  ·exact SeqAt.EqAt.tuple_str z t hl (by omega)
 |n+1,A,s,.t xs,.t ys,v,u,hu,hx,hy=>by
  have hx':=hx
  have hy':=hy
  obtain ⟨a,o,it,m,e,g,c,d,p⟩:=ktIs_t.mp hx
  obtain ⟨a',o',it',m',e',g',c',d',p'⟩:=ktIs_t.mp hy
  subst e e'
  by_cases ne:a=a'
  ·subst ne
   rw [ktIs_inj _ _ _ _ hx' hy',decide_eq_true rfl]
   exact SeqAt.EqAt.same _
  ·have hl:s.heap.IsTuple a it:=⟨o,g,c,m,d⟩
   have hl':s.heap.IsTuple a' it':=⟨o',g',c',m',d'⟩
   have n1:it.size=xs.length:=by have:=Paired.length p; simpa using this.symm
   have n2:it'.size=ys.length:=by have:=Paired.length p'; simpa using this.symm
   have e2:decide (Kt.t xs=Kt.t ys)=decide (xs=ys):=decide_eq_decide.mpr ⟨fun e=>by injection e,fun e=>by rw [e]⟩
   rw [e2,← ktPair_all xs ys,← n1,← n2]
   refine SeqAt.EqAt.of_refs ne (SeqAt.RcAt.tuples hl hl' (by omega) fun j j1 j2=>?_)
   obtain ⟨b,q1,q2⟩:=paired_at j (by simpa using j1) p
   obtain ⟨b',r1,r2⟩:=paired_at j (by simpa using j2) p'
   have:ktPair xs ys j=decide (b=b'):=by unfold ktPair; rw [q1,r1]
   rw [this]
   exact ktEq_is n A.in1 s b b' _ _ (show A.units+1+n<cLine by omega) (by simpa using q2) (by simpa using r2)
theorem ktQuiet:∀(n:Nat) {A:Around} {s:Shared} {x:Kt} {v:Value} {Q:Bool->Shared->Prop},KtIs s.heap n x v->Q true s->wpAny (model pr wo) A (eqIsQuiet n v) Q E s
 |n,A,s,.k x,v,Q,hx,q=>by
  rw [ktIs_k] at hx
  rw [eqIsQuiet_byValue _ ((mixKind pr wo).byValue _ _ hx)]
  exact wpAny_pure q
 |0,_,_,.t _,_,_,hx,_=>by rw [KtIs] at hx; exact hx.elim
 |n+1,A,s,.t xs,v,Q,hx,h=>by
  obtain ⟨a,o,items,m,e,ho,hc,hd,hi⟩:=ktIs_t.mp hx
  subst e
  have hT:s.TypeIs (.ref a) "tuple":=⟨o,ho,hc⟩
  unfold eqIsQuiet
  refine wpAny_bind (wpAny_specialOf hT PySem.F.slot_tuple_eq.lookup ?_)
  show wpAny _ _ (isInstance (.ref a) (.type "tuple") >>= _) _ _ s
  refine wpAny_bind (wpAny_isInstance hT isSubtype_tuple_tuple ?_)
  simp only [Bool.not_true,Bool.false_eq_true,if_false]
  refine wpAny_bind (wpAny_seqItems ho hd (wpAny_bind ?_))
  show wpAny _ _ (forIn items _ _) _ _ s
  rw [← Array.forIn_toList]
  refine wpAny_forIn_list _ (fun rest r s'=>r.1=none/\s'=s/\∃ks,Paired (KtIs s.heap n) ks rest) _ ?_ ?_ _ _ ⟨rfl,rfl,xs,hi⟩
  ·rintro v rest r s' ⟨hr,rfl,ks,al⟩
   cases al with
   |cons h1 al'=>
    refine wpAny_bind (ktQuiet n h1 ?_)
    simp only [Bool.not_true,Bool.false_eq_true,if_false]
    exact wpAny_pure ⟨rfl,rfl,_,al'⟩
  ·rintro ⟨r1,r2⟩ s' ⟨hr,rfl,_⟩
   simp only at hr
   subst hr
   exact wpAny_pure h
end
noncomputable def treeKind (pr:Program)(wo:World):HeapKind pr wo (List Kt) where
 is:=fun h ks a=>KtIs h 8 (.t ks) (.ref a)
 hash:=fun ks=>ktHash wo (.t ks)
 draws:=fun ks=>ktDraws (.t ks)
 room:=fun A=>A.units+8<cLine
 inj:=fun a b=>by have:=ktIs_inj _ _ _ _ a b; injection this
 keeps:=fun x a b c=>ktIs_keeps a b c _ _ _ x
 pyHash:=fun a b c=>ktHash_is 8 a b c
 eqBool:=fun {A E s x y a b Q} h1 h2 h3 h4=>by
  refine ktEq_is 8 A s _ _ _ _ h1 h2 h3 _ _ _ _ ?_
  rw [show decide (Kt.t x=Kt.t y)=decide (x=y) from decide_eq_decide.mpr ⟨fun e=>by injection e,fun e=>by rw [e]⟩]
  exact h4
 quiet:=fun a b=>ktQuiet 8 a b
open PySem PySem.Spec PyProof.Rows
inductive V where
 |non | bl (b:Bool) | int (i:Int) | str (x:Str) | byt (b:Array UInt8) | flt (b:UInt64) | ref (a:Addr) | ty (n:String)
 deriving DecidableEq
noncomputable def RelV:V->Value->Prop
 | .non,u=>u=Value.none
 | .bl b,u=>u=Value.bool b
 | .int i,u=>∃t,u=Value.int i t
 | .str x,u=>∃t,u=Value.str x t
 | .byt b,u=>∃t,u=Value.bytes b t
 | .flt b,u=>∃t,u=Value.float b t
 | .ref a,u=>u=Value.ref a
 | .ty n,u=>u=Value.type n
noncomputable abbrev Vals:List V->List Value->Prop:=Paired RelV
theorem Vals.length {xs:List V}{us:List Value}(r:Vals xs us):xs.length=us.length:=Paired.length r
theorem Vals.get:∀{xs:List V} {us:List Value} {i:Nat} {x:V},Vals xs us->xs[i]? = some x->∃u,us[i]? = some u/\RelV x u
 |_,_,_,_,.nil,e=>by simp at e
 |_,_,0,_,.cons r _,e=>by simp at e; subst e; exact ⟨_,rfl,r⟩
 |_,_,i+1,x,.cons _ t,e=>by
  obtain ⟨u,h1,h2⟩:=Vals.get (i:=i) (x:=x) t (by simpa using e)
  exact ⟨u,by simpa using h1,h2⟩
theorem Vals.set {x:V}{u:Value}(r:RelV x u):∀{xs:List V} {us:List Value} (i:Nat),Vals xs us->Vals (xs.set i x) (us.set i u)
 |_,_,_,.nil=>.nil
 |_,_,0,.cons _ t=>.cons r t
 |_,_,i+1,.cons q t=>.cons q (Vals.set r i t)
theorem Vals.append:∀{xs ys:List V} {us ws:List Value},Vals xs us->Vals ys ws->Vals (xs++ys) (us++ws)
 |_,_,_,_,.nil,s=>s
 |_,_,_,_,.cons r t,s=>.cons r (Vals.append t s)
theorem Vals.take:∀{xs:List V} {us:List Value} (n:Nat),Vals xs us->Vals (xs.take n) (us.take n)
 |_,_,0,_=>.nil
 |_,_,_+1,.nil=>.nil
 |_,_,n+1,.cons r t=>.cons r (Vals.take n t)
theorem Vals.drop:∀{xs:List V} {us:List Value} (n:Nat),Vals xs us->Vals (xs.drop n) (us.drop n)
 |_,_,0,r=>r
 |_,_,_+1,.nil=>.nil
 |_,_,n+1,.cons _ t=>Vals.drop n t
noncomputable def RelO:Option V->Option Value->Prop
 |some v,some u=>RelV v u
 |none,none=>True
 |_,_=>False
noncomputable def KV {κ:Type}:List (κ×V)->List (κ×Value)->Prop:=Paired fun (p:κ×V) (q:κ×Value)=>p.1=q.1/\RelV p.2 q.2
noncomputable def kV:Key->V
 | .inl i=>.int i
 | .inr x=>.str x
inductive HO where
  |lst (xs:List V)
  |tup (xs:List V)
  |dK (kvs:List (Key×V)) | dT (T:Addr->List V->Prop) (kvs:List (List Kt×V))
  |set (S:Int->Bool) (n:Nat)
  |ins (C dx:Addr) (fs:List (Str×V))
  |own (x:Addr)
  |xd (fs:List (Str×V))
  |met (f x:Addr)
  |rng (lo hi:Int)
  |frz (o:Obj) (u:HO)
  |tbl (ps:Array Value)
  |ext (φ:Heap->Prop)
noncomputable abbrev Hp:=Addr->Option HO
noncomputable def upd (H:Hp)(a:Addr)(o:HO):Hp:=fun b=>if b=a then some o else H b
theorem upd_same {H:Hp}{a:Addr}{o:HO}:upd H a o a=some o:=by unfold upd; rw [if_pos rfl]
theorem upd_ne {H:Hp}{a b:Addr}{o:HO}(h:b≠a):upd H a o b=H b:=by unfold upd; rw [if_neg h]
theorem ne_of_none {H:Hp}{a b:Addr}{o:HO}(h:H a=some o)(h':H b=none):a≠b:=by
 intro e; subst e; rw [h] at h'; cases h'
mutual
inductive KtAt (T:Addr->List V->Prop)(H:Hp):Nat->V->Kt->Prop where
 |k {n:Nat} {x:Key}:KtAt T H n (kV x) (.k x)
 |t {n:Nat} {b:Addr} {vs:List V} {ks:List Kt}:(H b=some (.tup vs)\/T b vs)->KtsAt T H n vs ks->KtAt T H (n+1) (.ref b) (.t ks)
inductive KtsAt (T:Addr->List V->Prop)(H:Hp):Nat->List V->List Kt->Prop where
 |nil {n:Nat}:KtsAt T H n [] []
 |cons {n:Nat} {v:V} {vs:List V} {k:Kt} {ks:List Kt}:KtAt T H n v k->KtsAt T H n vs ks->KtsAt T H n (v::vs) (k::ks)
end
noncomputable def TrT (T:Addr->List V->Prop)(H:Hp)(b:Addr)(ks:List Kt):Prop:=∃vs,(H b=some (.tup vs)\/T b vs)/\KtsAt T H 7 vs ks
section
variable {T:Addr->List V->Prop}{H H':Hp}
mutual
theorem KtAt.imp (ht:∀b xs,H b=some (.tup xs)->H' b=some (.tup xs)):∀{n:Nat} {v:V} {k:Kt},KtAt T H n v k->KtAt T H' n v k
 |_,_,_,.k=>.k
 |_,_,_,.t h hs=>.t (h.imp (ht _ _) id) (KtsAt.imp ht hs)
theorem KtsAt.imp (ht:∀b xs,H b=some (.tup xs)->H' b=some (.tup xs)):∀{n:Nat} {vs:List V} {ks:List Kt},KtsAt T H n vs ks->KtsAt T H' n vs ks
 |_,_,_,.nil=>.nil
 |_,_,_,.cons h hs=>.cons (KtAt.imp ht h) (KtsAt.imp ht hs)
end
theorem TrT.imp {b:Addr}{ks:List Kt}(h:TrT T H b ks)(ht:∀b xs,H b=some (.tup xs)->H' b=some (.tup xs)):TrT T H' b ks:=
 let ⟨vs,h1,h2⟩:=h; ⟨vs,h1.imp (ht _ _) id,h2.imp ht⟩
end
section
variable (P:Program)(w:World)
noncomputable def ObjOk (H:Hp)(h:Heap)(a:Addr):HO->Prop
 | .lst xs=>xs.length<=sizeLine/\∃(its:List Value) (n:Nat),Vals xs its/\h.get? a=some { cls:=.type "list",data:=.seq its.toArray n }
 | .tup xs=>xs.length<=sizeLine/\∃its:List Value,Vals xs its/\IsTup h a its.toArray
 | .dK kvs=>kvs.length<=sizeLine/\(a == sysModules)=false/\∃vs,KV kvs vs/\h.DictOf (mixKind P w) a vs
 | .dT T kvs=>kvs.length<=sizeLine/\(a == sysModules)=false/\∃xs:List (List Kt×Addr×Value),
   Paired (fun (p:List Kt×V) (q:List Kt×Addr×Value)=>p.1=q.1/\TrT T H q.2.1 p.1/\RelV p.2 q.2.2) kvs xs/\
   ∃o es ep,h.get? a=some o/\o.ExactDict/\o.data=.dict es ep/\es.toList=xs.map (entryOfKey (treeKind P w))/\(xs.map (·.1)).Nodup
 | .set S n=>h.SetOf (intKind P w) a S n
 | .ins C dx fs=>H dx=some (.own a)/\fs.length<=1000/\dx≠a/\h.get? a=some (PySem.W.instObj C dx)/\
   ∃mA,h.Ns1 dx mA/\(∀f,RelO (fs.lookup f) (mA f))/\PySem.Within mA (fs.map (·.1))
 | .own _=>∃o,h.get? a=some o
 | .xd fs=>∃mA,h.Ns1 a mA/\∀f,RelO (fs.lookup f) (mA f)
 | .rng lo hi=>∃t u v,h.get? a=some { cls:=.type "range",data:=.fields #[.int lo t,.int hi u,.int 1 v] }
 | .frz o u=>h.get? a=some o/\ObjOk H h a u
 | .tbl ps=>h.get? a=some { cls:=.none,data:=.fields ps }
 | .met f x=>h.get? a=some (PySem.W.methodObj (.ref f) (.ref x))
 | .ext φ=>φ h/\(∃o,h.get? a=some o)/\∀h1 h2:Heap,φ h1->(∀o,h1.get? a=some o->h2.get? a=some o)->φ h2
noncomputable def HOk (H:Hp)(h:Heap):Prop:=∀a o,H a=some o->ObjOk P w H h a o
end
section
variable {P:Program}{w:World}{H H':Hp}{h h':Heap}{a:Addr}{o:HO}
theorem ObjOk.lt (x:ObjOk P w H h a o):a<h.objs.size:=by
 cases o with
 |lst xs=>obtain ⟨_,_,_,_,e⟩:=x; exact Heap.lt_size e
 |tup xs=>obtain ⟨_,_,_,p⟩:=x; exact p.lt
 |dK kvs=>obtain ⟨_,_,_,_,o,_,_,e,_⟩:=x; exact Heap.lt_size e
 |dT T kvs=>obtain ⟨_,_,_,_,o,_,_,e,_⟩:=x; exact Heap.lt_size e
 |set S n=>obtain ⟨o,_,_,_,e,_⟩:=x; exact Heap.lt_size e
 |ins C dx fs=>obtain ⟨_,_,_,e,_⟩:=x; exact Heap.lt_size e
 |own y=>obtain ⟨_,e⟩:=x; exact Heap.lt_size e
 |xd fs=>obtain ⟨_,⟨_,_,_,e,_⟩,_⟩:=x; exact Heap.lt_size e
 |rng lo hi=>obtain ⟨_,_,_,e⟩:=x; exact Heap.lt_size e
 |frz ob u=>obtain ⟨e,_⟩:=x; exact Heap.lt_size e
 |tbl ps=>exact Heap.lt_size (show h.get? a=some _ from x)
 |met f y=>exact Heap.lt_size (show h.get? a=some _ from x)
 |ext φ=>obtain ⟨_,⟨_,e⟩,_⟩:=x; exact Heap.lt_size e
theorem Paired.mapP {α β:Type}{F G:α->β->Prop}:∀{l₁:List α} {l₂:List β},Paired F l₁ l₂->(∀a b,F a b->G a b)->Paired G l₁ l₂
 |_,_,.nil,_=>.nil
 |_,_,.cons r t,f=>.cons (f _ _ r) (Paired.mapP t f)
theorem ObjOk.stay (x:ObjOk P w H h a o)(k:∀b u,(b=a\/H b=some (.own a))->h.get? b=some u->h'.get? b=some u)
  (ho:∀b,H b=some (.own a)->H' b=some (.own a)) (ht:∀b xs,H b=some (.tup xs)->H' b=some (.tup xs)):ObjOk P w H' h' a o:=by
 induction o with
 |lst xs=>obtain ⟨z,its,n,r,e⟩:=x; exact ⟨z,its,n,r,k _ _ (.inl rfl) e⟩
 |tup xs=>obtain ⟨z,its,r,ob,e,c⟩:=x; exact ⟨z,its,r,ob,k _ _ (.inl rfl) e,c⟩
 |dK kvs=>obtain ⟨z,y,vs,r,ob,es,ep,e,c⟩:=x; exact ⟨z,y,vs,r,ob,es,ep,k _ _ (.inl rfl) e,c⟩
 |dT T kvs=>
  obtain ⟨z,y,xs,r,ob,es,ep,e,c⟩:=x
  exact ⟨z,y,xs,Paired.mapP r fun p q z=>⟨z.1,z.2.1.imp ht,z.2.2⟩,ob,es,ep,k _ _ (.inl rfl) e,c⟩
 |set S n=>obtain ⟨ob,es,ep,t,e,c⟩:=x; exact ⟨ob,es,ep,t,k _ _ (.inl rfl) e,c⟩
 |ins C dx fs=>
  obtain ⟨d,z,ne,e,mA,⟨od,es,ep,e2,c⟩,r⟩:=x
  exact ⟨ho _ d,z,ne,k _ _ (.inl rfl) e,mA,⟨od,es,ep,k _ _ (.inr d) e2,c⟩,r⟩
 |own y=>obtain ⟨ob,e⟩:=x; exact ⟨ob,k _ _ (.inl rfl) e⟩
 |xd fs=>obtain ⟨mA,⟨od,es,ep,e,c⟩,r⟩:=x; exact ⟨mA,⟨od,es,ep,k _ _ (.inl rfl) e,c⟩,r⟩
 |rng lo hi=>obtain ⟨t,u,v,e⟩:=x; exact ⟨t,u,v,k _ _ (.inl rfl) e⟩
 |frz ob u ih=>obtain ⟨e,q⟩:=x; exact ⟨k _ _ (.inl rfl) e,ih q⟩
 |tbl ps=>
  have e:h.get? a=some { cls:=.none,data:=.fields ps }:=x
  show h'.get? a=some { cls:=.none,data:=.fields ps }
  exact k a _ (.inl rfl) e
 |met f y=>
  have e:h.get? a=some (PySem.W.methodObj (.ref f) (.ref y)):=x
  show h'.get? a=some (PySem.W.methodObj (.ref f) (.ref y))
  exact k a _ (.inl rfl) e
 |ext φ=>obtain ⟨p,⟨o,e⟩,st⟩:=x; exact ⟨st _ _ p fun o q=>k _ _ (.inl rfl) q,⟨o,k _ _ (.inl rfl) e⟩,st⟩
theorem HOk.lt (x:HOk P w H h)(e:H a=some o):a<h.objs.size:=(x a o e).lt
theorem HOk.fresh (x:HOk P w H h)(e:h.objs.size<=a):H a=none:=by
 cases q:H a with
 |none=>rfl
 |some u=>exact absurd (Nat.lt_of_lt_of_le (x.lt q) e) (Nat.lt_irrefl _)
theorem HOk.kept (x:HOk P w H h)(k:∀b u,h.get? b=some u->h'.get? b=some u):HOk P w H h':=fun a o e=>
 (x a o e).stay (fun b u _ q=>k b u q) (fun _ q=>q) fun _ _ q=>q
theorem HOk.laid (x:HOk P w H h)(k:∀b u,h.get? b=some u->h'.get? b=some u)(hp:h.objs.size<=a)(new:ObjOk P w (upd H a o) h' a o):HOk P w (upd H a o) h':=fun b u e=>by
 have hn:=x.fresh hp
 by_cases hb:b=a
 ·subst hb; rw [upd_same] at e; cases e; exact new
 ·rw [upd_ne hb] at e
  exact (x b u e).stay (fun c v _ q=>k c v q) (fun c q=>by rw [upd_ne (ne_of_none q hn)]; exact q) fun c xs q=>by rw [upd_ne (ne_of_none q hn)]; exact q
end
noncomputable def Rd (H:Hp)(a:Addr)(u:HO):Prop:=H a=some u\/∃o,H a=some (.frz o u)
theorem Rd.ok {P:Program}{w:World}{H:Hp}{h:Heap}{a:Addr}{u:HO}(r:Rd H a u)(x:HOk P w H h):ObjOk P w H h a u:=by
 rcases r with r | ⟨o,r⟩
 ·exact x a u r
 ·obtain ⟨_,q⟩:=x a _ r
  exact q
noncomputable def Mut:Option HO->Prop
 |some (.lst _)=>True
 |some (.dK _)=>True
 |some (.dT _ _)=>True
 |some (.set _ _)=>True
 |some (.ins _ _ _)=>True
 |some (.ext _)=>True
 |_=>False
section
variable {P:Program}{w:World}{H:Hp}{h h':Heap}{x e:Addr}{o':HO}
theorem HOk.write (ok:HOk P w H h)(mu:Mut (H x))(he:e=x\/H e=some (.own x))(k:∀b u,b≠e->h.get? b=some u->h'.get? b=some u)(heo:∃u,h'.get? e=some u)
  (new:ObjOk P w (upd H x o') h' x o'):HOk P w (upd H x o') h':=fun b u q=>by
 have nown:∀c y,H c=some (.own y)->c≠x:=fun c y r z=>by subst z; rw [r] at mu; exact mu
 have ntup:∀c xs,H c=some (.tup xs)->c≠x:=fun c xs r z=>by subst z; rw [r] at mu; exact mu
 by_cases hb:b=x
 ·subst hb; rw [upd_same] at q; cases q; exact new
 ·rw [upd_ne hb] at q
  by_cases hbe:b=e
  ·have q':H b=some (.own x):=by
    rcases he with z | z
    ·exact absurd (hbe.trans z) hb
    ·rw [hbe]; exact z
   rw [q] at q'; cases q'
   obtain ⟨v,hv⟩:=heo
   exact ⟨v,by rw [hbe]; exact hv⟩
  ·refine (ok b u q).stay (fun c v hc r=>k c v ?_ r) (fun c r=>by rw [upd_ne (nown c b r)]; exact r) fun c xs r=>by rw [upd_ne (ntup c xs r)]; exact r
   rcases hc with rfl | hc
   ·exact hbe
   ·rintro rfl
    rcases he with z | z
    ·exact nown c b hc z
    ·rw [hc] at z; cases z; exact hb rfl
end
structure Un (fs ex:List Addr)(H H':Hp)(h h':Heap):Prop where
 keep:∀b o,h.get? b=some o->H b=none->b∉fs->b∉ex->h'.get? b=some o
 slot:∀b o,h.get? b=some o->H b=none->b∈fs->b∉ex->∃sl,h'.get? b=some { o with slots:=sl }
 free:∀b o,h.get? b=some o->H b=none->b∉ex->H' b=none
 there:∀b o,h.get? b=some o->b∉ex->∃o',h'.get? b=some o'
 tups:∀b xs,H b=some (.tup xs)->H' b=some (.tup xs)
 frzs:∀b o u,H b=some (.frz o u)->H' b=some (.frz o u)
 tbls:∀b ps,H b=some (.tbl ps)->∃more,H' b=some (.tbl (ps++more))
section
variable {fs fs' ex ex':List Addr}{H H1 H2:Hp}{h h1 h2 h':Heap}{a x e:Addr}{o:HO}
theorem Un.any (u:Un fs ex H H1 h h1){b:Addr}{ob:Obj}(q:h.get? b=some ob)(n:H b=none)(hx:b∉ex):∃sl,h1.get? b=some { ob with slots:=sl }:=by
 by_cases hb:b∈fs
 ·exact u.slot b ob q n hb hx
 ·exact ⟨ob.slots,u.keep b ob q n hb hx⟩
theorem Un.kept (k:∀b u,h.get? b=some u->h'.get? b=some u):Un fs ex H H h h':=
 ⟨fun b ob q _ _ _=>k b ob q,fun b ob q _ _ _=>⟨ob.slots,k b ob q⟩,fun _ _ _ n _=>n,fun b ob q _=>⟨ob,k b ob q⟩,fun _ _ q=>q,fun _ _ _ q=>q,fun _ ps q=>⟨#[],by rw [q]; simp⟩⟩
theorem Un.refl:Un fs ex H H h h:=Un.kept fun _ _ q=>q
theorem Un.laid (k:∀b u,h.get? b=some u->h'.get? b=some u)(hp:h.objs.size<=a)(hn:H a=none):Un fs ex H (upd H a o) h h' where
 keep:=fun b u q _ _ _=>k b u q
 slot:=fun b u q _ _ _=>⟨u.slots,k b u q⟩
 free:=fun b u q n _=>by rw [upd_ne (Nat.ne_of_lt (Nat.lt_of_lt_of_le (Heap.lt_size q) hp))]; exact n
 there:=fun b u q _=>⟨u,k b u q⟩
 tups:=fun b xs q=>by rw [upd_ne (ne_of_none q hn)]; exact q
 frzs:=fun b u xs q=>by rw [upd_ne (ne_of_none q hn)]; exact q
 tbls:=fun b ps q=>⟨#[],by rw [upd_ne (ne_of_none q hn),q]; simp⟩
theorem Un.write (mu:Mut (H x))(he:e=x\/H e=some (.own x))(k:∀b u,b≠e->h.get? b=some u->h'.get? b=some u)(heo:∃u,h'.get? e=some u):Un fs ex H (upd H x o) h h':=by
 have hx:∀b,H b=none->b≠x:=fun b n z=>by subst z; rw [n] at mu; exact mu
 have hb:∀b,H b=none->b≠e:=fun b n z=>by
  subst z
  rcases he with r | r
  ·exact hx b n r
  ·rw [n] at r; cases r
 have hm:∀b u,H b=some u->¬Mut (some u)->b≠x:=fun b u q nm z=>by subst z; rw [q] at mu; exact nm mu
 refine ⟨fun b u q n _ _=>k b u (hb b n) q,fun b u q n _ _=>⟨u.slots,k b u (hb b n) q⟩,fun b u q n _=>by rw [upd_ne (hx b n)]; exact n,fun b u q _=>?_,
  fun b xs q=>by rw [upd_ne (hm b _ q fun z=>z)]; exact q,fun b u xs q=>by rw [upd_ne (hm b _ q fun z=>z)]; exact q,fun b ps q=>⟨#[],by rw [upd_ne (hm b _ q fun z=>z),q]; simp⟩⟩
 by_cases hbe:b=e
 ·subst hbe; exact heo
 ·exact ⟨u,k b u hbe q⟩
end
noncomputable def trk (h:Heap)(H:Hp):List Addr:=(List.range h.objs.size).filter fun a=>(H a).isSome
noncomputable def hidT (h:Heap)(H:Hp):Heap:=PySem.W.hideAll h (trk h H)
theorem hidT_size (h:Heap)(H:Hp):(hidT h H).objs.size=h.objs.size:=PySem.W.hideAll_size _ _
theorem hidT_get {h:Heap}{H:Hp}{b:Addr}{o:Obj}(e:h.get? b=some o)(n:H b=none):(hidT h H).get? b=some o:=
 PySem.W.hideAll_get _ e fun hm=>by
  have q:(H b).isSome=true:=(List.mem_filter.mp hm).2
  rw [n] at q; simp at q
theorem of_hidT {h:Heap}{H:Hp}{b:Addr}{o:Obj}(e:(hidT h H).get? b=some o):h.get? b=some o/\H b=none:=by
 have e':h.get? b=some o:=PySem.W.of_hideAll (trk h H) e
 refine ⟨e',?_⟩
 cases q:H b with
 |none=>rfl
 |some x=>
  have hm:b∈trk h H:=List.mem_filter.mpr ⟨List.mem_range.mpr (Heap.lt_size e'),by simp [q]⟩
  have z:(hidT h H).get? b=none:=PySem.W.hideAll_none (trk h H) hm
  rw [z] at e; cases e
noncomputable def allNews (g h:Heap)(L:Addr):List (Addr×Obj):=(List.range h.objs.size).filterMap fun a=>if a=L\/(g.get? a).isSome=true then none else (h.get? a).map fun o=>(a,o)
noncomputable def rest (g h:Heap)(L d:Addr):List (Addr×Obj):=(allNews g h L).filter fun p=>decide (p.1≠d)
open PySem PySem.Spec PyProof.Rows
structure Mod (K:PySem.W.Frag)(mg:Str->Option Value)(base:Heap):Prop where
 kin:K.In base
 glob:base.Ns mainGlobals mg
 blt:∃mb,base.Ns builtinsNs mb/\∀x:Str,x≠"__name__"->mb x=bootBuiltins x
 nolimit:base.NoLimit
structure Cx where
 prog:Program
 w:World
 K:PySem.W.Frag
 mg:Str->Option Value
 base:Heap
 A:Around
 N:List Str
 s₀:Shared
 H₀:Hp
 env:Env
 outer:List Env
 stack:List Env
 ex:List Addr
 fn:Str->Bool
 calm:Bool
 pn:List (Addr×Obj)
 xe:Value->Shared->Prop
noncomputable def frs (l:List Env):List Addr:=l.filterMap (·.frame)
noncomputable abbrev Cx.fs (X:Cx):List Addr:=frs X.outer
noncomputable def Vis (sc:Scope)(x:Str):Prop:=sc.names.lookup x=some .local\/sc.names.lookup x=some .cell\/sc.names.lookup x=some .free
noncomputable def Loc (sc:Scope)(x:Str):Prop:=sc.names.lookup x=some .local\/sc.names.lookup x=some .cell
noncomputable def Look (env:Env)(h:Heap)(m:Str->Option Value)(x:Str)(u:Value):Prop:=
 (env.kindOf x=some .local/\m x=some u)\/((env.kindOf x=some .cell\/env.kindOf x=some .free)/\∃c,env.cells.lookup x=some c/\h.IsCell c (some u))
structure Cx.Ok (X:Cx):Prop where
 mod:Mod X.K X.mg X.base
 kind:X.env.scope.kind=.function
 glob:X.env.globals=mainGlobals
 blt:X.env.builtins=builtinsNs
 above:X.s₀.heap.objs.size<=X.env.locals
 inj:∀x y c,X.env.cells.lookup x=some c->X.env.cells.lookup y=some c->x=y
 has:∀x,(X.env.kindOf x=some .cell\/X.env.kindOf x=some .free)->∃c,X.env.cells.lookup x=some c
 cab:∀x c,X.fn x=true->X.env.cells.lookup x=some c->X.s₀.heap.objs.size<=c
 hd:X.calm=true->X.A.handled=none
 frames:X.A.frames=some X.stack
 stk:X.stack=X.outer\/(X.stack=X.env::X.outer/\X.env.frame=some X.env.locals)
 exf:∀b∈X.ex,b≠X.env.locals/\∀x c,X.env.cells.lookup x=some c->c≠b
 bs:∀b o,X.base.get? b=some o->X.s₀.heap.get? b=some o/\X.H₀ b=none
 bsz:X.base.objs.size<=X.s₀.heap.objs.size
 noex:∀b o,X.base.get? b=some o->b∉X.ex
 exfs:∀b∈X.ex,b∉X.fs
 funs:X.s₀.heap.FunFrames X.base X.outer
 frf:∀b∈X.fs,X.H₀ b=none
structure Inv (X:Cx)(pins:List (Addr×Obj))(σ:List (Option V))(H:Hp)(s:Shared):Prop where
 ok:X.Ok
 os:s.os=X.s₀.os
 bare:AllBare s.gens
 base:Un X.fs X.ex X.H₀ H X.s₀.heap s.heap
 loc:∃m,s.heap.Ns X.env.locals m/\∀(i:Nat) (x:Str) (v:V),X.N[i]? = some x->σ[i]? = some (some v)->Vis X.env.scope x->∃u,RelV v u/\Look X.env s.heap m x u
 cell:∀x c,X.env.cells.lookup x=some c->∃v,s.heap.IsCell c v
 free:H X.env.locals=none
 freeC:∀x c,X.env.cells.lookup x=some c->H c=none
 pin:∀p∈X.pn++pins,s.heap.get? p.1=some p.2/\H p.1=none/\p.1≠X.env.locals/\p.1∉X.fs/\∀v,p.2.data≠.cell v
 hok:HOk X.prog X.w H s.heap
 len:σ.length=X.N.length
section
variable {X:Cx}{pins:List (Addr×Obj)}{σ:List (Option V)}{H H':Hp}{s:Shared}{h':Heap}
theorem Cx.Ok.nofr (ok:X.Ok){b:Addr}{o:Obj}(e:X.base.get? b=some o):b∉X.fs:=fun hb=>by
 have:=(ok.funs.mem hb).1
 rw [e] at this; cases this
theorem Inv.bs (I:Inv X pins σ H s):∀b o,X.base.get? b=some o->s.heap.get? b=some o/\H b=none:=fun b o e=>
 ⟨I.base.keep b o (I.ok.bs b o e).1 (I.ok.bs b o e).2 (I.ok.nofr e) (I.ok.noex b o e),I.base.free b o (I.ok.bs b o e).1 (I.ok.bs b o e).2 (I.ok.noex b o e)⟩
theorem Inv.bk (I:Inv X pins σ H s):∀b o,X.base.get? b=some o->s.heap.get? b=some o:=fun b o e=>(I.bs b o e).1
theorem Inv.mod (I:Inv X pins σ H s):Mod X.K X.mg X.base:=I.ok.mod
theorem Inv.kIn (I:Inv X pins σ H s):X.K.In s.heap:=I.ok.mod.kin.keeps I.bk
theorem Inv.nolimit (I:Inv X pins σ H s):s.heap.NoLimit:=I.ok.mod.nolimit.keeps I.bk
theorem Inv.fr (I:Inv X pins σ H s):∃m,Fr X.base X.env.locals s.heap m:=
 let ⟨m,hn,_⟩:=I.loc
 ⟨m,hn,I.bk,Nat.le_trans I.ok.bsz I.ok.above⟩
theorem Inv.lt (I:Inv X pins σ H s):X.env.locals<s.heap.objs.size:=let ⟨_,hn,_⟩:=I.loc; hn.lt
theorem Inv.sz (I:Inv X pins σ H s):X.s₀.heap.objs.size<=s.heap.objs.size:=Nat.le_trans I.ok.above (Nat.le_of_lt I.lt)
theorem Inv.nofs (I:Inv X pins σ H s){a:Addr}(h:s.heap.objs.size<=a):a∉X.fs:=fun hb=>by
 obtain ⟨_,o,ho,_⟩:=I.ok.funs.mem hb
 exact absurd (Nat.lt_of_lt_of_le (Heap.lt_size ho) (Nat.le_trans I.sz h)) (Nat.lt_irrefl _)
theorem Inv.cne (I:Inv X pins σ H s):∀x c,X.env.cells.lookup x=some c->c≠X.env.locals:=fun x c e z=>by
 obtain ⟨v,o,ho,hd⟩:=I.cell x c e
 obtain ⟨m,⟨o',es,ep,ho',hd',_⟩,_⟩:=I.loc
 rw [z,ho'] at ho; cases ho; rw [hd'] at hd; cases hd
theorem Inv.funs (I:Inv X pins σ H s):s.heap.FunFrames X.base X.outer:=by
 have all:∀(l:List Env),(∀b∈frs l,b∈X.fs)->X.s₀.heap.FunFrames X.base l->s.heap.FunFrames X.base l:=by
  intro l
  induction l with
  |nil=>intro _ _; trivial
  |cons env r ih=>
   intro hs hl
   obtain ⟨hk,⟨L,o,hf,hn,ho,hd⟩,hr⟩:=hl
   have hL:L∈X.fs:=hs L (by unfold frs; rw [List.filterMap_cons,hf]; exact List.mem_cons_self)
   obtain ⟨sl,e⟩:=I.base.slot L o ho (I.ok.frf L hL) hL fun z=>I.ok.exfs L z hL
   exact ⟨hk,⟨L,_,hf,hn,e,hd⟩,ih (fun b hb=>hs b (by unfold frs; rw [List.filterMap_cons,hf]; exact List.mem_cons_of_mem _ hb)) hr⟩
 exact all X.outer (fun _ hb=>hb) I.ok.funs
theorem Inv.stack (I:Inv X pins σ H s):s.heap.FunFrames X.base X.stack:=by
 rcases I.ok.stk with e | ⟨e,hf⟩
 ·rw [e]; exact I.funs
 ·rw [e]
  obtain ⟨m,hn,_⟩:=I.loc
  refine .cons (by rw [I.ok.kind]; decide) hf hn ?_ I.funs
  exact Heap.get?_none_of_le (Nat.le_trans I.ok.bsz I.ok.above)
theorem Inv.stkSub (I:Inv X pins σ H s):∀b∈frs X.stack,b∈X.env.locals::X.fs:=fun b hb=>by
 rcases I.ok.stk with e | ⟨e,hf⟩
 ·rw [e] at hb; exact List.mem_cons_of_mem _ hb
 ·rw [e] at hb
  unfold frs at hb
  rw [List.filterMap_cons,hf] at hb
  exact hb
theorem Inv.stkFree (I:Inv X pins σ H s):∀b∈frs X.stack,H b=none:=fun b hb=>by
 rcases List.mem_cons.mp (I.stkSub b hb) with e | hb
 ·rw [e]; exact I.free
 ·obtain ⟨_,o,ho,_⟩:=I.ok.funs.mem hb
  exact I.base.free b o ho (I.ok.frf b hb) fun z=>I.ok.exfs b z hb
theorem Inv.step {g':Array GenState}{t':Nat}{d':Drawn}{ch:List Addr}(I:Inv X pins σ H s)
  (hch:∀b∈ch,(b∈X.ex\/X.s₀.heap.objs.size<=b)/\b≠X.env.locals/\(∀x c,X.env.cells.lookup x=some c->c≠b)/\∀p∈X.pn++pins,p.1≠b)
  (keep:∀b o,b≠X.env.locals->b∉X.fs->b∉ch->s.heap.get? b=some o->H b=none->h'.get? b=some o)
  (slot:∀b o,b≠X.env.locals->b∈X.fs->b∉ch->s.heap.get? b=some o->H b=none->∃sl,h'.get? b=some { o with slots:=sl }) (free:∀b o,b∉ch->s.heap.get? b=some o->H b=none->H' b=none)
  (there:∀b o,b∉ch->s.heap.get? b=some o->∃o',h'.get? b=some o')
  (tups:∀b xs,H b=some (.tup xs)->H' b=some (.tup xs)) (frzs:∀b o u,H b=some (.frz o u)->H' b=some (.frz o u)) (tbls:∀b ps,H b=some (.tbl ps)->∃more,H' b=some (.tbl (ps++more)))
  (ns:∀m,s.heap.Ns X.env.locals m->h'.Ns X.env.locals m) (hok:HOk X.prog X.w H' h') (hg:AllBare g'):
  Inv X pins σ H' { s with heap:=h',gens:=g',drawn:=d',toks:=t' }:=by
 have neL:∀b o,X.s₀.heap.get? b=some o->b≠X.env.locals:=fun b o e=>Nat.ne_of_lt (Nat.lt_of_lt_of_le (Heap.lt_size e) I.ok.above)
 have neC:∀b o,X.s₀.heap.get? b=some o->b∉X.ex->b∉ch:=fun b o e hx hb=>by
  rcases (hch b hb).1 with z | z
  ·exact hx z
  ·exact absurd (Nat.lt_of_lt_of_le (Heap.lt_size e) z) (Nat.lt_irrefl _)
 have cellK:∀x c,X.env.cells.lookup x=some c->∀v,s.heap.IsCell c v->h'.IsCell c v:=fun x c e v ⟨o,ho,hd⟩=>by
  have nch:c∉ch:=fun z=>(hch c z).2.2.1 x c e rfl
  by_cases hc:c∈X.fs
  ·obtain ⟨sl,q⟩:=slot c o (I.cne x c e) hc nch ho (I.freeC x c e)
   exact ⟨_,q,hd⟩
  ·exact ⟨o,keep c o (I.cne x c e) hc nch ho (I.freeC x c e),hd⟩
 refine ⟨I.ok,I.os,hg,⟨fun b o e n hb hx=>?_,fun b o e n hb hx=>?_,fun b o e n hx=>?_,fun b o e hx=>?_,fun b xs e=>tups b xs (I.base.tups b xs e),fun b o xs e=>frzs b o xs (I.base.frzs b o xs e),fun b ps e=>?_⟩,?_,fun x c e=>?_,?_,fun x c e=>?_,fun p hp=>?_,hok,I.len⟩
 ·exact keep b o (neL b o e) hb (neC b o e hx) (I.base.keep b o e n hb hx) (I.base.free b o e n hx)
 ·obtain ⟨sl,e1⟩:=I.base.slot b o e n hb hx
  obtain ⟨sl',e2⟩:=slot b _ (neL b o e) hb (neC b o e hx) e1 (I.base.free b o e n hx)
  exact ⟨sl',e2⟩
 ·obtain ⟨o',e1⟩:=I.base.there b o e hx
  exact free b o' (neC b o e hx) e1 (I.base.free b o e n hx)
 ·obtain ⟨o',e1⟩:=I.base.there b o e hx
  exact there b o' (neC b o e hx) e1
 ·obtain ⟨m1,e1⟩:=I.base.tbls b ps e
  obtain ⟨m2,e2⟩:=tbls b _ e1
  exact ⟨m1++m2,by rw [e2,Array.append_assoc]⟩
 ·obtain ⟨m,hn,hl⟩:=I.loc
  refine ⟨m,ns m hn,fun i x v e1 e2 e3=>?_⟩
  obtain ⟨u,r,l⟩:=hl i x v e1 e2 e3
  refine ⟨u,r,?_⟩
  rcases l with l | ⟨k,c,e,z⟩
  ·exact .inl l
  ·exact .inr ⟨k,c,e,cellK x c e _ z⟩
 ·obtain ⟨v,z⟩:=I.cell x c e
  exact ⟨v,cellK x c e v z⟩
 ·obtain ⟨m,⟨o,_,_,ho,_⟩,_⟩:=I.loc
  exact free _ o (fun z=>(hch _ z).2.1 rfl) ho I.free
 ·obtain ⟨v,o,ho,hd⟩:=I.cell x c e
  exact free c o (fun z=>(hch c z).2.2.1 x c e rfl) ho (I.freeC x c e)
 ·obtain ⟨e,n,ne,nf,d⟩:=I.pin p hp
  have nch:p.1∉ch:=fun z=>(hch p.1 z).2.2.2 p hp rfl
  exact ⟨keep p.1 p.2 ne nf nch e n,free p.1 p.2 nch e n,ne,nf,d⟩
theorem Inv.un {t':Nat}(I:Inv X pins σ H s)(u:Un X.fs [] H H' s.heap h')(hok:HOk X.prog X.w H' h'):Inv X pins σ H' { s with heap:=h',toks:=t' }:=by
 obtain ⟨m,⟨o,es,ep,ho,r⟩,_⟩:=id I.loc
 obtain ⟨sl,hL⟩:=u.any ho I.free (by simp)
 exact I.step (g':=s.gens) (d':=s.drawn) (ch:=[]) (fun _ z=>nomatch z) (fun b o _ hb _ e n=>u.keep b o e n hb (by simp)) (fun b o _ hb _ e n=>u.slot b o e n hb (by simp)) (fun b o _ e n=>u.free b o e n (by simp)) (fun b o _ e=>u.there b o e (by simp)) u.tups u.frzs u.tbls (fun m' hm=>by
  obtain ⟨o',es',ep',ho',r'⟩:=hm
  rw [ho] at ho'; cases ho'
  exact ⟨_,es',ep',hL,r'⟩) hok I.bare
theorem Inv.call {g':Array GenState}{t':Nat}{d':Drawn}{ch:List Addr}(I:Inv X pins σ H s)(u:Un (frs X.stack) ch H H' s.heap h')(hok:HOk X.prog X.w H' h')(hg:AllBare g')
  (hch:∀b∈ch,(b∈X.ex\/X.s₀.heap.objs.size<=b)/\b≠X.env.locals/\(∀x c,X.env.cells.lookup x=some c->c≠b)/\∀p∈X.pn++pins,p.1≠b):
  Inv X pins σ H' { s with heap:=h',gens:=g',drawn:=d',toks:=t' }:=by
 obtain ⟨m,⟨o,es,ep,ho,r⟩,_⟩:=id I.loc
 obtain ⟨sl,hL⟩:=u.any ho I.free fun z=>(hch _ z).2.1 rfl
 exact I.step (ch:=ch) hch (fun b o hL hb hc e n=>u.keep b o e n (fun z=>(List.mem_cons.mp (I.stkSub b z)).elim hL hb) hc) (fun b o _ _ hc e n=>u.any e n hc) (fun b o hc e n=>u.free b o e n hc) (fun b o hc e=>u.there b o e hc) u.tups u.frzs u.tbls (fun m' hm=>by
  obtain ⟨o',es',ep',ho',r'⟩:=hm
  rw [ho] at ho'; cases ho'
  exact ⟨_,es',ep',hL,r'⟩) hok hg
theorem Inv.turned {t':Nat}{it:Addr}(I:Inv X pins σ H s)(k:∀b o,b≠it->s.heap.get? b=some o->h'.get? b=some o)(hn:H it=none)(hL:it≠X.env.locals)
  (h1:it∈X.ex\/X.s₀.heap.objs.size<=it) (h2:∀x c,X.env.cells.lookup x=some c->c≠it) (h3:∀p∈X.pn++pins,p.1≠it):Inv X pins σ H { s with heap:=h',toks:=t' }:=by
 have nit:∀b u,H b=some u->b≠it:=fun b u e z=>by rw [z,hn] at e; cases e
 refine I.step (g':=s.gens) (d':=s.drawn) (ch:=[it]) (fun b hb=>?_) (fun b o _ _ hc e _=>k b o (fun z=>hc (by simp [z])) e) (fun b o _ _ hc e _=>⟨o.slots,k b o (fun z=>hc (by simp [z])) e⟩) (fun _ _ _ _ n=>n)
  (fun b o hc e=>⟨o,k b o (fun z=>hc (by simp [z])) e⟩) (fun _ _ e=>e) (fun _ _ _ e=>e) (fun b ps e=>⟨#[],by rw [e]; simp⟩) (fun m hm=>?_) (fun b u e=>?_) I.bare
 ·have e:b=it:=by simpa using hb
  subst e
  exact ⟨h1,hL,h2,h3⟩
 ·obtain ⟨o,es,ep,ho,r⟩:=hm
  exact ⟨o,es,ep,k _ o (Ne.symm hL) ho,r⟩
 ·refine (I.hok b u e).stay (fun c v hc q=>k c v ?_ q) (fun _ q=>q) fun _ _ q=>q
  rcases hc with z | z
  ·rw [z]; exact nit b u e
  ·exact nit c _ z
theorem Inv.tok (I:Inv X pins σ H s)(t:Nat):Inv X pins σ H { s with toks:=t }:=I.un (h':=s.heap) (t':=t) Un.refl I.hok
theorem Inv.kept {t':Nat}(I:Inv X pins σ H s)(k:∀b u,s.heap.get? b=some u->h'.get? b=some u):Inv X pins σ H { s with heap:=h',toks:=t' }:=I.un (Un.kept k) (I.hok.kept k)
theorem Inv.laid {a:Addr}{o:HO}{t':Nat}(I:Inv X pins σ H s)(k:∀b u,s.heap.get? b=some u->h'.get? b=some u)(hp:s.heap.objs.size<=a)(new:ObjOk X.prog X.w (upd H a o) h' a o):
  Inv X pins σ (upd H a o) { s with heap:=h',toks:=t' }:=I.un (Un.laid k hp (I.hok.fresh hp)) (I.hok.laid k hp new)
theorem Inv.write {x e:Addr}{o:HO}{t':Nat}(I:Inv X pins σ H s)(mu:Mut (H x))(he:e=x\/H e=some (.own x))(k:∀b u,b≠e->s.heap.get? b=some u->h'.get? b=some u)(heo:∃u,h'.get? e=some u)
  (new:ObjOk X.prog X.w (upd H x o) h' x o):Inv X pins σ (upd H x o) { s with heap:=h',toks:=t' }:=I.un (Un.write mu he k heo) (I.hok.write mu he k heo new)
theorem Inv.weak {σ':List (Option V)}(I:Inv X pins σ H s)(hl:σ'.length=σ.length)(w:∀(i:Nat) v,σ'[i]? = some (some v)->σ[i]? = some (some v)):Inv X pins σ' H s:=
 ⟨I.ok,I.os,I.bare,I.base,let ⟨m,hn,hl'⟩:=I.loc; ⟨m,hn,fun i x v e1 e2 e3=>hl' i x v e1 (w i v e2) e3⟩,I.cell,I.free,I.freeC,I.pin,I.hok,hl.trans I.len⟩
theorem Inv.pins_of {pins':List (Addr×Obj)}(I:Inv X pins σ H s)(h:∀p∈pins',s.heap.get? p.1=some p.2/\H p.1=none/\p.1≠X.env.locals/\p.1∉X.fs/\∀v,p.2.data≠.cell v):Inv X pins' σ H s:=
 ⟨I.ok,I.os,I.bare,I.base,I.loc,I.cell,I.free,I.freeC,fun p hp=>(List.mem_append.mp hp).elim (fun z=>I.pin p (List.mem_append_left _ z)) (h p),I.hok,I.len⟩
theorem nodup_ix {N:List Str}(hN:N.Nodup){i j:Nat}{x:Str}(a:N[i]? = some x)(b:N[j]? = some x):i=j:=by
 obtain ⟨h1,e1⟩:=List.getElem?_eq_some_iff.mp a
 obtain ⟨h2,e2⟩:=List.getElem?_eq_some_iff.mp b
 exact (List.getElem_inj hN).mp (e1.trans e2.symm)
theorem store_ok2 {M:Model}{A:Around}{E:Value->Shared->Prop}{i:Nat}{x:Str}{v:V}{u:Value}{Q:Unit->Shared->Prop}(I:Inv X pins σ H s)(hN:X.N.Nodup)(hi:X.N[i]? = some x)(hx:Loc X.env.scope x)(r:RelV v u)
  (h:∀s',Inv X pins (σ.set i (some v)) H s'->(∃a,Heap.SameBut a s.heap s'.heap/\(a=X.env.locals\/X.env.cells.lookup x=some a))->Q () s') (hf:X.fn x=true\/X.env.scope.names.lookup x=some .local:=by first | exact .inl rfl | exact .inr rfl | assumption):wpAny M A (storeName X.env x u) Q E s:=by
 obtain ⟨m,hn,hl⟩:=id I.loc
 have hcls:(X.env.scope.kind == .class || (X.env.scope.kind == .module && X.env.locals != X.env.globals))=false:=by rw [I.ok.kind]; rfl
 have hiσ:i<σ.length:=by rw [I.len]; exact (List.getElem?_eq_some_iff.mp hi).1
 have cne:=I.cne
 have tracked:∀{a:Addr} {h':Heap},(∃o,s.heap.get? a=some o/\H a=none)->Heap.SameBut a s.heap h'->HOk X.prog X.w H h':=fun {a h'} ha hs b ob e=>by
  obtain ⟨_,_,hfree⟩:=ha
  refine (I.hok b ob e).stay (fun c w' hc q=>(hs.2 c ?_).trans q) (fun _ q=>q) fun _ _ q=>q
  rintro rfl
  rcases hc with rfl | hc
  ·rw [hfree] at e; cases e
  ·rw [hfree] at hc; cases hc
 rcases hx with hk | hk
 ·refine wpAny_storeName_local hk hn (fun h' hn' hs=>?_) hcls
  obtain ⟨oL,_,_,hoL,_⟩:=id hn
  refine h _ ⟨I.ok,I.os,I.bare,⟨fun b o e n hb hx=>?_,fun b o e n hb hx=>?_,I.base.free,fun b o e hx=>?_,I.base.tups,I.base.frzs,I.base.tbls⟩,⟨_,hn',fun j y v' e1 e2 e3=>?_⟩,fun y c e=>?_,I.free,I.freeC,fun p hp=>?_,tracked ⟨oL,hoL,I.free⟩ hs,by simpa using I.len⟩ ⟨_,hs,.inl rfl⟩
  ·exact (hs.2 b (Nat.ne_of_lt (Nat.lt_of_lt_of_le (Heap.lt_size e) I.ok.above))).trans (I.base.keep b o e n hb hx)
  ·obtain ⟨sl,e1⟩:=I.base.slot b o e n hb hx
   exact ⟨sl,(hs.2 b (Nat.ne_of_lt (Nat.lt_of_lt_of_le (Heap.lt_size e) I.ok.above))).trans e1⟩
  ·obtain ⟨o',e1⟩:=I.base.there b o e hx
   exact ⟨o',(hs.2 b (Nat.ne_of_lt (Nat.lt_of_lt_of_le (Heap.lt_size e) I.ok.above))).trans e1⟩
  ·by_cases hj:j=i
   ·subst hj
    rw [hi] at e1; cases e1
    rw [List.getElem?_set_self hiσ] at e2
    cases e2
    exact ⟨u,r,.inl ⟨hk,by simp⟩⟩
   ·rw [List.getElem?_set_ne (Ne.symm hj)] at e2
    obtain ⟨u',r',q⟩:=hl j y v' e1 e2 e3
    refine ⟨u',r',?_⟩
    rcases q with ⟨k,e⟩ | ⟨k,c,e,z⟩
    ·refine .inl ⟨k,?_⟩
     have:y≠x:=fun e=>hj (nodup_ix hN e1 (e ▸ hi))
     simp [this,e]
    ·exact .inr ⟨k,c,e,z.sameBut hs (cne y c e)⟩
  ·obtain ⟨w',z⟩:=I.cell y c e
   exact ⟨w',z.sameBut hs (cne y c e)⟩
  ·obtain ⟨e,n,ne,nf,d⟩:=I.pin p hp
   exact ⟨(hs.2 p.1 ne).trans e,n,ne,nf,d⟩
 ·have hfn:X.fn x=true:=by
   rcases hf with z | z
   ·exact z
   ·rw [z] at hk; cases hk
  obtain ⟨c,hc⟩:=I.ok.has x (.inl hk)
  obtain ⟨w',z⟩:=I.cell x c hc
  refine wpAny_storeName_cell I.ok.kind hk hc z (fun h' hc' hs=>?_)
  obtain ⟨oc,hoc,hocd⟩:=id z
  refine h { s with heap:=h' } ⟨I.ok,I.os,I.bare,⟨fun b o e n hb hx=>?_,fun b o e n hb hx=>?_,I.base.free,fun b o e hx=>?_,I.base.tups,I.base.frzs,I.base.tbls⟩,⟨m,hn.sameBut hs (Ne.symm (cne x c hc)),fun j y v' e1 e2 e3=>?_⟩,fun y c' e=>?_,I.free,I.freeC,fun p hp=>?_,tracked ⟨oc,hoc,I.freeC x c hc⟩ hs,by simpa using I.len⟩ ⟨c,hs,.inr hc⟩
  ·exact (hs.2 b (Nat.ne_of_lt (Nat.lt_of_lt_of_le (Heap.lt_size e) (I.ok.cab x c hfn hc)))).trans (I.base.keep b o e n hb hx)
  ·obtain ⟨sl,e1⟩:=I.base.slot b o e n hb hx
   exact ⟨sl,(hs.2 b (Nat.ne_of_lt (Nat.lt_of_lt_of_le (Heap.lt_size e) (I.ok.cab x c hfn hc)))).trans e1⟩
  ·obtain ⟨o',e1⟩:=I.base.there b o e hx
   exact ⟨o',(hs.2 b (Nat.ne_of_lt (Nat.lt_of_lt_of_le (Heap.lt_size e) (I.ok.cab x c hfn hc)))).trans e1⟩
  ·by_cases hj:j=i
   ·subst hj
    rw [hi] at e1; cases e1
    rw [List.getElem?_set_self hiσ] at e2
    cases e2
    exact ⟨u,r,.inr ⟨.inl hk,c,hc,hc'⟩⟩
   ·rw [List.getElem?_set_ne (Ne.symm hj)] at e2
    obtain ⟨u',r',q⟩:=hl j y v' e1 e2 e3
    refine ⟨u',r',?_⟩
    rcases q with q | ⟨k,c',e,z'⟩
    ·exact .inl q
    ·refine .inr ⟨k,c',e,z'.sameBut hs ?_⟩
     rintro rfl
     exact hj (nodup_ix hN e1 (I.ok.inj _ _ _ e hc ▸ hi))
  ·by_cases hcc:c'=c
   ·subst hcc; exact ⟨_,hc'⟩
   ·obtain ⟨w2,z2⟩:=I.cell y c' e
    exact ⟨w2,z2.sameBut hs hcc⟩
  ·obtain ⟨e,n,ne,nf,d⟩:=I.pin p hp
   refine ⟨(hs.2 p.1 ?_).trans e,n,ne,nf,d⟩
   intro q
   rw [q,hoc] at e
   have q':oc=p.2:=Option.some.inj e
   exact d w' (by rw [← q']; exact hocd)
theorem store_ok {M:Model}{A:Around}{E:Value->Shared->Prop}{i:Nat}{x:Str}{v:V}{u:Value}{Q:Unit->Shared->Prop}(I:Inv X pins σ H s)(hN:X.N.Nodup)(hi:X.N[i]? = some x)(hx:Loc X.env.scope x)(r:RelV v u)
  (h:∀s',Inv X pins (σ.set i (some v)) H s'->Q () s') (hf:X.fn x=true\/X.env.scope.names.lookup x=some .local:=by first | exact .inl rfl | exact .inr rfl | assumption):wpAny M A (storeName X.env x u) Q E s:=
 store_ok2 I hN hi hx r (fun s' I' _=>h s' I') hf
theorem Inv.call' {s':Shared}{ch:List Addr}(I:Inv X pins σ H s)(ho:s'.os=s.os)(u:Un (frs X.stack) ch H H' s.heap s'.heap)(hok:HOk X.prog X.w H' s'.heap)(hg:AllBare s'.gens)
  (hch:∀b∈ch,(b∈X.ex\/X.s₀.heap.objs.size<=b)/\b≠X.env.locals/\(∀x c,X.env.cells.lookup x=some c->c≠b)/\∀p∈X.pn++pins,p.1≠b):Inv X pins σ H' s':=by
 obtain ⟨h',g',d',t',o'⟩:=s'
 have e:o'=s.os:=ho
 subst e
 exact I.call (g':=g') (t':=t') (d':=d') u hok hg hch
end
noncomputable abbrev XK:=Value->Option Addr->Hp->Prop
noncomputable abbrev St:=List (Option V)
noncomputable abbrev VK:=V->Hp->Prop
noncomputable abbrev TE:=St->Hp->VK->Prop
noncomputable abbrev TT:=St->Hp->(Bool->Hp->Prop)->Prop
noncomputable abbrev TA:=St->Hp->(List V->Hp->Prop)->Prop
structure Ends where
 nx:St->Hp->Prop
 rt:VK
 bk:St->Hp->Prop:=fun _ _=>False
 ct:St->Hp->Prop:=fun _ _=>False
noncomputable abbrev TS:=Ends->St->Hp->Prop
noncomputable def EP (X:Cx)(pins:List (Addr×Obj))(σ:St)(Q:VK)(u:Value)(s':Shared):Prop:=∃v H',Inv X pins σ H' s'/\RelV v u/\Q v H'
noncomputable def TP (X:Cx)(pins:List (Addr×Obj))(σ:St)(Q:Bool->Hp->Prop)(b:Bool)(s':Shared):Prop:=∃H',Inv X pins σ H' s'/\Q b H'
noncomputable def AP (X:Cx)(pins:List (Addr×Obj))(σ:St)(Q:List V->Hp->Prop)(us:List Value)(s':Shared):Prop:=∃vs H',Inv X pins σ H' s'/\Vals vs us/\Q vs H'
noncomputable def SP (X:Cx)(pins:List (Addr×Obj))(D:Ends)(f:Flow)(s':Shared):Prop:=
 match f with
 | .next=>∃σ' H',Inv X pins σ' H' s'/\D.nx σ' H'
 | .brk=>∃σ' H',Inv X pins σ' H' s'/\D.bk σ' H'
 | .cont=>∃σ' H',Inv X pins σ' H' s'/\D.ct σ' H'
 | .ret u=>∃v σ' H',Inv X pins σ' H' s'/\RelV v u/\D.rt v H'
noncomputable def PE (X:Cx)(e:Expr)(t:TE):Prop:=
 ∀(pins:List (Addr×Obj)) (s:Shared) (σ:St) (H:Hp) (Q:VK),Inv X pins σ H s->t σ H Q->wpAny (model X.prog X.w) X.A (eval e X.env) (EP X pins σ Q) X.xe s
noncomputable def PT (X:Cx)(e:Expr)(t:TT):Prop:=
 ∀(pins:List (Addr×Obj)) (s:Shared) (σ:St) (H:Hp) (Q:Bool->Hp->Prop),Inv X pins σ H s->t σ H Q->wpAny (model X.prog X.w) X.A (isTrue e X.env (eval e X.env)) (TP X pins σ Q) X.xe s
noncomputable def PW (X:Cx)(e:Expr)(t:TT):Prop:=
 ∀(whole:Sem Value) (pins:List (Addr×Obj)) (s:Shared) (σ:St) (H:Hp) (Q:Bool->Hp->Prop),Inv X pins σ H s->t σ H Q->wpAny (model X.prog X.w) X.A (isTrue e X.env whole) (TP X pins σ Q) X.xe s
theorem PW.pt {X:Cx}{e:Expr}{t:TT}(h:PW X e t):PT X e t:=h _
noncomputable def PA (X:Cx)(es:List Expr)(t:TA):Prop:=
 ∀(pos:Pos) (pins:List (Addr×Obj)) (s:Shared) (σ:St) (H:Hp) (Q:List V->Hp->Prop),Inv X pins σ H s->t σ H Q->wpAny (model X.prog X.w) X.A (spliced (backTo pos (starEach es X.env))) (AP X pins σ Q) X.xe s
noncomputable def PS (X:Cx)(st:Stmt)(t:TS):Prop:=
 ∀(pins:List (Addr×Obj)) (s:Shared) (σ:St) (H:Hp) (D:Ends),Inv X pins σ H s->t D σ H->wpAny (model X.prog X.w) X.A (exec st X.env) (SP X pins D) X.xe s
noncomputable def PSs (X:Cx)(st:List Stmt)(t:TS):Prop:=
 ∀(pins:List (Addr×Obj)) (s:Shared) (σ:St) (H:Hp) (D:Ends),Inv X pins σ H s->t D σ H->wpAny (model X.prog X.w) X.A (execs st X.env) (SP X pins D) X.xe s
theorem thn {α:Type}{t:Sem α}{Q Q':α->Shared->Prop}{M:Model}{A:Around}{E:Value->Shared->Prop}{s:Shared}(h:wpAny M A t Q E s)(hQ:∀a s,Q a s->Q' a s):wpAny M A t Q' E s:=wpAny_mono h hQ fun _ _ x=>x
open PySem PySem.Spec PyProof.Rows
section
variable {X:Cx}
theorem bin {a b:Expr}{ta tb:TE}(ha:PE X a ta)(hb:PE X b tb){pins:List (Addr×Obj)}{s:Shared}{σ:St}{H:Hp}{R:V->V->Hp->Prop}(I:Inv X pins σ H s)(h:ta σ H fun x H1=>tb σ H1 fun y H2=>R x y H2)
  {α:Type} {Q:α->Shared->Prop} {f:Value->Value->Sem α}
  (hf:∀v u s2 x y H2,Inv X pins σ H2 s2->RelV x v->RelV y u->R x y H2->wpAny (model X.prog X.w) X.A (f v u) Q X.xe s2):
  wpAny (model X.prog X.w) X.A (eval a X.env) (fun v s₁=>wpAny (model X.prog X.w) X.A (eval b X.env) (fun u s₂=>wpAny (model X.prog X.w) X.A (f v u) Q X.xe s₂) X.xe s₁) X.xe s:=by
 refine thn (ha pins s σ H _ I h) fun v s1 hE=>xq2 hE fun x H1 I1 r1 q1=>?_
 refine thn (hb pins s1 σ H1 _ I1 q1) fun u s2 hE=>xq2 hE fun y H2 I2 r2 q2=>?_
 exact hf v u s2 x y H2 I2 r1 r2 q2
noncomputable def tVar (i:Nat):TE:=fun σ H Q=>∃v,σ[i]? = some (some v)/\Q v H
noncomputable def tC (v:V):TE:=fun _ H Q=>Q v H
theorem pe_var {i:Nat}{x:Str}{pos:Pos}(hN:X.N[i]? = some x)(hv:Vis X.env.scope x)(hd:(x == ("__debug__" : Str))=false:=by decide)(hcd:(x == ("__classdict__" : Str))=false:=by decide):PE X (.Name x pos) (tVar i):=by
 intro pins s σ H Q I h
 obtain ⟨v,e,h⟩:=h
 obtain ⟨m,hn,hl⟩:=I.loc
 obtain ⟨u,r,l⟩:=hl i x v hN e hv
 have fin:EP X pins σ Q u s:=⟨v,H,I,r,h⟩
 rcases l with ⟨hk,hm⟩ | ⟨hk,c,hc,hcell⟩
 ·exact wpAny_Name (wpAny_loadName_local I.ok.kind hk hn hm fin) hd
 ·rcases hk with hk | hk
  ·exact wpAny_Name (wpAny_loadName_cell I.ok.kind hk hc hcell fin) hd
  ·exact wpAny_Name (wpAny_loadName_free I.ok.kind hk hc hcell fin hcd) hd
theorem pe_int {i j pos}:PE X (.Constant (.int i) j pos) (tC (.int i)):=fun _ _ _ H _ I h=>wpAny_Constant_int ⟨.int i,H,I.tok _,⟨_,rfl⟩,h⟩
theorem pe_bl {b j pos}:PE X (.Constant (.bool b) j pos) (tC (.bl b)):=fun _ _ _ H _ I h=>Constant_bool ⟨.bl b,H,I,rfl,h⟩
theorem pe_non {j pos}:PE X (.Constant .none j pos) (tC .non):=fun _ _ _ H _ I h=>Constant_none ⟨.non,H,I,rfl,h⟩
theorem pe_str {x j pos}:PE X (.Constant (.str x) j pos) (tC (.str x)):=fun _ _ _ H _ I h=>Calls.Constant_str ⟨.str x,H,I.tok _,⟨_,rfl⟩,h⟩
noncomputable def Gl (X:Cx)(x:Str):Prop:=X.env.kindOf x=some .globalImplicit
theorem ld_glob {E:Value->Shared->Prop}{pins:List (Addr×Obj)}{s:Shared}{σ:St}{H:Hp}{x:Str}{u:Value}{pos:Pos}{Q:Value->Shared->Prop}(I:Inv X pins σ H s)(hg:Gl X x)(hm:X.mg x=some u)(h:Q u s)
  (hd:(x == ("__debug__" : Str))=false:=by decide):wpAny (model X.prog X.w) X.A (eval (.Name x pos) X.env) Q E s:=
 Calls.Name_function_global I.ok.kind hg (Calls.loadGlobal_global (by rw [I.ok.glob]; exact I.mod.glob.keeps I.bk) hm h) hd
theorem ld_blt {E:Value->Shared->Prop}{pins:List (Addr×Obj)}{s:Shared}{σ:St}{H:Hp}{x:Str}{u:Value}{pos:Pos}{Q:Value->Shared->Prop}(I:Inv X pins σ H s)(hg:Gl X x)(hm:X.mg x=none)(hv:bootBuiltins x=some u)(h:Q u s)
  (hn:x≠"__name__":=by decide) (hd:(x == ("__debug__" : Str))=false:=by decide):wpAny (model X.prog X.w) X.A (eval (.Name x pos) X.env) Q E s:=by
 obtain ⟨mb,h1,h2⟩:=I.mod.blt
 exact Calls.Name_function_global I.ok.kind hg (Calls.loadGlobal_builtin (by rw [I.ok.glob]; exact I.mod.glob.keeps I.bk) hm (by rw [I.ok.blt]; exact h1.keeps I.bk) ((h2 x hn).trans hv) h) hd
theorem pe_glob {x:Str}{v:V}{u:Value}{pos:Pos}(hg:Gl X x)(hm:X.mg x=some u)(r:RelV v u)(hd:(x == ("__debug__" : Str))=false:=by decide):PE X (.Name x pos) (tC v):=
 fun _ _ _ H _ I h=>ld_glob I hg hm ⟨v,H,I,r,h⟩ hd
theorem pe_bltn {x:Str}{v:V}{u:Value}{pos:Pos}(hg:Gl X x)(hm:X.mg x=none)(hv:bootBuiltins x=some u)(r:RelV v u)(hn:x≠"__name__":=by decide)(hd:(x == ("__debug__" : Str))=false:=by decide):PE X (.Name x pos) (tC v):=
 fun _ _ _ H _ I h=>ld_blt I hg hm hv ⟨v,H,I,r,h⟩ hn hd
variable {a b:Expr}{ta tb:TE}{pos:Pos}
noncomputable def PC (X:Cx)(op:CmpOp)(a b:Expr)(t:TE):Prop:=
 ∀(pins:List (Addr×Obj)) (s:Shared) (σ:St) (H:Hp) (Q:VK),Inv X pins σ H s->t σ H Q->
  wpAny (model X.prog X.w) X.A (eval a X.env) (fun v s₁=>wpAny (model X.prog X.w) X.A (eval b X.env) (fun u s₂=>wpAny (model X.prog X.w) X.A (compareOp op v u) (EP X pins σ Q) X.xe s₂) X.xe s₁) X.xe s
theorem nobehind (b:Expr){op:CmpOp}(h:op≠.In)(h2:op≠.NotIn):behindInMarks op b=false:=by
 have e1:(op == CmpOp.In)=false:=by cases op <;> first | rfl | exact absurd rfl h
 have e2:(op == CmpOp.NotIn)=false:=by cases op <;> first | rfl | exact absurd rfl h2
 cases b <;> simp [behindInMarks,e1,e2]
noncomputable def tB (t:TE):TT:=fun σ H Q=>t σ H fun x H1=>∃c,x=.bl c/\Q c H1
theorem pt_cmp {op:CmpOp}{t:TE}(h:PC X op a b t)(h1:behindInMarks op b=false:=by first | exact nobehind _ (by decide) (by decide) | rfl):PT X (.Compare a [op] [b] pos) (tB t):=by
 intro pins s σ H Q I hw
 refine wpAny_isTrue_Compare1 (thn (h pins s σ H _ I hw) fun v s1 h1=>thn h1 fun u s2 h2=>thn h2 fun c s3 hE=>xq2 hE fun x H1 I1 r1 q1=>?_) h1
 obtain ⟨d,rfl,q⟩:=q1
 cases r1
 exact wpAny_truthy_bool ⟨H1,I1,q⟩
theorem pt_val {e:Expr}{t:TE}(h:PE X e t)(he:∀whole,isTrue e X.env whole=(do let v ← whole; standAt e.pos; holding [v] (truthy v)):=by intro _; rfl):PT X e (tB t):=by
 intro pins s σ H Q I hw
 refine isTrue_plain (thn (h pins s σ H _ I hw) fun v s1 hE=>xq2 hE fun x H1 I1 r1 q1=>?_) (he _)
 obtain ⟨d,rfl,q⟩:=q1
 cases r1
 exact wpAny_truthy_bool ⟨H1,I1,q⟩
variable {tA tB':TT}{rest:List Expr}
noncomputable def tAnd (t u:TT):TT:=fun σ H Q=>t σ H fun c H1=>if c=true then u σ H1 Q else Q false H1
noncomputable def tOr (t u:TT):TT:=fun σ H Q=>t σ H fun c H1=>if c=true then Q true H1 else u σ H1 Q
noncomputable def tNot (t:TT):TT:=fun σ H Q=>t σ H fun c H1=>Q (!c) H1
theorem pw_and1 (ha:PT X a tA):PW X (.BoolOp .And [a] pos) tA:=by
 intro wh pins s σ H Q I h
 refine isTrue_and (thn (ha pins s σ H Q I h) fun c s1 e=>?_)
 cases c with
 |true=>exact isTrue_and_nil e
 |false=>exact e
theorem pw_or1 (ha:PT X a tA):PW X (.BoolOp .Or [a] pos) tA:=by
 intro wh pins s σ H Q I h
 refine isTrue_or (thn (ha pins s σ H Q I h) fun c s1 e=>?_)
 cases c with
 |false=>exact isTrue_or_nil e
 |true=>exact e
theorem pw_and (ha:PT X a tA)(hb:PW X (.BoolOp .And (b::rest) pos) tB'):PW X (.BoolOp .And (a::b::rest) pos) (tAnd tA tB'):=by
 intro wh pins s σ H Q I h
 refine isTrue_and (thn (ha pins s σ H _ I h) fun c s1 ⟨H1,I1,q1⟩=>?_)
 cases c with
 |true=>exact hb wh pins s1 σ H1 Q I1 q1
 |false=>exact ⟨H1,I1,q1⟩
theorem pw_or (ha:PT X a tA)(hb:PW X (.BoolOp .Or (b::rest) pos) tB'):PW X (.BoolOp .Or (a::b::rest) pos) (tOr tA tB'):=by
 intro wh pins s σ H Q I h
 refine isTrue_or (thn (ha pins s σ H _ I h) fun c s1 ⟨H1,I1,q1⟩=>?_)
 cases c with
 |true=>exact ⟨H1,I1,q1⟩
 |false=>exact hb wh pins s1 σ H1 Q I1 q1
theorem pt_not (ha:PT X a tA):PT X (.UnaryOp .Not a pos) (tNot tA):=by
 intro pins s σ H Q I h
 exact isTrue_not (ha pins s σ H (fun c H1=>Q (!c) H1) I h)
noncomputable def tAndV (ta tb:TE):TE:=fun σ H Q=>ta σ H fun x H1=>∃c,x=.bl c/\if c=true then tb σ H1 Q else Q (.bl false) H1
theorem pe_one {op}{t:TE}(h:PE X a t):PE X (.BoolOp op [a] pos) t:=fun pins s σ H Q I hw=>BoolOp_one (h pins s σ H Q I hw)
theorem pe_and (ha:PE X a ta)(hb:PE X (.BoolOp .And (b::rest) pos) tb):PE X (.BoolOp .And (a::b::rest) pos) (tAndV ta tb):=by
 intro pins s σ H Q I h
 refine BoolOp_and (thn (ha pins s σ H _ I h) fun v s1 hE=>xq2 hE fun x H1 I1 r1 q1=>?_)
 obtain ⟨c,rfl,q1⟩:=q1
 cases r1
 refine wpAny_truthy_bool ?_
 cases c with
 |true=>exact hb pins s1 σ H1 Q I1 q1
 |false=>exact ⟨.bl false,H1,I1,rfl,q1⟩
noncomputable def tIf (t:TT)(ta tb:TE):TE:=fun σ H Q=>t σ H fun c H1=>if c=true then ta σ H1 Q else tb σ H1 Q
theorem pe_ifExp {c:Expr}(hc:PT X c tA)(ha:PE X a ta)(hb:PE X b tb):PE X (.IfExp c a b pos) (tIf tA ta tb):=by
 intro pins s σ H Q I h
 refine wpAny_IfExp (thn (hc pins s σ H _ I h) fun d s1 ⟨H1,I1,q1⟩=>?_)
 cases d with
 |true=>exact ha pins s1 σ H1 Q I1 q1
 |false=>exact hb pins s1 σ H1 Q I1 q1
end
open PySem PySem.Spec PyProof.Rows
noncomputable def SqL (K:PySem.W.Frag)(H:Hp)(a:Addr)(xs:List V):Prop:=
 Rd H a (.lst xs) ∨
  ∃(o:Obj) (its:Array Value) (n:Nat),K.lookup a=some o/\o.cls=.type "list"/\o.dict=none/\o.data=.seq its n/\its.size<=sizeLine/\Vals xs its.toList
noncomputable def SqT (K:PySem.W.Frag)(H:Hp)(a:Addr)(xs:List V):Prop:=
 Rd H a (.tup xs) ∨
  ∃(o:Obj) (its:Array Value) (n:Nat),K.lookup a=some o/\o.cls=.type "tuple"/\o.data=.seq its n/\its.size<=sizeLine/\Vals xs its.toList
noncomputable abbrev KTp (K:PySem.W.Frag)(a:Addr)(xs:List V):Prop:=
  ∃(o:Obj) (its:Array Value) (n:Nat),K.lookup a=some o/\o.cls=.type "tuple"/\o.data=.seq its n/\its.size<=sizeLine/\Vals xs its.toList
noncomputable def SqU (K:PySem.W.Frag)(H:Hp)(a:Addr)(xs:List V):Prop:=H a=some (.tup xs)\/KTp K a xs
theorem SqU.sq {K:PySem.W.Frag}{H:Hp}{a:Addr}{xs:List V}(h:SqU K H a xs):SqT K H a xs:=h.elim (fun e=>.inl (.inl e)) .inr
theorem SqU.of {K:PySem.W.Frag}{H:Hp}{a:Addr}{xs:List V}(h:H a=some (.tup xs)):SqU K H a xs:=.inl h
noncomputable def absV:Value->Option V
 | .none=>some .non
 | .bool b=>some (.bl b)
 | .int i _=>some (.int i)
 | .str x _=>some (.str x)
 | .bytes b _=>some (.byt b)
 | .float b _=>some (.flt b)
 | .ref a=>some (.ref a)
 | .type n=>some (.ty n)
 |_=>none
theorem RelV.abs {x:V}{u:Value}(r:RelV x u):absV u=some x:=by
 cases x with
 |non=>cases r; rfl
 |bl _=>cases r; rfl
 |int _=>obtain ⟨t,rfl⟩:=r; rfl
 |str _=>obtain ⟨t,rfl⟩:=r; rfl
 |byt _=>obtain ⟨t,rfl⟩:=r; rfl
 |flt _=>obtain ⟨t,rfl⟩:=r; rfl
 |ref _=>cases r; rfl
 |ty _=>cases r; rfl
theorem RelV.inj {x y:V}{u:Value}(r:RelV x u)(q:RelV y u):x=y:=Option.some.inj (r.abs.symm.trans q.abs)
theorem Vals.inj:∀{xs ys:List V} {us:List Value},Vals xs us->Vals ys us->xs=ys
 |_,_,_,.nil,.nil=>rfl
 |_,_,_,.cons r t,.cons r' t'=>by rw [r.inj r',Vals.inj t t']
section
variable {X:Cx}{pins:List (Addr×Obj)}{σ:St}{H:Hp}{s:Shared}{a:Addr}{xs ys:List V}
theorem SqL.of {K:PySem.W.Frag}(h:H a=some (.lst xs)):SqL K H a xs:=.inl (.inl h)
theorem Inv.list (I:Inv X pins σ H s)(h:SqL X.K H a xs):∃its:List Value,Vals xs its/\PlainL s.heap a its.toArray/\xs.length<=sizeLine:=by
 rcases h with h | ⟨o,its,n,hk,hc,hd,hs,hz,r⟩
 ·obtain ⟨z,its,n,r,e⟩:=h.ok I.hok
  exact ⟨its,r,⟨_,n,e,rfl,rfl,rfl⟩,z⟩
 ·refine ⟨its.toList,r,⟨o,n,I.kIn a o hk,hc,hd,by simpa using hs⟩,?_⟩
  have e:=r.length
  simp only [Array.length_toList] at e
  omega
theorem Inv.tuple (I:Inv X pins σ H s)(h:SqT X.K H a xs):∃its:List Value,Vals xs its/\IsTup s.heap a its.toArray/\xs.length<=sizeLine:=by
 rcases h with h | ⟨o,its,n,hk,hc,hs,hz,r⟩
 ·obtain ⟨z,its,r,p⟩:=h.ok I.hok
  exact ⟨its,r,p,z⟩
 ·refine ⟨its.toList,r,⟨o,I.kIn a o hk,hc,n,by simpa using hs⟩,?_⟩
  have e:=r.length
  simp only [Array.length_toList] at e
  omega
theorem Inv.list_inj (I:Inv X pins σ H s)(h:SqL X.K H a xs)(h':SqL X.K H a ys):xs=ys:=by
 obtain ⟨its,r,⟨o,n,e,_,_,d⟩,_⟩:=I.list h
 obtain ⟨its',r',⟨o',n',e',_,_,d'⟩,_⟩:=I.list h'
 rw [e] at e'; cases e'
 rw [d] at d'
 injection d' with d1 _
 have:its=its':=by simpa using congrArg Array.toList d1
 subst this
 exact r.inj r'
theorem Inv.tuple_inj (I:Inv X pins σ H s)(h:SqT X.K H a xs)(h':SqT X.K H a ys):xs=ys:=by
 obtain ⟨its,r,⟨o,e,_,n,d⟩,_⟩:=I.tuple h
 obtain ⟨its',r',⟨o',e',_,n',d'⟩,_⟩:=I.tuple h'
 rw [e] at e'; cases e'
 rw [d] at d'
 injection d' with d1 _
 have:its=its':=by simpa using congrArg Array.toList d1
 subst this
 exact r.inj r'
end
noncomputable abbrev Cx.wish (X:Cx)(E:Value->Shared->Prop):Cx:={ X with xe:=E }
theorem Cx.Ok.wish {X:Cx}(ok:X.Ok)(E:Value->Shared->Prop):(X.wish E).Ok:=
 ⟨ok.mod,ok.kind,ok.glob,ok.blt,ok.above,ok.inj,ok.has,ok.cab,ok.hd,ok.frames,ok.stk,ok.exf,ok.bs,ok.bsz,ok.noex,ok.exfs,ok.funs,ok.frf⟩
section
variable {X:Cx}{pins:List (Addr×Obj)}{σ:St}{H:Hp}{s:Shared}{E:Value->Shared->Prop}
theorem Inv.wish (I:Inv X pins σ H s)(E:Value->Shared->Prop):Inv (X.wish E) pins σ H s:=⟨I.ok.wish E,I.os,I.bare,I.base,I.loc,I.cell,I.free,I.freeC,I.pin,I.hok,I.len⟩
end
section
variable {X:Cx}{st:Stmt}{rest:List Stmt}{t u:TS}{e:Expr}{te:TE}{pos:Pos}
noncomputable def tNext:TS:=fun D σ H=>D.nx σ H
noncomputable def tSeq (t u:TS):TS:=fun D σ H=>t { D with nx:=u D } σ H
theorem pss_nil:PSs X [] tNext:=fun _ _ σ H _ I h=>wpAny_execs_nil ⟨σ,H,I,h⟩
theorem pss_cons (h1:PS X st t)(h2:PSs X rest u):PSs X (st::rest) (tSeq t u):=by
 intro pins s σ H D I h
 refine wpAny_execs_cons (thn (h1 pins s σ H { D with nx:=u D } I h) fun f s1 q=>?_)
 cases f with
 |next=>
  obtain ⟨σ',H',I',q⟩:=q
  exact h2 pins s1 σ' H' D I' q
 |ret v=>exact q
 |brk=>exact q
 |cont=>exact q
theorem pss_one (h1:PS X st t):PSs X [st] t:=by
 intro pins s σ H D I h
 refine wpAny_execs_cons (thn (h1 pins s σ H D I h) fun f s1 q=>?_)
 cases f with
 |next=>exact wpAny_execs_nil q
 |ret v=>exact q
 |brk=>exact q
 |cont=>exact q
theorem Inv.quiet {pins:List (Addr×Obj)}{σ:St}{H:Hp}{s:Shared}(I:Inv X pins σ H s):interactive X.env=false:=by simp [interactive,I.ok.kind]
noncomputable def tDrop (te:TE):TS:=fun D σ H=>te σ H fun _ H1=>D.nx σ H1
theorem ps_expr (he:PE X e te)(hs:swapsWith e none pos.line X.env=pure false:=by rfl):PS X (.Expr e pos) (tDrop te):=by
 intro pins s σ H D I h
 exact wpAny_Expr_any (thn (he pins s σ H _ I h) fun v s1 hE=>xq2 hE fun x H1 I1 r1 q1=>⟨σ,H1,I1,q1⟩) I.quiet hs
noncomputable def tRet (te:TE):TS:=fun D σ H=>te σ H D.rt
theorem ps_ret (he:PE X e te):PS X (.Return (some e) pos) (tRet te):=by
 intro pins s σ H D I h
 exact wpAny_Return_some (thn (he pins s σ H _ I h) fun v s1 hE=>xq2 hE fun x H1 I1 r1 q1=>⟨x,σ,H1,I1,r1,q1⟩)
noncomputable def tIfS (c:TT)(t u:TS):TS:=fun D σ H=>c σ H fun b H1=>if b=true then t D σ H1 else u D σ H1
theorem ps_if {c:Expr}{a b:List Stmt}{tc:TT}(hc:PT X c tc)(ha:PSs X a t)(hb:PSs X b u):PS X (.If c a b pos) (tIfS tc t u):=by
 intro pins s σ H D I h
 refine wpAny_If (thn (hc pins s σ H _ I h) fun d s1 ⟨H1,I1,q1⟩=>?_)
 cases d with
 |true=>exact ha pins s1 σ H1 D I1 q1
 |false=>exact hb pins s1 σ H1 D I1 q1
end
noncomputable abbrev TG:=V->St->Hp->(St->Hp->Prop)->Prop
noncomputable abbrev TGs:=List V->St->Hp->(St->Hp->Prop)->Prop
noncomputable def PG (X:Cx)(target:Expr)(t:TG):Prop:=
 ∀(pins:List (Addr×Obj)) (s:Shared) (σ:St) (H:Hp) (v:V) (u:Value) (Q:St->Hp->Prop),Inv X pins σ H s->RelV v u->t v σ H Q->
  wpAny (model X.prog X.w) X.A (assign target X.env u) (fun _ s'=>∃σ' H',Inv X pins σ' H' s'/\Q σ' H') X.xe s
noncomputable def PGs (X:Cx)(ts:List Expr)(t:TGs):Prop:=
 ∀(pins:List (Addr×Obj)) (s:Shared) (σ:St) (H:Hp) (vs:List V) (us:List Value) (Q:St->Hp->Prop),Inv X pins σ H s->Vals vs us->t vs σ H Q->
  wpAny (model X.prog X.w) X.A (assignInOrder ((assignEach ts X.env).map (·.2)) us) (fun _ s'=>∃σ' H',Inv X pins σ' H' s'/\Q σ' H') X.xe s
noncomputable abbrev TSet:=V->V->V->Hp->(Hp->Prop)->Prop
noncomputable def PSet (X:Cx)(t:TSet):Prop:=
 ∀(pins:List (Addr×Obj)) (s:Shared) (σ:St) (H:Hp) (o i v:V) (ov iv u:Value) (Q:Hp->Prop),Inv X pins σ H s->RelV o ov->RelV i iv->RelV v u->t o i v H Q->
  wpAny (model X.prog X.w) X.A (setItem ov iv u) (fun _ s'=>∃H',Inv X pins σ H' s'/\Q H') X.xe s
section
variable {X:Cx}{pos:Pos}
noncomputable def gName (i:Nat):TG:=fun v σ H Q=>Q (σ.set i (some v)) H
theorem pg_name {i:Nat}{x:Str}(hN:X.N.Nodup)(hi:X.N[i]? = some x)(hx:Loc X.env.scope x)(hf:X.fn x=true\/X.env.scope.names.lookup x=some .local:=by first | exact .inl rfl | exact .inr rfl | assumption):PG X (.Name x pos) (gName i):=by
 intro pins s σ H v u Q I r h
 exact wpAny_assign_Name (store_ok I hN hi hx r (fun s' I'=>⟨_,H,I',h⟩) hf)
noncomputable def gNil:TGs:=fun vs σ H Q=>vs=[]/\Q σ H
noncomputable def gCons (t:TG)(u:TGs):TGs:=fun vs σ H Q=>∃v r,vs=v::r/\t v σ H fun σ' H'=>u r σ' H' Q
theorem pgs_nil:PGs X [] gNil:=by
 intro pins s σ H vs us Q I r h
 obtain ⟨e,h⟩:=h
 subst e
 cases r
 exact assignInOrder_nil ⟨σ,H,I,h⟩
theorem pgs_cons {e:Expr}{es:List Expr}{t:TG}{u:TGs}(h1:PG X e t)(h2:PGs X es u)
  (hs:(assignEach (e::es) X.env).map (·.2)=assign e X.env::(assignEach es X.env).map (·.2):=by rfl):PGs X (e::es) (gCons t u):=by
 intro pins s σ H vs us Q I r h
 obtain ⟨v,vr,e1,h⟩:=h
 subst e1
 cases r with
 |cons r rr=>
  rw [hs]
  refine assignInOrder_cons (thn (h1 pins s σ H _ _ _ I r h) fun _ s1 ⟨σ1,H1,I1,q1⟩=>?_)
  exact h2 pins s1 σ1 H1 _ _ Q I1 rr q1
noncomputable def gTup (K:PySem.W.Frag)(n:Nat)(t:TGs):TG:=fun v σ H Q=>∃a xs,v=.ref a/\SqT K H a xs/\xs.length=n/\t xs σ H Q
theorem pg_tup {es:List Expr}{k:Nat}{t:TGs}{n:Nat}(hc:X.calm=true)(h:PGs X es t)
  (hn:(assignEach es X.env).length=n:=by rfl) (hst:(assignEach es X.env).findIdx? (·.1)=none:=by rfl):PG X (.Tuple es k pos) (gTup X.K n t):=by
 intro pins s σ H v u Q I r hw
 obtain ⟨a,xs,e1,hq,hl,hw⟩:=hw
 subst e1
 cases r
 obtain ⟨its,rv,ht,hz⟩:=I.tuple hq
 refine assign_Tuple_tuple (I.ok.hd hc) ht (by simp [hn,← hl,rv.length]) hst fun h' hx=>?_
 have I1:Inv X pins σ H { s with heap:=h' }:=I.kept (t':=s.toks) fun b o e=>hx b o (Nat.ne_of_lt (Heap.lt_size e)) e
 exact h pins _ σ H xs _ Q I1 (by simpa using rv) hw
noncomputable def gSub (to ti:TE)(t:TSet):TG:=fun v σ H Q=>to σ H fun o H1=>ti σ H1 fun i H2=>t o i v H2 fun H3=>Q σ H3
theorem pg_sub {o i:Expr}{to ti:TE}{t:TSet}(ho:PE X o to)(hi:PE X i ti)(hs:PSet X t)
  (ha:∀v,assign (.Subscript o i pos) X.env v=(do
   let ov ← holding [v] (eval o X.env)
   let iv ← holding [v,ov] (eval i X.env)
   standAt pos
   holding [v,ov,iv] (setItem ov iv v)
   release [v,ov,iv] []):=by intro _; rfl):PG X (.Subscript o i pos) (gSub to ti t):=by
 intro pins s σ H v u Q I r h
 rw [ha]
 refine wpAny_bind (wpAny_holding (thn (ho pins s σ H _ I h) fun ov s1 hE=>xq2 hE fun x H1 I1 r1 q1=>?_))
 refine wpAny_bind (wpAny_holding (thn (hi pins s1 σ H1 _ I1 q1) fun iv s2 hE=>xq2 hE fun y H2 I2 r2 q2=>?_))
 refine wpAny_bind (wpAny_standAt (wpAny_bind (wpAny_holding (thn (hs pins s2 σ H2 x y v ov iv u _ I2 r1 r2 r q2) fun _ s3 ⟨H3,I3,q3⟩=>?_))))
 exact wpAny_release ⟨σ,H3,I3,q3⟩
noncomputable def tAsg (te:TE)(g:TG):TS:=fun D σ H=>te σ H fun x H1=>g x σ H1 D.nx
theorem ps_asg {tg e:Expr}{te:TE}{g:TG}(he:PE X e te)(hg:PG X tg g)(hs:swapsWithSole [tg] e pos.line X.env=pure false:=by rfl)(hw:swappedStores [tg] e X.env=pure none:=by rfl)
  (h1:(assignEach [tg] X.env).map (·.2)=[assign tg X.env]:=by rfl):PS X (.Assign [tg] e pos) (tAsg te g):=by
 intro pins s σ H D I h
 refine wpAny_Assign_stores (thn (he pins s σ H _ I h) fun v s1 hE=>xq2 hE fun x H1 I1 r1 q1=>?_) hs hw
 rw [h1]
 exact thn (hg pins s1 σ H1 x v _ I1 r1 q1) fun _ s2 q=>q
theorem ps_set {i:Nat}{x:Str}{e:Expr}{te:TE}{pos':Pos}(hN:X.N.Nodup)(hi:X.N[i]? = some x)(hx:Loc X.env.scope x)(he:PE X e te)(hs:swapsWith e (some (.Name x pos')) pos.line X.env=pure false:=by rfl)(hf:X.fn x=true\/X.env.scope.names.lookup x=some .local:=by first | exact .inl rfl | exact .inr rfl | assumption):
  PS X (.Assign [.Name x pos'] e pos) (tAsg te (gName i)):=by
 intro pins s σ H D I h
 refine wpAny_Assign_Name (thn (he pins s σ H _ I h) fun v s1 hE=>xq2 hE fun y H1 I1 r1 q1=>?_) hs
 exact store_ok I1 hN hi hx r1 (fun s2 I2=>⟨_,H1,I2,q1⟩) hf
noncomputable def tPar (i j:Nat)(ta:TA):TS:=fun D σ H=>ta σ H fun vs H1=>∃v w,vs=[v,w]/\D.nx ((σ.set i (some v)).set j (some w)) H1
theorem ps_par {i j:Nat}{x y:Str}{a b:Expr}{ta:TA}{px py pt:Pos}{kt k2 pt2}(hc:X.calm=true)(hN:X.N.Nodup)(hi:X.N[i]? = some x)(hj:X.N[j]? = some y)(hij:i≠j)
  (hx:X.env.scope.names.lookup x=some .local) (hy:X.env.scope.names.lookup y=some .local) (ha:PA X [a,b] ta)
  (hw:swappedStores [.Tuple [.Name x px,.Name y py] kt pt] (.Tuple [a,b] k2 pt2) X.env=pure (some [x,y]))
  (hs:swapsWithSole [.Tuple [.Name x px,.Name y py] kt pt] (.Tuple [a,b] k2 pt2) pos.line X.env=pure false:=by rfl):
  PS X (.Assign [.Tuple [.Name x px,.Name y py] kt pt] (.Tuple [a,b] k2 pt2) pos) (tPar i j ta):=by
 intro pins s σ H D I h
 rw [exec_Assign_arm]
 refine wpAny_bind (wpAny_standAt ?_)
 rw [hs]
 refine wpAny_bind (wpAny_pure ?_)
 rw [if_neg (by decide)]
 refine wpAny_bind (Tuple_ (thn (ha _ pins s σ H _ I h) fun us s1 hE=>xq2 hE fun vs H1 I1 r1 q1=>?_))
 obtain ⟨v,w,e1,q1⟩:=q1
 subst e1
 obtain ⟨u1,u2,rfl,rv,rw'⟩:∃u1 u2,us=[u1,u2]/\RelV v u1/\RelV w u2:=by
  cases r1 with
  |cons p q=>
   cases q with
   |cons p' q'=>
    cases q'
    exact ⟨_,_,rfl,p,p'⟩
 refine wpAny_newObj_type ?_ (by show 2<=sizeLine; decide)
 have I2:Inv X pins σ H1 { s1 with heap:=s1.heap.push { cls:=.type "tuple",data:=.seq [u1,u2].toArray } }:=I1.kept (t':=s1.toks) fun b o e=>Heap.get?_push_of_some _ e
 rw [hw]
 refine wpAny_bind (wpAny_pure ?_)
 show wpAny (model X.prog X.w) X.A (do rule "assign.swapped-stores"; let items ← unpackItems (.ref s1.heap.objs.size) 2 none; assignInOrder [fun v=>bindName X.env y v,fun v=>bindName X.env x v] items.reverse; pure Flow.next) _ _ _
 refine wpAny_bind (wpAny_rule (wpAny_bind (unpackItems_tuple (items:=#[u1,u2]) (I.ok.hd hc) (IsTup.new s1.heap _) fun h' hx'=>?_)))
 have I3:=I2.kept (h':=h') (t':=s1.toks) fun b o e=>hx' b o (Nat.ne_of_lt (Heap.lt_size e)) e
 show wpAny _ _ (assignInOrder [fun v=>bindName X.env y v,fun v=>bindName X.env x v] [u2,u1] >>= fun _=>pure Flow.next) _ _ _
 refine wpAny_bind (assignInOrder_cons (wpAny_bindName (store_ok I3 hN hj (.inl hy) rw' (fun s2 I4=>?_) (.inr hy))))
 refine assignInOrder_cons (wpAny_bindName (store_ok I4 hN hi (.inl hx) rv (fun s3 I5=>assignInOrder_nil (wpAny_pure ?_)) (.inr hx)))
 rw [List.set_comm _ _ (Ne.symm hij)] at I5
 exact ⟨_,H1,I5,q1⟩
end
section
variable {X:Cx}{pos:Pos}
noncomputable def tWhile (c:TT)(tb:TS):TS:=fun D σ H=>∃W:Nat->St->Hp->Prop,(∃m,W m σ H)/\∀m σ H,W m σ H->
 c σ H fun b H1=>if b=true then ∃N:St->Hp->Prop,(∀σ' H',N σ' H'->∃m',m'<m/\W m' σ' H')/\tb { D with nx:=N,ct:=N,bk:=D.nx } σ H1 else D.nx σ H1
theorem ps_while {c:Expr}{body:List Stmt}{tc:TT}{tb:TS}(hp:PassesOwn (model X.prog X.w) X.A X.env X.xe)(hc:PT X c tc)(hb:PSs X body tb):PS X (.While c body [] pos) (tWhile tc tb):=by
 intro pins s σ H D I h
 obtain ⟨W,⟨m0,w0⟩,turn⟩:=h
 refine wpAny_While (codeAny_whileLoop (fun n s'=>∃σ' H',Inv X pins σ' H' s'/\W n σ' H') ?_ m0 ⟨σ,H,I,w0⟩)
 rintro n s1 ⟨σ1,H1,I1,w1⟩
 refine wpAny_passesOwn hp (thn (hc pins s1 σ1 H1 _ I1 (turn n σ1 H1 w1)) fun b s2 ⟨H2,I2,q2⟩=>?_)
 cases b with
 |true=>
  obtain ⟨N,hN,q2⟩:=q2
  rw [if_pos rfl]
  refine wpAny_passesOwn hp (thn (hb pins s2 σ1 H2 _ I2 q2) fun f s3 q3=>?_)
  cases f with
  |next=>
   obtain ⟨σ3,H3,I3,n3⟩:=q3
   obtain ⟨m',hm,w3⟩:=hN σ3 H3 n3
   exact ⟨m',hm,σ3,H3,I3,w3⟩
  |cont=>
   obtain ⟨σ3,H3,I3,n3⟩:=q3
   obtain ⟨m',hm,w3⟩:=hN σ3 H3 n3
   exact ⟨m',hm,σ3,H3,I3,w3⟩
  |brk=>exact q3
  |ret v=>exact q3
 |false=>
  rw [if_neg Bool.false_ne_true]
  exact wpAny_execs_nil ⟨σ1,H2,I2,q2⟩
end
structure It where
 go:Nat->Hp->Prop
 yld:Nat->Hp->V->Hp->Prop
 stop:Nat->Hp->Prop
noncomputable def FpOk (X:Cx)(pins:List (Addr×Obj))(H:Hp)(b:Addr):Prop:=
 H b=none/\b≠X.env.locals/\b∉X.fs/\(b∈X.ex\/X.s₀.heap.objs.size<=b)/\(∀x c,X.env.cells.lookup x=some c->c≠b)/\∀p∈X.pn++pins,p.1≠b
theorem Inv.fpOk {X:Cx}{pins:List (Addr×Obj)}{σ:St}{H H':Hp}{s:Shared}{b:Addr}(I:Inv X pins σ H s)(hb:s.heap.objs.size<=b)(hn:H' b=none):FpOk X pins H' b:=by
 refine ⟨hn,Nat.ne_of_gt (Nat.lt_of_lt_of_le I.lt hb),I.nofs hb,.inr (Nat.le_trans I.sz hb),fun x c e z=>?_,fun p hp z=>?_⟩
 ·obtain ⟨v,q⟩:=I.cell x c e
  exact absurd (Nat.lt_of_lt_of_le q.lt (by rw [z]; exact hb)) (Nat.lt_irrefl _)
 ·exact absurd (Nat.lt_of_lt_of_le (Heap.lt_size (I.pin p hp).1) (by rw [z]; exact hb)) (Nat.lt_irrefl _)
structure Turn (P:Program)(w:World)(K:PySem.W.Frag)(tg:Expr)(J:It)(fp:List Addr)(it:Addr)(tn:Nat->Heap->Prop):Prop where
 mem:it∈fp
 obj:∀i h,tn i h->∀b∈fp,∃o,h.get? b=some o/\∀v,o.data≠.cell v
 keep:∀i h h',tn i h->(∀b∈fp,∀o,h.get? b=some o->h'.get? b=some o)->tn i h'
 item:∀(X:Cx),X.prog=P->X.w=w->X.K=K->X.calm=true->∀(i:Nat) (pins:List (Addr×Obj)) (s:Shared) (σ:St) (H:Hp) (E:Value->Shared->Prop),Inv X pins σ H s->(∀b∈fp,FpOk X pins H b)->tn i s.heap->J.go i H->
  wpAny (model P w) X.A (pyNext (.ref it)) (fun r s1=>∃u,r=some u/\
   wpAny (model P w) X.A (letOwnedTupleGo tg (.ref it) u) (fun _ s2=>∃x H',Inv X pins σ H' s2/\RelV x u/\J.yld i H x H'/\tn (i+1) s2.heap/\∀b∈fp,H' b=none) E s1) E s
 done:∀(X:Cx),X.prog=P->X.w=w->X.K=K->X.calm=true->∀(i:Nat) (pins:List (Addr×Obj)) (s:Shared) (σ:St) (H:Hp) (E:Value->Shared->Prop),Inv X pins σ H s->(∀b∈fp,FpOk X pins H b)->tn i s.heap->J.stop i H->
  wpAny (model P w) X.A (pyNext (.ref it)) (fun r s1=>r=none/\Inv X pins σ H s1) E s
 self:∀(A:Around) (i:Nat) (s:Shared) (Q:Value->Shared->Prop) (E:Value->Shared->Prop),tn i s.heap->Q (.ref it) s->wpAny (model P w) A (pyIter (.ref it)) Q E s
noncomputable abbrev TI:=St->Hp->(It->Hp->Prop)->Prop
noncomputable def PIE (X:Cx)(pins:List (Addr×Obj))(σ:St)(tg:Expr)(R:It->Hp->Prop)(itv:Value)(s2:Shared):Prop:=
 ∃(it:Addr) (fp:List Addr) (tn:Nat->Heap->Prop) (J:It) (H':Hp),itv=.ref it/\Inv X pins σ H' s2/\Turn X.prog X.w X.K tg J fp it tn/\tn 0 s2.heap/\(∀b∈fp,FpOk X pins H' b)/\R J H'
noncomputable def PI (X:Cx)(tg iter:Expr)(wi:TI):Prop:=
 ∀(pins:List (Addr×Obj)) (s:Shared) (σ:St) (H:Hp) (R:It->Hp->Prop),Inv X pins σ H s->wi σ H R->
  wpAny (model X.prog X.w) X.A (eval iter X.env) (fun v s1=>wpAny (model X.prog X.w) X.A (pyIter v) (PIE X pins σ tg R) X.xe s1) X.xe s
theorem go_of {M : Model} {A : Around} {E : Value → Shared → Prop} {s : Shared} {tg : Expr} {it : Addr} {u : Value} {o : Obj} {n : String} {vs : Array Value} {Q : Unit → Shared → Prop} (ho : s.heap.get? it = some o) (hc : o.cls = .type n) (hd : o.data = .fields vs)
    (hn : ["enumerate", "zip", "dict_itemiterator", "dict_reverseitemiterator", "odict_iterator", "itertools.zip_longest", "itertools.pairwise"].contains n = false) (hQ : Q () s) : wpAny M A (letOwnedTupleGo tg (.ref it) u) Q E s := by
  unfold letOwnedTupleGo
  cases tg <;> first
    | exact wpAny_pure hQ
    | (cases u <;> first
        | exact wpAny_pure hQ
        | (refine wpAny_bind (wpAny_load ho ?_)
           rw [hc, hd]
           show wpAny M A (if (["enumerate", "zip", "dict_itemiterator", "dict_reverseitemiterator", "odict_iterator", "itertools.zip_longest", "itertools.pairwise"].contains n && vs[0]? == some (rawInt _)) = true then _ else _) Q E s
           rw [if_neg (by intro h; rw [hn, Bool.false_and] at h; cases h)]
           exact wpAny_pure hQ))
noncomputable def Itl (K:PySem.W.Frag)(a:Addr):It:=
 ⟨fun i H=>∃xs x,SqL K H a xs/\xs[i]? = some x,fun i H x H'=>H'=H/\∀xs,SqL K H a xs->xs[i]? = some x,fun i H=>∃xs,SqL K H a xs/\xs.length<=i⟩
noncomputable def Itt (K:PySem.W.Frag)(a:Addr):It:=
 ⟨fun i H=>∃xs x,SqT K H a xs/\xs[i]? = some x,fun i H x H'=>H'=H/\∀xs,SqT K H a xs->xs[i]? = some x,fun i H=>∃xs,SqT K H a xs/\xs.length<=i⟩
noncomputable def Itr (lo:Int)(n:Nat):It:=⟨fun i _=>i<n,fun i H x H'=>H'=H/\x=.int (lo+i),fun i _=>n<=i⟩
theorem turn_list {P:Program}{w:World}{K:PySem.W.Frag}{tg:Expr}(a it:Addr):Turn P w K tg (Itl K a) [it] it (fun i h=>h.IsListIter it a i) where
 mem:=by simp
 obj:=fun i h st b hb=>by
  have e:b=it:=by simpa using hb
  subst e
  obtain ⟨o,e,c,d⟩:=st
  exact ⟨o,e,fun v z=>by rw [d] at z; cases z⟩
 keep:=fun i h h' st k=>st.at fun o e=>k it (by simp) o e
 item:=by
  intro X hP hw hK hc i pins s σ H E I hf st hg
  subst hP hw hK
  obtain ⟨xs,x,hq,hx⟩:=hg
  obtain ⟨its,rv,p,hz⟩:=I.list hq
  obtain ⟨u,hu,ru⟩:=rv.get hx
  obtain ⟨f0,f1,f2,f3,f4,f5⟩:=hf it (by simp)
  refine wpAny_pyNext_list_item st p.isList (x:=u) (by simpa using hu) fun h' st' sb=>?_
  have I1:Inv X pins σ H { s with heap:=h' }:=I.turned (t':=s.toks) (fun b o hb e=>(sb.2 b hb).trans e) f0 f1 f3 f4 f5
  obtain ⟨o,e,c,d⟩:=id st'
  exact ⟨u,rfl,go_of (s:={ s with heap:=h' }) e c d (by decide) ⟨x,H,I1,ru,⟨rfl,fun ys hy=>by rw [I.list_inj hy hq]; exact hx⟩,st',fun b hb=>(hf b hb).1⟩⟩
 done:=by
  intro X hP hw hK hc i pins s σ H E I hf st hg
  subst hP hw hK
  obtain ⟨xs,hq,hx⟩:=hg
  obtain ⟨its,rv,p,hz⟩:=I.list hq
  obtain ⟨f0,f1,f2,f3,f4,f5⟩:=hf it (by simp)
  have hl:=rv.length
  exact wpAny_pyNext_list_end (I.ok.hd hc) st p.isList (by simp; omega) fun h' eb=>⟨rfl,I.turned (t':=s.toks) (fun b o hb e=>eb b o hb e) f0 f1 f3 f4 f5⟩
 self:=fun _ _ _ _ _ st h=>wpAny_pyIter_listiter st h
theorem turn_tuple {P:Program}{w:World}{K:PySem.W.Frag}{tg:Expr}(a it:Addr):Turn P w K tg (Itt K a) [it] it (fun i h=>h.IsTupleIter it a i) where
 mem:=by simp
 obj:=fun i h st b hb=>by
  have e:b=it:=by simpa using hb
  subst e
  obtain ⟨o,e,c,d⟩:=st
  exact ⟨o,e,fun v z=>by rw [d] at z; cases z⟩
 keep:=fun i h h' st k=>st.at fun o e=>k it (by simp) o e
 item:=by
  intro X hP hw hK hc i pins s σ H E I hf st hg
  subst hP hw hK
  obtain ⟨xs,x,hq,hx⟩:=hg
  obtain ⟨its,rv,p,hz⟩:=I.tuple hq
  obtain ⟨u,hu,ru⟩:=rv.get hx
  obtain ⟨f0,f1,f2,f3,f4,f5⟩:=hf it (by simp)
  refine wpAny_pyNext_tuple_item st (show s.heap.IsTuple a its.toArray from p) (x:=u) (by simpa using hu) fun h' st' sb=>?_
  have I1:Inv X pins σ H { s with heap:=h' }:=I.turned (t':=s.toks) (fun b o hb e=>(sb.2 b hb).trans e) f0 f1 f3 f4 f5
  obtain ⟨o,e,c,d⟩:=id st'
  exact ⟨u,rfl,go_of (s:={ s with heap:=h' }) e c d (by decide) ⟨x,H,I1,ru,⟨rfl,fun ys hy=>by rw [I.tuple_inj hy hq]; exact hx⟩,st',fun b hb=>(hf b hb).1⟩⟩
 done:=by
  intro X hP hw hK hc i pins s σ H E I hf st hg
  subst hP hw hK
  obtain ⟨xs,hq,hx⟩:=hg
  obtain ⟨its,rv,p,hz⟩:=I.tuple hq
  obtain ⟨f0,f1,f2,f3,f4,f5⟩:=hf it (by simp)
  have hl:=rv.length
  exact wpAny_pyNext_tuple_end (I.ok.hd hc) st (show s.heap.IsTuple a its.toArray from p) (by simp; omega) fun h' eb=>⟨rfl,I.turned (t':=s.toks) (fun b o hb e=>eb b o hb e) f0 f1 f3 f4 f5⟩
 self:=fun _ _ _ _ _ st h=>wpAny_pyIter_tupleiter st h
theorem turn_range {P:Program}{w:World}{K:PySem.W.Frag}{tg:Expr}(it:Addr)(lo:Int)(n:Nat):Turn P w K tg (Itr lo n) [it] it (fun i h=>IsRangeIter h it (lo+(i:Nat) * 1) ((n:Int) - (i:Nat)) 1) where
 mem:=by simp
 obj:=fun i h st b hb=>by
  have e:b=it:=by simpa using hb
  subst e
  exact ⟨_,st,fun v z=>by
   have z':Data.fields _=Data.cell v:=z
   cases z'⟩
 keep:=fun i h h' st k=>k it (by simp) _ st
 item:=by
  intro X hP hw hK hc i pins s σ H E I hf st hg
  subst hP hw hK
  obtain ⟨f0,f1,f2,f3,f4,f5⟩:=hf it (by simp)
  have W:=Walks.range (prog:=X.prog) (w:=X.w) (I.ok.hd hc) it lo 1 n
  refine W.item i s _ _ hg st fun v h' tk hv st' kk=>?_
  obtain ⟨t,rfl⟩:=hv
  have I1:Inv X pins σ H { s with heap:=h',toks:=tk }:=I.turned (fun b o hb e=>kk b o (by simpa using hb) e) f0 f1 f3 f4 f5
  refine ⟨_,rfl,go_of (s:={ s with heap:=h',toks:=tk }) (n:="range_iterator") st' rfl rfl (by decide) ⟨.int (lo+i),H,I1,⟨t,?_⟩,⟨rfl,rfl⟩,st',fun b hb=>(hf b hb).1⟩⟩
  rw [Int.mul_one]
 done:=by
  intro X hP hw hK hc i pins s σ H E I hf st hg
  subst hP hw hK
  obtain ⟨f0,f1,f2,f3,f4,f5⟩:=hf it (by simp)
  exact wpAny_pyNext_range_end (I.ok.hd hc) st (by have:n<=i:=hg; omega) fun h' eb=>⟨rfl,I.turned (t':=s.toks) (fun b o hb e=>eb b o hb e) f0 f1 f3 f4 f5⟩
 self:=fun _ _ _ _ _ st h=>wpAny_pyIter_rangeiter st h
open PySem PySem.Spec PyProof.Rows
section
variable {X:Cx}{tg:Expr}
noncomputable def iList (K:PySem.W.Frag)(tl:TE):TI:=fun σ H R=>tl σ H fun x H1=>∃a,x=.ref a/\(∃xs,SqL K H1 a xs)/\R (Itl K a) H1
noncomputable def iTup (K:PySem.W.Frag)(tl:TE):TI:=fun σ H R=>tl σ H fun x H1=>∃a,x=.ref a/\(∃xs,SqT K H1 a xs)/\R (Itt K a) H1
theorem pi_list {l:Expr}{tl:TE}(hl:PE X l tl):PI X tg l (iList X.K tl):=by
 intro pins s σ H R I h
 refine thn (hl pins s σ H _ I h) fun v s1 hE=>xq2 hE fun x H1 I1 r1 q1=>?_
 obtain ⟨a,e,⟨xs,hq⟩,q⟩:=q1
 subst e
 cases r1
 obtain ⟨its,rv,p,hz⟩:=I1.list hq
 refine wpAny_pyIter_list p.isList ?_
 refine ⟨s1.heap.objs.size,[s1.heap.objs.size],_,_,H1,rfl,I1.kept (t':=s1.toks) fun b o e=>Heap.get?_push_of_some _ e,turn_list a _,⟨_,Heap.get?_push_size _ rfl,rfl,rfl⟩,fun b hb=>?_,q⟩
 have e:b=s1.heap.objs.size:=by simpa using hb
 subst e
 exact I1.fpOk (Nat.le_refl _) (I1.hok.fresh (Nat.le_refl _))
theorem pi_tup {l:Expr}{tl:TE}(hl:PE X l tl):PI X tg l (iTup X.K tl):=by
 intro pins s σ H R I h
 refine thn (hl pins s σ H _ I h) fun v s1 hE=>xq2 hE fun x H1 I1 r1 q1=>?_
 obtain ⟨a,e,⟨xs,hq⟩,q⟩:=q1
 subst e
 cases r1
 obtain ⟨its,rv,p,hz⟩:=I1.tuple hq
 refine wpAny_pyIter_tuple (show s1.heap.IsTuple a its.toArray from p) ?_
 refine ⟨s1.heap.objs.size,[s1.heap.objs.size],_,_,H1,rfl,I1.kept (t':=s1.toks) fun b o e=>Heap.get?_push_of_some _ e,turn_tuple a _,⟨_,Heap.get?_push_size _ rfl,rfl,rfl⟩,fun b hb=>?_,q⟩
 have e:b=s1.heap.objs.size:=by simpa using hb
 subst e
 exact I1.fpOk (Nat.le_refl _) (I1.hok.fresh (Nat.le_refl _))
theorem range_it {pins:List (Addr×Obj)}{σ:St}{H:Hp}{s:Shared}{R:It->Hp->Prop}{E:Value->Shared->Prop}{lo hi:Int}{t u v:Tok}{tk:Nat}(I:Inv X pins σ H s)(h1:-(2 ^ 62)<=lo)(h2:lo<2 ^ 62)(h3:-(2 ^ 62)<=hi)(h4:hi<2 ^ 62)
  (q:R (Itr lo (hi - lo).toNat) H):wpAny (model X.prog X.w) X.A (pyIter (.ref s.heap.objs.size)) (PIE X pins σ tg R) E { s with heap:=s.heap.push { cls:=.type "range",data:=.fields #[.int lo t,.int hi u,.int 1 v] },toks:=tk }:=by
 refine wpAny_pyIter_range (IsRange.new ..) (small_one h1 h2 h3 h4) ?_
 have I1:Inv X pins σ H { s with heap:=s.heap.push { cls:=.type "range",data:=.fields #[.int lo t,.int hi u,.int 1 v] },toks:=tk }:=I.kept fun b o e=>Heap.get?_push_of_some _ e
 refine ⟨(s.heap.push { cls:=.type "range",data:=.fields #[.int lo t,.int hi u,.int 1 v] }).objs.size,[(s.heap.push { cls:=.type "range",data:=.fields #[.int lo t,.int hi u,.int 1 v] }).objs.size],_,_,H,rfl,
  I1.kept (t':=tk) fun b o e=>Heap.get?_push_of_some _ e,turn_range _ lo (hi - lo).toNat,?_,fun b hb=>?_,q⟩
 ·have e1:lo+((0:Nat):Int) * 1=lo:=by simp
  have e2:(((hi - lo).toNat:Nat):Int) - ((0:Nat):Int)=Builtin.Range.rangeSize lo hi 1:=by rw [rangeSize_one]; split <;> omega
  show IsRangeIter _ _ (lo+((0:Nat):Int) * 1) ((((hi - lo).toNat:Nat):Int) - ((0:Nat):Int)) 1
  rw [e1,e2]
  exact Heap.get?_push_size _ rfl
 ·have e:b=(s.heap.push { cls:=.type "range",data:=.fields #[.int lo t,.int hi u,.int 1 v] }).objs.size:=by simpa using hb
  subst e
  exact I1.fpOk (Nat.le_refl _) (I1.hok.fresh (Nat.le_refl _))
noncomputable def iRng1 (ta:TA):TI:=fun σ H R=>ta σ H fun vs H1=>∃j:Int,vs=[.int j]/\-(2 ^ 62)<=j/\j<2 ^ 62/\R (Itr 0 j.toNat) H1
theorem pi_range1 {a:Expr}{ta:TA}{p pos:Pos}(hg:Gl X "range")(hm:X.mg "range" = none)(ha:PA X [a] ta)(hs:starEach [a] X.env=[(false,eval a X.env)]:=by rfl):PI X tg (.Call (.Name "range" p) [a] [] pos) (iRng1 ta):=by
 intro pins s σ H R I h
 refine Call_ (ld_blt I hg hm boot_range (PyProof.Rows.callWith_type1 (thn (ha pos pins s σ H _ I h) fun us s1 hE=>xq2 hE fun vs H1 I1 r1 q1=>?_) hs rfl))
 obtain ⟨j,e,q1,q2,q⟩:=q1
 subst e
 cases r1 with
 |cons r rr=>
  cases rr
  obtain ⟨t,rfl⟩:=r
  exact call_range_1 (range_it I1 (by omega) (by omega) q1 q2 (by simpa using q))
noncomputable def tFor (wi:TI)(g:TG)(tb:TS):TS:=fun D σ H=>wi σ H fun J H1=>∃W:Nat->Nat->St->Hp->Prop,(∃m,W 0 m σ H1)/\∀i m σ H,W i m σ H->
 (J.stop i H/\D.nx σ H)\/(J.go i H/\∃N:St->Hp->Prop,(∀σ' H',N σ' H'->∃m',m'<m/\W (i+1) m' σ' H')/\∀x H',J.yld i H x H'->g x σ H' fun σ2 H2=>tb { D with nx:=N,ct:=N,bk:=D.nx } σ2 H2)
noncomputable def pinsAt (fp:List Addr)(h:Heap):List (Addr×Obj):=fp.filterMap fun b=>(h.get? b).map fun o=>(b,o)
theorem mem_pinsAt {fp:List Addr}{h:Heap}{b:Addr}{o:Obj}(hb:b∈fp)(e:h.get? b=some o):(b,o)∈pinsAt fp h:=List.mem_filterMap.mpr ⟨b,hb,by rw [e]; rfl⟩
theorem of_pinsAt {fp:List Addr}{h:Heap}{p:Addr×Obj}(hp:p∈pinsAt fp h):p.1∈fp/\h.get? p.1=some p.2:=by
 obtain ⟨b,hb,e⟩:=List.mem_filterMap.mp hp
 cases q:h.get? b with
 |none=>rw [q] at e; cases e
 |some o=>
  rw [q] at e
  have e':(b,o)=p:=Option.some.inj e
  subst e'
  exact ⟨hb,q⟩
theorem Inv.pinned {pins:List (Addr×Obj)}{σ:St}{H:Hp}{s:Shared}{fp:List Addr}(I:Inv X pins σ H s)(hf:∀b∈fp,FpOk X pins H b)(ho:∀b∈fp,∃o,s.heap.get? b=some o/\∀v,o.data≠.cell v):Inv X (pins++pinsAt fp s.heap) σ H s:=
 I.pins_of fun p hp=>(List.mem_append.mp hp).elim (fun z=>I.pin p (List.mem_append_right _ z)) fun z=>by
  obtain ⟨hb,e⟩:=of_pinsAt z
  obtain ⟨f0,f1,f2,_⟩:=hf p.1 hb
  obtain ⟨o,e',d⟩:=ho p.1 hb
  rw [e] at e'; cases e'
  exact ⟨e,f0,f1,f2,d⟩
theorem Inv.unpinned {pins pl:List (Addr×Obj)}{σ:St}{H:Hp}{s:Shared}(I:Inv X (pins++pl) σ H s):Inv X pins σ H s:=I.pins_of fun p hp=>I.pin p (List.mem_append_right _ (List.mem_append_left _ hp))
theorem ps_for {iter:Expr}{body:List Stmt}{wi:TI}{g:TG}{tb:TS}{pos:Pos}(hp:PassesOwn (model X.prog X.w) X.A X.env X.xe)(hc:X.calm=true)(hi:PI X tg iter wi)(hg:PG X tg g)(hb:PSs X body tb)
  (hs:∀x,foldedSetIterable iter X.env x=pure x:=by intro _; rfl):PS X (.For tg iter body [] pos) (tFor wi g tb):=by
 intro pins s σ H D I h
 refine wpAny_For (thn (hi pins s σ H _ I h) fun v s1 h1=>thn h1 fun itv s2 h2=>?_) hs
 obtain ⟨it,fp,tn,J,H2,e,I2,T,st2,f2,W,⟨m0,w0⟩,turn⟩:=h2
 subst e
 have stat:∀{H':Hp},(∀b∈fp,H' b=none)->∀b∈fp,FpOk X pins H' b:=fun hn b hb=>⟨hn b hb,(f2 b hb).2⟩
 refine codeAny_forLoop_any (fun n s'=>∃i σ' H',Inv X pins σ' H' s'/\tn i s'.heap/\(∀b∈fp,H' b=none)/\W i n σ' H') ?_ m0 ⟨0,σ,H2,I2,st2,fun b hb=>(f2 b hb).1,w0⟩
 rintro n s3 ⟨i,σ3,H3,I3,st3,fr3,w3⟩
 rcases turn i n σ3 H3 w3 with ⟨stop,qn⟩ | ⟨go,N,hN,step⟩
 ·refine wpAny_passesOwn hp (thn (T.done X rfl rfl rfl hc i pins s3 σ3 H3 X.xe I3 (stat fr3) st3 stop) fun r s4 ⟨hr,I4⟩=>?_)
  subst hr
  exact wpAny_execs_nil ⟨σ3,H3,I4,qn⟩
 ·refine wpAny_passesOwn hp (thn (T.item X rfl rfl rfl hc i pins s3 σ3 H3 X.xe I3 (stat fr3) st3 go) fun r s4 ⟨u,hr,h4⟩=>?_)
  subst hr
  refine wpAny_passesOwn hp (thn h4 fun _ s5 ⟨x,H5,I5,r5,y5,st5,fr5⟩=>?_)
  have I5':=I5.pinned (stat fr5) (T.obj _ _ st5)
  refine wpAny_passesOwn hp (thn (hg _ s5 σ3 H5 x u _ I5' r5 (step x H5 y5)) fun _ s6 ⟨σ6,H6,I6,q6⟩=>?_)
  refine wpAny_passesOwn hp (thn (hb _ s6 σ6 H6 _ I6 q6) fun f s7 q7=>?_)
  have again:∀{σ7:St} {H7:Hp},Inv X (pins++pinsAt fp s5.heap) σ7 H7 s7->N σ7 H7->∃m,m<n/\∃i σ' H',Inv X pins σ' H' s7/\tn i s7.heap/\(∀b∈fp,H' b=none)/\W i m σ' H':=fun {σ7 H7} I7 n7=>by
   obtain ⟨m',hm,w7⟩:=hN σ7 H7 n7
   refine ⟨m',hm,i+1,σ7,H7,I7.unpinned,T.keep _ _ _ st5 fun b hb o e=>(I7.pin (b,o) (List.mem_append_right _ (List.mem_append_right _ (mem_pinsAt hb e)))).1,fun b hb=>?_,w7⟩
   obtain ⟨o,e,d⟩:=T.obj _ _ st5 b hb
   exact (I7.pin (b,o) (List.mem_append_right _ (List.mem_append_right _ (mem_pinsAt hb e)))).2.1
  cases f with
  |next=>obtain ⟨σ7,H7,I7,n7⟩:=q7; exact again I7 n7
  |cont=>obtain ⟨σ7,H7,I7,n7⟩:=q7; exact again I7 n7
  |brk=>obtain ⟨σ7,H7,I7,q7⟩:=q7; exact ⟨σ7,H7,I7.unpinned,q7⟩
  |ret v=>obtain ⟨x7,σ7,H7,I7,r7,q7⟩:=q7; exact ⟨x7,σ7,H7,I7.unpinned,r7,q7⟩
end
open PySem PySem.Spec PyProof.Rows
noncomputable abbrev R2:=V->V->Hp->VK->Prop
noncomputable def OpR (X:Cx)(f:Value->Value->Sem Value)(r:R2):Prop:=
 ∀(pins:List (Addr×Obj)) (s:Shared) (σ:St) (H:Hp) (x y:V) (v u:Value) (Q:VK),Inv X pins σ H s->RelV x v->RelV y u->r x y H Q->
  wpAny (model X.prog X.w) X.A (f v u) (EP X pins σ Q) X.xe s
noncomputable def UnR (X:Cx)(f:Value->Sem Value)(r:V->Hp->VK->Prop):Prop:=
 ∀(pins:List (Addr×Obj)) (s:Shared) (σ:St) (H:Hp) (x:V) (v:Value) (Q:VK),Inv X pins σ H s->RelV x v->r x H Q->
  wpAny (model X.prog X.w) X.A (f v) (EP X pins σ Q) X.xe s
noncomputable def CallR (X:Cx)(f:Value)(r:List V->Hp->VK->Prop):Prop:=
 ∀(pins:List (Addr×Obj)) (s:Shared) (σ:St) (H:Hp) (xs:List V) (us:List Value) (Q:VK),Inv X pins σ H s->Vals xs us->r xs H Q->
  wpAny (model X.prog X.w) X.A (call f us) (EP X pins σ Q) X.xe s
noncomputable def tOp (r:R2)(ta tb:TE):TE:=fun σ H Q=>ta σ H fun x H1=>tb σ H1 fun y H2=>r x y H2 Q
noncomputable def tUn (r:V->Hp->VK->Prop)(ta:TE):TE:=fun σ H Q=>ta σ H fun x H1=>r x H1 Q
noncomputable def rI (C:Int->Int->Prop)(g:Int->Int->V):R2:=fun x y H Q=>∃i j,x=.int i/\y=.int j/\C i j/\Q (g i j) H
noncomputable def rI0 (g:Int->Int->V):R2:=fun x y H Q=>∃i j,x=.int i/\y=.int j/\Q (g i j) H
noncomputable def rU (g:Int->V):V->Hp->VK->Prop:=fun x H Q=>∃i,x=.int i/\Q (g i) H
section
variable {X:Cx}{a b c:Expr}{ta tb tc:TE}{pos:Pos}
theorem binT (ha:PE X a ta)(hb:PE X b tb){pins:List (Addr×Obj)}{s:Shared}{σ:St}{H:Hp}{R:V->V->Hp->Prop}(I:Inv X pins σ H s)
  (h:ta σ H fun x H1=>tb σ H1 fun y H2=>R x y H2) {Q:Value->Shared->Prop} {f:Value->Value->Sem Value}
  (hf:∀v u s2 x y H2,Inv X pins σ H2 s2->RelV x v->RelV y u->R x y H2->wpAny (model X.prog X.w) X.A (f v u) Q X.xe s2):
  wpAny (model X.prog X.w) X.A (eval a X.env) (fun v s₁=>wpAny (model X.prog X.w) X.A (eval b X.env) (fun u s₂=>wpAny (model X.prog X.w) X.A (f v u) Q X.xe s₂) X.xe s₁) X.xe s:=by
 refine thn (ha pins s σ H _ I h) fun v s1 hE=>xq2 hE fun x H1 I1 r1 q1=>?_
 refine thn (hb pins s1 σ H1 _ I1 q1) fun u s2 hE=>xq2 hE fun y H2 I2 r2 q2=>?_
 exact hf v u s2 x y H2 I2 r1 r2 q2
theorem pe_op {op:Operator}{r:R2}(ho:OpR X (binaryOp op) r)(ha:PE X a ta)(hb:PE X b tb):PE X (.BinOp a op b pos) (tOp r ta tb):=by
 intro pins s σ H Q I h
 exact wpAny_BinOp (binT ha hb I h fun v u s2 x y H2 I2 rx ry q=>ho pins s2 σ H2 x y v u Q I2 rx ry q)
theorem pe_un {op:UnaryOp}{r:V->Hp->VK->Prop}(ho:UnR X (unaryOp op) r)(ha:PE X a ta):PE X (.UnaryOp op a pos) (tUn r ta):=by
 intro pins s σ H Q I h
 exact UnaryOp_ (thn (ha pins s σ H _ I h) fun v s1 hE=>xq2 hE fun x H1 I1 r1 q1=>ho pins s1 σ H1 x v Q I1 r1 q1)
theorem opI {f:Value->Value->Sem Value}{C:Int->Int->Prop}{g:Int->Int->Int}
  (rule:∀(i j:Int) (t u:Tok) (s:Shared) (Q:Value->Shared->Prop) (E:Value->Shared->Prop),C i j->Q (.int (g i j) s.toks) { s with toks:=s.toks+1 }->wpAny (model X.prog X.w) X.A (f (.int i t) (.int j u)) Q E s):
  OpR X f (rI C fun i j=>.int (g i j)):=by
 intro pins s σ H x y v u Q I rx ry h
 obtain ⟨i,j,rfl,rfl,hc,q⟩:=h
 obtain ⟨t,rfl⟩:=rx
 obtain ⟨t',rfl⟩:=ry
 exact rule i j t t' s _ _ hc ⟨.int (g i j),H,I.tok _,⟨_,rfl⟩,q⟩
theorem opI0 {f:Value->Value->Sem Value}{g:Int->Int->Int}
  (rule:∀(i j:Int) (t u:Tok) (s:Shared) (Q:Value->Shared->Prop) (E:Value->Shared->Prop),Q (.int (g i j) s.toks) { s with toks:=s.toks+1 }->wpAny (model X.prog X.w) X.A (f (.int i t) (.int j u)) Q E s):
  OpR X f (rI0 fun i j=>.int (g i j)):=by
 intro pins s σ H x y v u Q I rx ry h
 obtain ⟨i,j,rfl,rfl,q⟩:=h
 obtain ⟨t,rfl⟩:=rx
 obtain ⟨t',rfl⟩:=ry
 exact rule i j t t' s _ _ ⟨.int (g i j),H,I.tok _,⟨_,rfl⟩,q⟩
theorem opB0 {f:Value->Value->Sem Value}{g:Int->Int->Bool}
  (rule:∀(i j:Int) (t u:Tok) (s:Shared) (Q:Value->Shared->Prop) (E:Value->Shared->Prop),Q (.bool (g i j)) s->wpAny (model X.prog X.w) X.A (f (.int i t) (.int j u)) Q E s):
  OpR X f (rI0 fun i j=>.bl (g i j)):=by
 intro pins s σ H x y v u Q I rx ry h
 obtain ⟨i,j,rfl,rfl,q⟩:=h
 obtain ⟨t,rfl⟩:=rx
 obtain ⟨t',rfl⟩:=ry
 exact rule i j t t' s _ _ ⟨.bl (g i j),H,I,rfl,q⟩
noncomputable def CPow (i j:Int):Prop:=0<=j/\j<=1000000/\i.natAbs<2 ^ 64
theorem op_add:OpR X (binaryOp .Add) (rI0 fun i j=>.int (i+j)):=opI0 fun _ _ _ _ _ _ _ q=>add_int q
theorem op_sub:OpR X (binaryOp .Sub) (rI0 fun i j=>.int (i - j)):=opI0 fun _ _ _ _ _ _ _ q=>sub_int q
theorem op_modN:OpR X (binaryOp .Mod) (rI (fun _ j=>j≠0) fun i j=>.int (i.fmod j)):=opI fun _ _ _ _ _ _ _ hc q=>mod_int' hc q
theorem op_pow:OpR X (binaryOp .Pow) (rI CPow fun i j=>.int (i ^ j.toNat)):=opI fun _ _ _ _ _ _ _ hc q=>pow_int_small hc.1 hc.2.1 hc.2.2 q
theorem unI {f:Value->Sem Value}{g:Int->Int}
  (rule:∀(i:Int) (t:Tok) (s:Shared) (Q:Value->Shared->Prop) (E:Value->Shared->Prop),Q (.int (g i) s.toks) { s with toks:=s.toks+1 }->wpAny (model X.prog X.w) X.A (f (.int i t)) Q E s):
  UnR X f (rU fun i=>.int (g i)):=by
 intro pins s σ H x v Q I rx h
 obtain ⟨i,rfl,q⟩:=h
 obtain ⟨t,rfl⟩:=rx
 exact rule i t s _ _ ⟨.int (g i),H,I.tok _,⟨_,rfl⟩,q⟩
theorem un_neg:UnR X (unaryOp .USub) (rU fun i=>.int (-i)):=unI fun _ _ _ _ _ q=>neg_int q
end
noncomputable def scal:V->V->Bool
 | .non,.non=>true | .non,.int _=>true | .int _,.non=>true | .non,.bl _=>true | .bl _,.non=>true | .non,.str _=>true | .str _,.non=>true
 | .int _,.int _=>true | .bl _,.bl _=>true | .str _,.str _=>true | .byt _,.byt _=>true
 | .int _,.str _=>true | .str _,.int _=>true | .bl _,.str _=>true | .str _,.bl _=>true
 |_,_=>false
noncomputable def rEq:R2:=fun x y H Q=>scal x y=true/\Q (.bl (decide (x=y))) H
noncomputable def rNe:R2:=fun x y H Q=>scal x y=true/\Q (.bl (!decide (x=y))) H
theorem dec_int {i j:Int}:decide (V.int i=V.int j)=(i == j):=by
 rw [Bool.eq_iff_iff]
 simp
theorem dec_bl {i j:Bool}:decide (V.bl i=V.bl j)=(i == j):=by
 rw [Bool.eq_iff_iff]
 simp
theorem dec_str {i j:Str}:decide (V.str i=V.str j)=(i == j):=by
 rw [Bool.eq_iff_iff]
 simp
theorem dec_byt {i j:Array UInt8}:decide (V.byt i=V.byt j)=(i.toList == j.toList):=by
 rw [Bool.eq_iff_iff]
 cases i
 cases j
 simp
section
variable {X:Cx}{a b c:Expr}{ta tb tc:TE}{pos:Pos}
theorem fin_bl {pins:List (Addr×Obj)}{σ:St}{H:Hp}{s:Shared}{Q:VK}{k k':Bool}(I:Inv X pins σ H s)(q:Q (.bl k) H)(e:k=k'):EP X pins σ Q (.bool k') s:=by
 subst e
 exact ⟨.bl k,H,I,rfl,q⟩
theorem op_eq:OpR X (compareOp .Eq) rEq:=by
 intro pins s σ H x y v u Q I rx ry h
 obtain ⟨hs,q⟩:=h
 cases x with
 |non=>
  cases rx
  cases y with
  |non=>cases ry; exact PySem.EqNone.eq_none_none (fin_bl I q (by simp))
  |bl j=>cases ry; exact PySem.EqNone.eq_none_bool (fin_bl I q (by simp))
  |int j=>obtain ⟨t',rfl⟩:=ry; exact PySem.EqNone.eq_none_int (fin_bl I q (by simp))
  |str j=>obtain ⟨t',rfl⟩:=ry; exact PySem.EqNone.eq_none_str (fin_bl I q (by simp))
  |_=>exact absurd (show false=true from hs) Bool.false_ne_true
 |bl i=>
  cases rx
  cases y with
  |non=>cases ry; exact PySem.EqNone.eq_bool_none (fin_bl I q (by simp))
  |bl j=>cases ry; exact eq_bool (fin_bl I q dec_bl)
  |str j=>obtain ⟨t',rfl⟩:=ry; exact PySem.EqMixed.eq_bool_str (fin_bl I q (by simp))
  |_=>exact absurd (show false=true from hs) Bool.false_ne_true
 |int i=>
  obtain ⟨t,rfl⟩:=rx
  cases y with
  |non=>cases ry; exact PySem.EqNone.eq_int_none (fin_bl I q (by simp))
  |int j=>obtain ⟨t',rfl⟩:=ry; exact eq_int (fin_bl I q dec_int)
  |str j=>obtain ⟨t',rfl⟩:=ry; exact PySem.EqMixed.eq_int_str (fin_bl I q (by simp))
  |_=>exact absurd (show false=true from hs) Bool.false_ne_true
 |str i=>
  obtain ⟨t,rfl⟩:=rx
  cases y with
  |non=>cases ry; exact PySem.EqNone.eq_str_none (fin_bl I q (by simp))
  |bl j=>cases ry; exact PySem.EqMixed.eq_str_bool (fin_bl I q (by simp))
  |int j=>obtain ⟨t',rfl⟩:=ry; exact PySem.EqMixed.eq_str_int (fin_bl I q (by simp))
  |str j=>obtain ⟨t',rfl⟩:=ry; exact eq_str (fin_bl I q dec_str)
  |_=>exact absurd (show false=true from hs) Bool.false_ne_true
 |byt i=>
  obtain ⟨t,rfl⟩:=rx
  cases y with
  |byt j=>obtain ⟨t',rfl⟩:=ry; exact PySem.W.eq_bytes (fin_bl I q dec_byt)
  |_=>exact absurd (show false=true from hs) Bool.false_ne_true
 |_=>cases y <;> exact absurd (show false=true from hs) Bool.false_ne_true
theorem op_ne:OpR X (compareOp .NotEq) rNe:=by
 intro pins s σ H x y v u Q I rx ry h
 obtain ⟨hs,q⟩:=h
 cases x with
 |non=>
  cases rx
  cases y with
  |non=>cases ry; exact PySem.EqNone.ne_none_none (fin_bl I q (by simp))
  |bl j=>cases ry; exact PySem.EqNone.ne_none_bool (fin_bl I q (by simp))
  |int j=>obtain ⟨t',rfl⟩:=ry; exact PySem.EqNone.ne_none_int (fin_bl I q (by simp))
  |str j=>obtain ⟨t',rfl⟩:=ry; exact PySem.EqNone.ne_none_str (fin_bl I q (by simp))
  |_=>exact absurd (show false=true from hs) Bool.false_ne_true
 |bl i=>
  cases rx
  cases y with
  |non=>cases ry; exact PySem.EqNone.ne_bool_none (fin_bl I q (by simp))
  |bl j=>cases ry; exact ne_bool (fin_bl I q (congrArg not dec_bl))
  |str j=>obtain ⟨t',rfl⟩:=ry; exact PySem.EqMixed.ne_bool_str (fin_bl I q (by simp))
  |_=>exact absurd (show false=true from hs) Bool.false_ne_true
 |int i=>
  obtain ⟨t,rfl⟩:=rx
  cases y with
  |non=>cases ry; exact PySem.EqNone.ne_int_none (fin_bl I q (by simp))
  |int j=>obtain ⟨t',rfl⟩:=ry; exact ne_int (fin_bl I q (congrArg not dec_int))
  |str j=>obtain ⟨t',rfl⟩:=ry; exact PySem.EqMixed.ne_int_str (fin_bl I q (by simp))
  |_=>exact absurd (show false=true from hs) Bool.false_ne_true
 |str i=>
  obtain ⟨t,rfl⟩:=rx
  cases y with
  |non=>cases ry; exact PySem.EqNone.ne_str_none (fin_bl I q (by simp))
  |bl j=>cases ry; exact PySem.EqMixed.ne_str_bool (fin_bl I q (by simp))
  |int j=>obtain ⟨t',rfl⟩:=ry; exact PySem.EqMixed.ne_str_int (fin_bl I q (by simp))
  |str j=>obtain ⟨t',rfl⟩:=ry; exact ne_str (fin_bl I q (congrArg not dec_str))
  |_=>exact absurd (show false=true from hs) Bool.false_ne_true
 |byt i=>
  obtain ⟨t,rfl⟩:=rx
  cases y with
  |byt j=>obtain ⟨t',rfl⟩:=ry; exact PySem.W.ne_bytes (fin_bl I q (congrArg not dec_byt))
  |_=>exact absurd (show false=true from hs) Bool.false_ne_true
 |_=>cases y <;> exact absurd (show false=true from hs) Bool.false_ne_true
theorem op_lt:OpR X (compareOp .Lt) (rI0 fun i j=>.bl (decide (i<j))):=opB0 fun _ _ _ _ _ _ _ q=>lt_int q
theorem op_le:OpR X (compareOp .LtE) (rI0 fun i j=>.bl (decide (i<=j))):=opB0 fun _ _ _ _ _ _ _ q=>le_int q
theorem op_gt:OpR X (compareOp .Gt) (rI0 fun i j=>.bl (decide (j<i))):=opB0 fun _ _ _ _ _ _ _ q=>gt_int q
theorem op_isN:OpR X (compareOp .Is) (fun x y H Q=>y=.non/\Q (.bl (decide (x=.non))) H):=by
 intro pins s σ H x y v u Q I rx ry h
 obtain ⟨rfl,q⟩:=h
 cases ry
 refine is_none_gen (fin_bl I q ?_)
 cases x <;> first
  |(cases rx; rfl)
  |(obtain ⟨t,rfl⟩:=rx; rfl)
theorem op_notN:OpR X (compareOp .IsNot) (fun x y H Q=>y=.non/\Q (.bl (!decide (x=.non))) H):=by
 intro pins s σ H x y v u Q I rx ry h
 obtain ⟨rfl,q⟩:=h
 cases ry
 refine isnot_none_gen (fin_bl I q ?_)
 cases x <;> first
  |(cases rx; rfl)
  |(obtain ⟨t,rfl⟩:=rx; rfl)
theorem nomark (b:Expr){op:CmpOp}(h:op≠.In:=by decide)(h2:op≠.NotIn:=by decide):behindInMarks op b=false:=by
 have e1:(op == CmpOp.In)=false:=by cases op <;> first | rfl | exact absurd rfl h
 have e2:(op == CmpOp.NotIn)=false:=by cases op <;> first | rfl | exact absurd rfl h2
 cases b <;> simp [behindInMarks,e1,e2]
theorem pe_cmpR {op:CmpOp}{r:R2}(ho:OpR X (compareOp op) r)(ha:PE X a ta)(hb:PE X b tb)(hm:behindInMarks op b=false):PE X (.Compare a [op] [b] pos) (tOp r ta tb):=by
 intro pins s σ H Q I h
 exact wpAny_Compare1 (binT ha hb I h fun v u s2 x y H2 I2 rx ry q=>ho pins s2 σ H2 x y v u Q I2 rx ry q) hm
noncomputable def tTest (t:TE):TT:=fun σ H Q=>t σ H fun x H'=>∃k,x=.bl k/\Q k H'
theorem pt_cmpR {op:CmpOp}{r:R2}(ho:OpR X (compareOp op) r)(ha:PE X a ta)(hb:PE X b tb)(hm:behindInMarks op b=false):PT X (.Compare a [op] [b] pos) (tTest (tOp r ta tb)):=by
 intro pins s σ H Q I h
 refine wpAny_isTrue_Compare1 (thn (ha pins s σ H _ I h) fun v s1 hE=>xq2 hE fun x H1 I1 r1 q1=>thn (hb pins s1 σ H1 _ I1 q1) fun u s2 hE=>xq2 hE fun y H2 I2 r2 q2=>
  thn (ho pins s2 σ H2 x y v u _ I2 r1 r2 q2) fun c s3 ⟨z,H3,I3,r3,k,e,q3⟩=>?_) hm
 subst e
 cases r3
 exact wpAny_truthy_bool ⟨H3,I3,q3⟩
theorem line63:(sizeLine:Nat)<2 ^ 63:=by rw [sizeLine_eq]; decide
theorem op_add_str:OpR X (binaryOp .Add) (fun x y H Q=>∃i j,x=.str i/\y=.str j/\i.length+j.length<=sizeLine/\Q (.str (i++j)) H):=by
 intro pins s σ H x y v u Q I rx ry h
 obtain ⟨i,j,rfl,rfl,hz,q⟩:=h
 obtain ⟨t,rfl⟩:=rx
 obtain ⟨t',rfl⟩:=ry
 exact add_str (fun t' tk=>⟨.str (i++j),H,I.tok _,⟨_,rfl⟩,q⟩) hz
theorem vals1 {x:V}{us:List Value}(r:Vals [x] us):∃u,us=[u]/\RelV x u:=by
 cases r with
 |cons r1 r2=>cases r2; exact ⟨_,rfl,r1⟩
theorem vals2 {x y:V}{us:List Value}(r:Vals [x,y] us):∃u w',us=[u,w']/\RelV x u/\RelV y w':=by
 cases r with
 |cons r1 r2=>
  cases r2 with
  |cons r3 r4=>cases r4; exact ⟨_,_,rfl,r1,r3⟩
theorem call_abs:CallR X (.builtin "abs") (fun xs H Q=>∃i,xs=[.int i]/\Q (.int (if i<0 then -i else i)) H):=by
 intro pins s σ H xs us Q I r h
 obtain ⟨i,rfl,q⟩:=h
 obtain ⟨u,rfl,t,rfl⟩:=vals1 r
 exact call_abs_int fun u tk=>⟨.int (if i<0 then -i else i),H,I.tok _,⟨_,rfl⟩,q⟩
end
open PySem PySem.Spec PyProof.Rows
structure ObjM (h:Heap)(x dx C:Addr)(mA:Str->Option Value):Prop where
 obj:h.get? x=some (PySem.W.instObj C dx)
 ns:h.Ns1 dx mA
 ne:dx≠x
theorem lookIn_ns {h:Heap}{dx:Addr}{mA:Str->Option Value}(n:h.Ns1 dx mA):∃od,h.get? dx=some od/\∀name,PySem.W.lookIn name od=some (mA name):=by
 obtain ⟨o,es,ep,ho,hd,hk,_,hm⟩:=n
 refine ⟨o,ho,fun name=>?_⟩
 have e:=hm name
 unfold nsFind findBy at e
 rw [← Array.find?_toList] at e
 unfold PySem.W.lookIn
 rw [hd]
 dsimp only
 split
 ·rename_i y q
  rw [q] at e
  exact congrArg some e
 ·rename_i q
  rw [q] at e
  have a:es.toList.any (·.refKey)=false:=by
   rw [List.any_eq_false]
   intro y hy
   obtain ⟨z,t,hkey⟩:=hk y (Array.mem_toList_iff.mp hy)
   simp [DictEntry.refKey,hkey]
  have a':¬es.toList.any (·.refKey)=true:=by rw [a]; exact Bool.false_ne_true
  rw [if_neg a']
  exact congrArg some e
theorem ObjM.look {h:Heap}{x dx C:Addr}{mA:Str->Option Value}(I:ObjM h x dx C mA):∃od,PySem.W.InstAt h x (PySem.W.instObj C dx) C (some od)/\∀name,PySem.W.lookIn name od=some (mA name):=
 let ⟨od,ho,hl⟩:=lookIn_ns I.ns
 ⟨od,⟨I.obj,rfl,rfl,ho⟩,hl⟩
section
variable {prog:Program}{w:World}{A:Around}{E:Value->Shared->Prop}{s:Shared}{K:PySem.W.Frag}{x dx C f:Addr}{mA:Str->Option Value}{name:Str}{v:Value}
theorem get_map {expr:Bool}{Q:Value->Shared->Prop}(X:K.In s.heap)(I:ObjM s.heap x dx C mA)(hg:PySem.W.plainGet K C name=true)(hh:PySem.W.hasDictIn K C=true)
  (ha:PySem.W.findIn K (.ref C) name=some none) (hv:mA name=some v) (hv':PySem.W.handedIn v=true) (h:Q v { s with toks:=s.toks+1 }):
  wpAny (model prog w) A (getAttr (.ref x) name expr) Q E s:=by
 obtain ⟨od,J,hl⟩:=I.look
 exact PySem.W.get_value X J (PySem.W.plainGet_of hg).1 (PySem.W.findObj_own hh ha rfl (by rw [hl,hv])) hv' h
theorem get_meth {pl:Sem Bool}{Q:Value×List Value->Shared->Prop}(X:K.In s.heap)(I:ObjM s.heap x dx C mA)(hg:PySem.W.plainGet K C name=true)
  (hf:PySem.W.findIn K (.ref C) name=some (some (.ref f))) (ht:PySem.W.isFn K (.ref f)=true) (hv:mA name=none) (h:Q (.ref f,[.ref x]) s):
  wpAny (model prog w) A (getMethod (.ref x) name pl) Q E s:=by
 obtain ⟨od,J,hl⟩:=I.look
 exact PySem.W.method_fn X J (PySem.W.plainGet_of hg).1 (PySem.W.plainGet_of hg).2 hf (beq_iff_eq.mp ht) (by show (PySem.W.lookIn name od).map (·.isSome)=some false; rw [hl,hv]; rfl) h
theorem set_map {ns:List Str}{Q:Unit->Shared->Prop}(X:K.In s.heap)(I:ObjM s.heap x dx C mA)
  (hs:PySem.W.findIn K (.ref C) "__setattr__" = some (some (.builtin "object.__setattr__"))) (hp:PySem.W.plainOver K C=true) (ht:PySem.W.takerIn K C name=some none) (hh:PySem.W.hasDictIn K C=true)
  (hw:PySem.Within mA ns) (hsz:ns.length<=sizeLine)
  (h:∀h',ObjM h' x dx C (fun y=>if y=name then some v else mA y)->Heap.SameBut dx s.heap h'->Q () { s with heap:=h',toks:=s.toks+2 }):
  wpAny (model prog w) A (setAttr (.ref x) name v) Q E s:=by
 obtain ⟨od,J,hl⟩:=I.look
 refine PySem.W.set_plain X J hs (PySem.W.osa_open (s:={ s with toks:=s.toks+1 }) (r:=none) X J hp ht fun b=>?_)
 obtain ⟨cd,hc,hd'⟩:=PySem.W.any_some hh
 have hx:s.heap.get? x=some ⟨.ref C,some dx,.plain,#[]⟩:=I.obj
 refine wpAny_bind (wpAny_pure (wpAny_bind (wpAny_bind (wpAny_loadPart hx (wpAny_bind (PySem.W.Looks.here (s:={ s with toks:=s.toks+1 }) (PySem.W.looks_clsIn X hc) ?_))))))
 rw [hd']
 refine wpAny_pure (a:=some dx) (wpAny_bind (wpAny_pure (wpAny_bind ?_)))
 refine wpAny_nsSet1 (s:={ s with toks:=s.toks+1 }) I.ns fun h' hn2 hs2=>?_
 obtain ⟨oD,esD,epD,hoD,hdD,hcD⟩:=hn2.count (PySem.Within.cons name v hw)
 refine wpAny_bind (wpAny_lookBehind hoD (by rw [hdD]; exact pastItsLine_dict (Nat.le_trans hcD (by rw [List.length_cons]; omega))) ?_)
 exact wpAny_pure (h _ ⟨(hs2.2 _ (Ne.symm I.ne)).trans I.obj,hn2,I.ne⟩ hs2)
theorem make_map {R:Result->Shared->Prop}{vs:List Value}{kw:List (Str×Value)}(X:K.In s.heap)(hm:PySem.W.makesIn K C=true)
  (hi:PySem.W.findIn K (.ref C) "__init__" = some (some (.ref f))) (hf:PySem.W.typeIn K (.ref f)=some (.type "function"))
  (h:codeAny (model prog w) (A.under (.builtin "type.__call__" ⟨.ref C::vs,kw⟩)) (.call (.ref f) ⟨.ref (s.heap.objs.size+1)::vs,kw⟩) (PySem.W.InitBack (s.heap.objs.size+1) R)
   { s with heap:=(s.heap.push PySem.W.emptyDict).push (PySem.W.instObj C s.heap.objs.size) }):
  codeAny (model prog w) A (.call (.ref C) ⟨vs,kw⟩) R s:=by
 obtain ⟨hh,g,d,t,os⟩:=s
 exact PySem.W.make_core (PySem.W.makes_of X hm) (PySem.W.looks_findIn X hi) (fun self=>PySem.W.bind_fn X self hf) (.inl rfl) h
end
noncomputable def putF (f:Str)(v:V):List (Str×V)->List (Str×V)
 |[]=>[(f,v)]
 |(g,x)::r=>if g=f then (g,v)::r else (g,x)::putF f v r
theorem lookup_putF (f g:Str)(v:V):∀fs:List (Str×V),(putF f v fs).lookup g=if g=f then some v else fs.lookup g
 |[]=>by
  show List.lookup g [(f,v)]=_
  by_cases h:g=f
  ·have hb:(g == f)=true:=beq_iff_eq.mpr h
   simp only [List.lookup,hb,if_pos h]
  ·have hb:(g == f)=false:=beq_eq_false_iff_ne.mpr h
   simp only [List.lookup,hb,if_neg h]
 |(k,x)::r=>by
  have ih:=lookup_putF f g v r
  rw [show putF f v ((k,x)::r)=(if k=f then (k,v)::r else (k,x)::putF f v r) from rfl]
  by_cases hk:k=f
  ·rw [if_pos hk]
   by_cases h:g=k
   ·have hb:(g == k)=true:=beq_iff_eq.mpr h
    simp only [List.lookup,hb,if_pos (h.trans hk)]
   ·have hb:(g == k)=false:=beq_eq_false_iff_ne.mpr h
    simp only [List.lookup,hb,if_neg (fun e:g=f=>h (e.trans hk.symm))]
  ·rw [if_neg hk]
   by_cases h:g=k
   ·have hb:(g == k)=true:=beq_iff_eq.mpr h
    simp only [List.lookup,hb,if_neg (fun e:g=f=>hk (h.symm.trans e))]
   ·have hb:(g == k)=false:=beq_eq_false_iff_ne.mpr h
    simp only [List.lookup,hb]
    exact ih
theorem keys_putF (f:Str)(v:V):∀fs:List (Str×V),f∈(putF f v fs).map (·.1)/\∀g,g∈fs.map (·.1)->g∈(putF f v fs).map (·.1)
 |[]=>⟨by simp [putF],fun g h=>by simp at h⟩
 |(k,x)::r=>by
  obtain ⟨i1,i2⟩:=keys_putF f v r
  rw [show putF f v ((k,x)::r)=(if k=f then (k,v)::r else (k,x)::putF f v r) from rfl]
  by_cases hk:k=f
  ·rw [if_pos hk]
   subst hk
   exact ⟨by simp,fun g h=>by simpa using h⟩
  ·rw [if_neg hk]
   refine ⟨?_,fun g h=>?_⟩
   ·rw [List.map_cons]
    exact List.mem_cons_of_mem _ i1
   ·rw [List.map_cons] at h ⊢
    rcases List.mem_cons.mp h with e | e
    ·exact List.mem_cons.mpr (.inl e)
    ·exact List.mem_cons_of_mem _ (i2 g e)
theorem length_putF (f:Str)(v:V):∀fs:List (Str×V),(putF f v fs).length<=fs.length+1
 |[]=>by simp [putF]
 |(k,x)::r=>by
  have ih:=length_putF f v r
  rw [show putF f v ((k,x)::r)=(if k=f then (k,v)::r else (k,x)::putF f v r) from rfl]
  by_cases hk:k=f
  ·rw [if_pos hk,List.length_cons,List.length_cons]; omega
  ·rw [if_neg hk,List.length_cons,List.length_cons]; omega
theorem RelO.some_of {v:V}{o:Option Value}(r:RelO (some v) o):∃u,o=some u/\RelV v u:=by
 cases o with
 |none=>exact (show False from r).elim
 |some u=>exact ⟨u,rfl,r⟩
theorem RelO.none_of {o:Option Value}(r:RelO none o):o=none:=by
 cases o with
 |none=>rfl
 |some u=>exact (show False from r).elim
theorem handed_of {v:V}{u:Value}(r:RelV v u):PySem.W.handedIn u=true:=by
 cases v with
 |non=>cases (show u=Value.none from r); rfl
 |bl b=>cases (show u=Value.bool b from r); rfl
 |int i=>obtain ⟨t,e⟩:=(show ∃t,u=Value.int i t from r); cases e; rfl
 |str x=>obtain ⟨t,e⟩:=(show ∃t,u=Value.str x t from r); cases e; rfl
 |byt b=>obtain ⟨t,e⟩:=(show ∃t,u=Value.bytes b t from r); cases e; rfl
 |flt b=>obtain ⟨t,e⟩:=(show ∃t,u=Value.float b t from r); cases e; rfl
 |ref a=>cases (show u=Value.ref a from r); rfl
 |ty n=>cases (show u=Value.type n from r); rfl
section
variable {P:Program}{w:World}{H H':Hp}{h h':Heap}{a C dx:Addr}{fs fs':List (Str×V)}
theorem ins_get (hok:HOk P w H h)(e:H a=some (.ins C dx fs)):∃mA,ObjM h a dx C mA/\(∀f,RelO (fs.lookup f) (mA f))/\PySem.Within mA (fs.map (·.1))/\fs.length<=1000/\H dx=some (.own a):=by
 obtain ⟨d,z,ne,ob,mA,n,r,q⟩:=(show ObjOk P w H h a (.ins C dx fs) from hok a _ e)
 exact ⟨mA,⟨ob,n,ne⟩,r,q,z,d⟩
end
structure Cls (K:PySem.W.Frag)(C:Addr):Prop where
 pg:PySem.W.plainGet K C Str.empty=true
 hd:PySem.W.hasDictIn K C=true
 po:PySem.W.plainOver K C=true
 sa:PySem.W.findIn K (.ref C) "__setattr__" = some (some (.builtin "object.__setattr__"))
theorem Cls.get {K:PySem.W.Frag}{C:Addr}(c:Cls K C)(f:Str):PySem.W.plainGet K C f=true:=c.pg
noncomputable def NoAttr (K:PySem.W.Frag)(C:Addr)(f:Str):Prop:=PySem.W.findIn K (.ref C) f=some none
theorem NoAttr.taker {K:PySem.W.Frag}{C:Addr}{f:Str}(n:NoAttr K C f):PySem.W.takerIn K C f=some none:=by
 unfold PySem.W.takerIn
 rw [show PySem.W.findIn K (.ref C) f=some none from n]
 rfl
structure Meth (K:PySem.W.Frag)(C:Addr)(m:Str)(f:Addr):Prop where
 at_:PySem.W.findIn K (.ref C) m=some (some (.ref f))
 fn:PySem.W.isFn K (.ref f)=true
 kp:PySem.W.keepIn K (.ref f)=true
section
variable {X:Cx}{pins:List (Addr×Obj)}{σ:St}{H:Hp}{s:Shared}{a C dx:Addr}{fs:List (Str×V)}{f:Str}{v:V}{A:Around}{E:Value->Shared->Prop}
theorem getattr_ok {b:Bool}{Q:Value->Shared->Prop}(I:Inv X pins σ H s)(e:H a=some (.ins C dx fs))(c:Cls X.K C)(n:NoAttr X.K C f)(l:fs.lookup f=some v)
  (h:∀u s',Inv X pins σ H s'->RelV v u->Q u s'):wpAny (model X.prog X.w) A (getAttr (.ref a) f b) Q E s:=by
 obtain ⟨mA,O,r,_,_,_⟩:=ins_get I.hok e
 obtain ⟨u,hu,ru⟩:=RelO.some_of (v:=v) (o:=mA f) (by rw [← l]; exact r f)
 exact get_map I.kIn O (c.get f) c.hd n hu (handed_of ru) (h u _ (I.tok _) ru)
theorem getmeth_ok {m:Str}{g:Addr}{pl:Sem Bool}{Q:Value×List Value->Shared->Prop}(I:Inv X pins σ H s)(e:H a=some (.ins C dx fs))(c:Cls X.K C)(k:Meth X.K C m g)(l:fs.lookup m=none)
  (h:Q (.ref g,[.ref a]) s):wpAny (model X.prog X.w) A (getMethod (.ref a) m pl) Q E s:=by
 obtain ⟨mA,O,r,_,_,_⟩:=ins_get I.hok e
 have hn:mA m=none:=RelO.none_of (by rw [← l]; exact r m)
 exact get_meth I.kIn O (c.get m) k.at_ k.fn hn h
theorem setattr_ok {y:V}{u:Value}{Q:Unit->Shared->Prop}(I:Inv X pins σ H s)(e:H a=some (.ins C dx fs))(c:Cls X.K C)(n:NoAttr X.K C f)(hl:fs.length<1000)(ry:RelV y u)
  (h:∀s',Inv X pins σ (upd H a (.ins C dx (putF f y fs))) s'->Q () s'):wpAny (model X.prog X.w) A (setAttr (.ref a) f u) Q E s:=by
 obtain ⟨mA,O,r,wi,_,ho⟩:=ins_get I.hok e
 have hz:(fs.map (·.1)).length<=sizeLine:=by rw [List.length_map,sizeLine_eq]; omega
 refine set_map I.kIn O c.sa c.po n.taker c.hd wi hz fun h' O' sb=>h _ ?_
 have hd:∃o,h'.get? dx=some o:=let ⟨o,_,_,e',_⟩:=O'.ns; ⟨o,e'⟩
 refine I.write (x:=a) (e:=dx) (by rw [e]; exact True.intro) (.inr ho) (fun b q hb z=>(sb.2 b hb).trans z) hd ?_
 refine ⟨by rw [upd_ne O.ne]; exact ho,?_,O.ne,O'.obj,_,O'.ns,fun g=>?_,fun g hg=>?_⟩
 ·have:=length_putF f y fs; omega
 ·show RelO ((putF f y fs).lookup g) (if g=f then some u else mA g)
  rw [lookup_putF]
  by_cases q:g=f
  ·rw [if_pos q,if_pos q]; exact ry
  ·rw [if_neg q,if_neg q]; exact r g
 ·by_cases q:g=f
  ·rw [q]; exact (keys_putF f y fs).1
  ·refine (keys_putF f y fs).2 g (wi g fun z=>hg ?_)
   show (if g=f then some u else mA g)=none
   rw [if_neg q]; exact z
theorem Inv.made (I:Inv X pins σ H s):Inv X pins σ (upd (upd H s.heap.objs.size (.own (s.heap.objs.size+1))) (s.heap.objs.size+1) (.ins C s.heap.objs.size []))
  { s with heap:=(s.heap.push PySem.W.emptyDict).push (PySem.W.instObj C s.heap.objs.size) }:=by
 have e1:(s.heap.push PySem.W.emptyDict).get? s.heap.objs.size=some PySem.W.emptyDict:=Heap.get?_push_size s.heap rfl
 have e2:((s.heap.push PySem.W.emptyDict).push (PySem.W.instObj C s.heap.objs.size)).get? (s.heap.objs.size+1)=some (PySem.W.instObj C s.heap.objs.size):=by
  have:=Heap.get?_push_size (s.heap.push PySem.W.emptyDict) (o:=PySem.W.instObj C s.heap.objs.size) rfl
  rwa [Heap.size_push] at this
 have e3:(s.heap.push PySem.W.emptyDict).Ns s.heap.objs.size (fun _=>none):=⟨PySem.W.emptyDict,#[],_,e1,rfl,(fun e he=>absurd he (by simp)),fun _=>rfl⟩
 have I1:=I.laid (a:=s.heap.objs.size) (o:=.own (s.heap.objs.size+1)) (h':=s.heap.push PySem.W.emptyDict) (t':=s.toks) (fun b u q=>Heap.get?_push_of_some _ q) (Nat.le_refl _) ⟨_,e1⟩
 refine I1.laid (a:=s.heap.objs.size+1) (o:=.ins C s.heap.objs.size []) (t':=s.toks) (fun b u q=>Heap.get?_push_of_some _ q) (Nat.le_of_eq (Heap.size_push _ _)) ?_
 have ne:s.heap.objs.size≠s.heap.objs.size+1:=Nat.ne_of_lt (Nat.lt_succ_self _)
 refine ⟨by rw [upd_ne ne,upd_same],Nat.zero_le _,ne,e2,fun _=>none,(Heap.Ns1.of_empty e3).at fun o q=>Heap.get?_push_of_some _ q,fun _=>True.intro,fun y hy=>absurd rfl hy⟩
theorem attr_of {prog:Program}{w:World}{env:Env}{e:Expr}{f:Str}{pos:Pos}{s:Shared}{Q:Value->Shared->Prop}(hb:attributeBase e f env (eval e env)=eval e env)
  (h:wpAny (model prog w) A (eval e env) (fun o s₁=>wpAny (model prog w) A (getAttr o f true) Q E s₁) E s):wpAny (model prog w) A (eval (.Attribute e f pos) env) Q E s:=
 Attribute_any_ h (by rw [arm_eval_Attribute,hb])
end
noncomputable def tFld (K:PySem.W.Frag)(ta:TE)(f:Str):TE:=fun σ H Q=>ta σ H fun x H1=>∃a C dx fs v,x=.ref a/\H1 a=some (.ins C dx fs)/\Cls K C/\NoAttr K C f/\fs.lookup f=some v/\Q v H1
noncomputable def sFld (K:PySem.W.Frag)(ta tv:TE)(f:Str):TS:=fun D σ H=>tv σ H fun y H1=>ta σ H1 fun x H2=>∃a C dx fs,x=.ref a/\H2 a=some (.ins C dx fs)/\Cls K C/\NoAttr K C f/\fs.length<1000/\
 D.nx σ (upd H2 a (.ins C dx (putF f y fs)))
section
variable {X:Cx}{o e value:Expr}{f:Str}{pos pos' tpos:Pos}{ta tv:TE}
theorem pe_fld (he:PE X e ta)(hb:attributeBase e f X.env (eval e X.env)=eval e X.env):PE X (.Attribute e f pos) (tFld X.K ta f):=by
 intro pins s σ H Q I h
 refine attr_of hb (thn (he pins s σ H _ I h) fun u s1 ⟨x,H1,I1,rx,a,C,dx,fs,v,ex,ea,c,n,l,q⟩=>?_)
 subst ex
 obtain rfl:u=Value.ref a:=rx
 exact getattr_ok I1 ea c n l fun u' s2 I2 ru=>⟨v,H1,I2,ru,q⟩
theorem ps_fld (ha:PE X o ta)(hv:PE X value tv)(hs:swapsWith value (some (.Attribute o f pos')) pos.line X.env=pure false):PS X (.Assign [.Attribute o f pos'] value pos) (sFld X.K ta tv f):=by
 intro pins s σ H D I h
 refine plainObj_wpAny_Assign_Attribute (thn (hv pins s σ H _ I h) fun u s1 hE=>xq2 hE fun y H1 I1 ry q=>thn (ha pins s1 σ H1 _ I1 q) fun ov s2 ⟨x,H2,I2,rx,a,C,dx,fs,ex,ea,c,n,l,q2⟩=>?_) hs
 subst ex
 obtain rfl:ov=Value.ref a:=rx
 exact setattr_ok I2 ea c n l ry fun s3 I3=>⟨σ,_,I3,q2⟩
theorem methcall_of {pl:Sem Bool}{m:Str}{apos:Pos}{args:List Expr}{pins:List (Addr×Obj)}{s:Shared}{σ:St}{H:Hp}{Q:Value->Shared->Prop}{te:TE}(he:PE X e te)(I:Inv X pins σ H s)
  (h:te σ H fun x H1=>∃a C dx fs g,x=.ref a/\H1 a=some (.ins C dx fs)/\Cls X.K C/\Meth X.K C m g/\fs.lookup m=none/\
   ∀s1,Inv X pins σ H1 s1->wpAny (model X.prog X.w) X.A (callWith pos (.ref g) [.ref a] (backTo pos (starEach args X.env)) (backToKw pos (keywordEach [] X.env))) Q X.xe s1)
  (ht:eval (.Call (.Attribute e m apos) args [] pos) X.env=(do
   let ov ← eval e X.env
   standAt apos.atName
   let (f,first) ← holding [ov] (getMethod ov m pl)
   callWith pos f first (backTo pos (starEach args X.env)) (backToKw pos (keywordEach [] X.env)))):
  wpAny (model X.prog X.w) X.A (eval (.Call (.Attribute e m apos) args [] pos) X.env) Q X.xe s:=by
 refine PySem.W.methodCall_KW (pl:=pl) (thn (he pins s σ H _ I h) fun u s1 ⟨x,H1,I1,rx,a,C,dx,fs,g,ex,ea,c,k,l,q⟩=>?_) ht
 subst ex
 obtain rfl:u=Value.ref a:=rx
 exact getmeth_ok I1 ea c k l (q s1 I1)
end
section
variable {X:Cx}{pins:List (Addr×Obj)}{σ:St}{H:Hp}{s:Shared}{A:Around}{E:Value->Shared->Prop}{Q:Value->Shared->Prop}{c:Value}{b:Bool}
inductive TyOf (K:PySem.W.Frag)(H:Hp):V->Value->Prop where
 |non:TyOf K H .non (.type "NoneType")
 |bl (x:Bool):TyOf K H (.bl x) (.type "bool")
 |int (i:Int):TyOf K H (.int i) (.type "int")
 |str (x:Str):TyOf K H (.str x) (.type "str")
 |flt (x:UInt64):TyOf K H (.flt x) (.type "float")
 |lst {a:Addr} {xs:List V} (e:H a=some (.lst xs)):TyOf K H (.ref a) (.type "list")
 |frz {a:Addr} {o:Obj} {xs:List V} (e:H a=some (.frz o (.lst xs))):TyOf K H (.ref a) (.type "list")
 |tup {a:Addr} {xs:List V} (e:H a=some (.tup xs)):TyOf K H (.ref a) (.type "tuple")
 |dK {a:Addr} {kvs:List (Key×V)} (e:H a=some (.dK kvs)):TyOf K H (.ref a) (.type "dict")
 |dT {a:Addr} {T:Addr->List V->Prop} {kvs:List (List Kt×V)} (e:H a=some (.dT T kvs)):TyOf K H (.ref a) (.type "dict")
 |ins {a C dx:Addr} {fs:List (Str×V)} (e:H a=some (.ins C dx fs)) (cl:Cls K C) (ha:PySem.W.findIn K (.ref C) "__class__" = some (some (.builtin "object.__class__")))
   (hn:PySem.W.specialIn K (.builtin "object.__class__") "__get__" = some (some (.builtin "getset_descriptor.__get__"))) (htk:PySem.W.takesIn K (.builtin "object.__class__")=some true)
   (hm:PySem.W.mroIn K C (.type "object")=some true):TyOf K H (.ref a) (.ref C)
theorem isinst_ok {x:V}{u t:Value}(I:Inv X pins σ H s)(rx:RelV x u)(ty:TyOf X.K H x t)(e:PySem.W.kitOne X.K t c=some b)(h:∀tk,Q (.bool b) { s with toks:=tk }):
  wpAny (model X.prog X.w) A (call (.builtin "isinstance") [u,c]) Q E s:=by
 cases ty with
 |non=>cases (show u=Value.none from rx); exact PySem.W.kia_one PySem.W.kitx_none I.kIn True.intro e (fun z=>nomatch z) h
 |bl y=>cases (show u=Value.bool y from rx); exact PySem.W.kia_one PySem.W.kitx_bool I.kIn True.intro e (fun z=>nomatch z) h
 |int i=>obtain ⟨t,q⟩:=(show ∃t,u=Value.int i t from rx); cases q; exact PySem.W.kia_one PySem.W.kitx_int I.kIn True.intro e (fun z=>nomatch z) h
 |str y=>obtain ⟨t,q⟩:=(show ∃t,u=Value.str y t from rx); cases q; exact PySem.W.kia_one PySem.W.kitx_str I.kIn True.intro e (fun z=>nomatch z) h
 |flt y=>obtain ⟨t,q⟩:=(show ∃t,u=Value.float y t from rx); cases q; exact PySem.W.kia_one PySem.W.kitx_float I.kIn True.intro e (fun z=>nomatch z) h
 | @lst a xs ea=>
  cases (show u=Value.ref a from rx)
  obtain ⟨_,_,n,_,h1⟩:=(show ObjOk X.prog X.w H s.heap a (.lst xs) from I.hok a _ ea)
  exact PySem.W.kia_one PySem.W.kitx_list I.kIn ⟨_,h1,rfl⟩ e (fun z=>nomatch z) h
 | @frz a ob xs ea=>
  cases (show u=Value.ref a from rx)
  obtain ⟨_,_,_,n,_,h1⟩:=(show ObjOk X.prog X.w H s.heap a (.frz ob (.lst xs)) from I.hok a _ ea)
  exact PySem.W.kia_one PySem.W.kitx_list I.kIn ⟨_,h1,rfl⟩ e (fun z=>nomatch z) h
 | @tup a xs ea=>
  cases (show u=Value.ref a from rx)
  obtain ⟨_,_,_,p⟩:=(show ObjOk X.prog X.w H s.heap a (.tup xs) from I.hok a _ ea)
  obtain ⟨o,h1,h2,_⟩:=p
  exact PySem.W.kia_one PySem.W.kitx_tuple I.kIn ⟨o,h1,h2⟩ e (fun z=>nomatch z) h
 | @dK a kvs ea=>
  cases (show u=Value.ref a from rx)
  obtain ⟨_,_,vs,_,p⟩:=(show ObjOk X.prog X.w H s.heap a (.dK kvs) from I.hok a _ ea)
  obtain ⟨o,es,ep,h1,h2,_⟩:=p
  exact PySem.W.kia_one PySem.W.kitx_dict I.kIn ⟨o,h1,h2.1⟩ e (fun z=>nomatch z) h
 | @dT a T kvs ea=>
  cases (show u=Value.ref a from rx)
  obtain ⟨_,_,xs,_,o,es,ep,h1,h2,_⟩:=(show ObjOk X.prog X.w H s.heap a (.dT T kvs) from I.hok a _ ea)
  exact PySem.W.kia_one PySem.W.kitx_dict I.kIn ⟨o,h1,h2.1⟩ e (fun z=>nomatch z) h
 | @ins a C dx fs ea cl ha hn htk hm=>
  cases (show u=Value.ref a from rx)
  obtain ⟨mA,O,_⟩:=ins_get I.hok ea
  obtain ⟨od,J,_⟩:=O.look
  exact PySem.W.kia_one (PySem.W.kitx_own (cl.get _) cl.hd ha hn htk hm) I.kIn J e (fun z=>nomatch z) h
end
open PySem PySem.Spec PyProof.Rows
structure Room (k:Nat)(A:Around):Prop where
 hd:A.handled=none
 dp:A.depth+3 * k+5<recursionLimit
 un:A.units+16 * k+200<cLine
 gd:A.guards=some []
theorem Room.mono {j k:Nat}{A:Around}(r:Room k A)(h:j<=k):Room j A:=⟨r.hd,by have:=r.dp; omega,by have:=r.un; omega,r.gd⟩
theorem Room.deeper {k:Nat}{A:Around}(r:Room (k+1) A)(env:Env):Room k (A.deeper env):=
 ⟨r.hd,by have:=r.dp; show A.depth+1+3 * k+5<_; omega,by have:=r.un; show A.units+3+16 * k+200<_; omega,r.gd⟩
theorem Room.in1 {k:Nat}{A:Around}(r:Room (k+1) A):Room k A.in1:=
 ⟨r.hd,by have:=r.dp; show A.depth+3 * k+5<_; omega,by have:=r.un; show A.units+1+16 * k+200<_; omega,r.gd⟩
theorem make_depth {A:Around}{C:Addr}{us:List Value}{kw:List (Str×Value)}:(A.under (.builtin "type.__call__" ⟨.ref C::us,kw⟩)).depth=A.depth+1:=by
 first | rfl | simp [Around.under,Code.weight,Code.isCreation,Code.isGuard,Code.isCaller,Code.frames,Code.isFrame,guardIds]
theorem make_units {A:Around}{C:Addr}{us:List Value}{kw:List (Str×Value)}:(A.under (.builtin "type.__call__" ⟨.ref C::us,kw⟩)).units=A.units+1:=by
 first | rfl | simp [Around.under,Code.cUnits,Code.frames,Code.isFrame]
theorem Room.make {k:Nat}{A:Around}(r:Room (k+1) A)(C:Addr)(us:List Value)(kw:List (Str×Value)):Room k (A.under (.builtin "type.__call__" ⟨.ref C::us,kw⟩)):=
 ⟨r.hd,by have:=r.dp; rw [make_depth]; omega,by have:=r.un; rw [make_units]; omega,r.gd⟩
theorem Room.depth {k:Nat}{A:Around}(r:Room k A):A.depth<recursionLimit:=by have:=r.dp; omega
theorem Room.units {k:Nat}{A:Around}(r:Room k A):A.units+64<cLine:=by have:=r.un; omega
noncomputable def tNil:TA:=fun _ H Q=>Q [] H
noncomputable def tCons (ta:TE)(tr:TA):TA:=fun σ H Q=>ta σ H fun x H1=>tr σ H1 fun xs H2=>Q (x::xs) H2
section
variable {X:Cx}{e:Expr}{es:List Expr}{te:TE}{t:TA}{pos:Pos}
theorem pa_nil:PA X [] tNil:=fun _ _ _ _ H Q I h=>Calls.spliced_nil ⟨[],H,I,.nil,h⟩
theorem pa_cons (ha:PE X e te)(hr:PA X es t)(hs:starEach (e::es) X.env=(false,eval e X.env)::starEach es X.env:=by rfl):PA X (e::es) (tCons te t):=by
 intro pos pins s σ H Q I h
 rw [hs]
 show wpAny _ _ (spliced ((false,eval e X.env)::backTo pos (starEach es X.env))) _ _ s
 refine Calls.spliced_cons (thn (ha pins s σ H _ I h) fun u s1 hE=>xq2 hE fun x H1 I1 r1 q1=>?_)
 exact thn (hr pos pins s1 σ H1 _ I1 q1) fun us s2 hE=>xq2 hE fun xs H2 I2 r2 q2=>⟨x::xs,H2,I2,.cons r1 r2,q2⟩
noncomputable def tTup (t:TA):TE:=fun σ H Q=>t σ H fun xs H1=>xs.length<=sizeLine/\∀p,H1 p=none->Q (.ref p) (upd H1 p (.tup xs))
noncomputable def tLst (t:TA):TE:=fun σ H Q=>t σ H fun xs H1=>xs.length<=sizeLine/\∀p,H1 p=none->Q (.ref p) (upd H1 p (.lst xs))
theorem pe_tup {x1}(h:PA X es t):PE X (.Tuple es x1 pos) (tTup t):=by
 intro pins s σ H Q I hq
 refine wpAny_Tuple_spliced (thn (h pos pins s σ H _ I hq) fun us s1 ⟨xs,H1,I1,r,z,q⟩=>⟨by rw [← r.length]; exact z,?_⟩)
 have hf:H1 s1.heap.objs.size=none:=I1.hok.fresh (Nat.le_refl _)
 refine ⟨.ref s1.heap.objs.size,upd H1 s1.heap.objs.size (.tup xs),I1.laid (t':=s1.toks) (fun b u e=>Heap.get?_push_of_some _ e) (Nat.le_refl _) ?_,rfl,q _ hf⟩
 exact ⟨z,us,r,⟨_,Heap.get?_push_size _ rfl,rfl,_,rfl⟩⟩
theorem pe_lst (h:PA X es t):PE X (.List es pos) (tLst t):=by
 intro pins s σ H Q I hq
 refine wpAny_List_spliced (thn (h pos pins s σ H _ I hq) fun us s1 ⟨xs,H1,I1,r,z,q⟩=>⟨by rw [← r.length]; exact z,?_⟩)
 have hf:H1 s1.heap.objs.size=none:=I1.hok.fresh (Nat.le_refl _)
 refine ⟨.ref s1.heap.objs.size,upd H1 s1.heap.objs.size (.lst xs),I1.laid (t':=s1.toks) (fun b u e=>Heap.get?_push_of_some _ e) (Nat.le_refl _) ?_,rfl,q _ hf⟩
 exact ⟨z,us,0,r,Heap.get?_push_size _ rfl⟩
end
noncomputable abbrev Sp:=List V->Hp->VK->XK->Prop
noncomputable abbrev CXT:=List Env->Hp->Shared->XK->Value->Shared->Prop
structure Env0 (P:Program)(w:World)(K:PySem.W.Frag)(mg:Str->Option Value)(base:Heap)(A:Around)(outer:List Env)(s:Shared)(H:Hp):Prop where
 frames:A.frames=some outer
 mod:Mod K mg base
 bs:∀b o,base.get? b=some o->s.heap.get? b=some o/\H b=none
 bsz:base.objs.size<=s.heap.objs.size
 funs:s.heap.FunFrames base outer
 frf:∀b∈frs outer,H b=none
 hok:HOk P w H s.heap
 bare:AllBare s.gens
noncomputable def CE (outer:List Env)(P:Program)(w:World)(H:Hp)(s:Shared)(Q:VK)(u:Value)(s':Shared):Prop:=
 ∃v H',s'.os=s.os/\AllBare s'.gens/\Un (frs outer) [] H H' s.heap s'.heap/\HOk P w H' s'.heap/\RelV v u/\Q v H'
noncomputable def CR (CX:CXT)(outer:List Env)(P:Program)(w:World)(H:Hp)(s:Shared)(Q:VK)(E:XK)(r:Result)(s':Shared):Prop:=
 match r with
 | .ok (.ret u)=>CE outer P w H s Q u s'
 | .ok _=>False
 | .error e=>CX outer H s E e s'
structure FnOk (P:Program)(w:World)(K:PySem.W.Frag)(mg:Str->Option Value)(base:Heap)(CX:CXT)(k:Nat)(f:Addr)(fd:FuncData)(ps:List Str)(sp:Sp):Prop where
 len:∀vs H Q E,sp vs H Q E->vs.length=ps.length
 run:∀(A:Around) (outer:List Env) (s:Shared) (H:Hp) (args:Args) (us:List Value) (vs:List V) (Q:VK) (E:XK),Room k A->Env0 P w K mg base A outer s H->BindsTo s fd args (ps.zip us)->Vals vs us->sp vs H Q E->
  codeAny (model P w) A (.call (.ref f) args) (CR CX outer P w H s Q E) s
theorem FnOk.imp {P:Program}{w:World}{K:PySem.W.Frag}{mg:Str->Option Value}{base:Heap}{CX:CXT}{k:Nat}{f:Addr}{fd:FuncData}{ps:List Str}{sp sp':Sp}(F:FnOk P w K mg base CX k f fd ps sp)
  (h:∀vs H Q E,sp' vs H Q E->sp vs H Q E):FnOk P w K mg base CX k f fd ps sp':=
 ⟨fun vs H Q E q=>F.len vs H Q E (h _ _ _ _ q),fun A outer s H args us vs Q E hr he hb hv hs=>F.run A outer s H args us vs Q E hr he hb hv (h _ _ _ _ hs)⟩
theorem Env0.make {P:Program}{w:World}{K:PySem.W.Frag}{mg:Str->Option Value}{base:Heap}{A:Around}{outer:List Env}{s:Shared}{H:Hp}(e:Env0 P w K mg base A outer s H)(C:Addr)(us:List Value)(kw:List (Str×Value)):
  Env0 P w K mg base (A.under (.builtin "type.__call__" ⟨.ref C::us,kw⟩)) outer s H:=⟨by first | exact e.frames | (simpa [Around.under,Code.envs,Code.isFrame,pushEnvs] using e.frames),e.mod,e.bs,e.bsz,e.funs,e.frf,e.hok,e.bare⟩
theorem Env0.in1 {P:Program}{w:World}{K:PySem.W.Frag}{mg:Str->Option Value}{base:Heap}{A:Around}{outer:List Env}{s:Shared}{H:Hp}(e:Env0 P w K mg base A outer s H):
  Env0 P w K mg base A.in1 outer s H:=⟨e.frames,e.mod,e.bs,e.bsz,e.funs,e.frf,e.hok,e.bare⟩
section
variable {X:Cx}{pins:List (Addr×Obj)}{σ:St}{H:Hp}{s s':Shared}
theorem Inv.env0 (I:Inv X pins σ H s):Env0 X.prog X.w X.K X.mg X.base X.A X.stack s H:=
 ⟨I.ok.frames,I.ok.mod,I.bs,Nat.le_trans I.ok.bsz I.sz,I.stack,I.stkFree,I.hok,I.bare⟩
theorem Inv.after {Q:VK}{u:Value}(I:Inv X pins σ H s)(h:CE X.stack X.prog X.w H s Q u s'):EP X pins σ Q u s':=by
 obtain ⟨v,H',os,bare,un,hok,r,q⟩:=h
 obtain ⟨hh,g,d,t,os'⟩:=s'
 obtain rfl:os'=s.os:=os
 exact ⟨v,H',I.call (h':=hh) (g':=g) (d':=d) (t':=t) (ch:=[]) un hok bare (fun b z=>absurd z (by simp)),r,q⟩
end
noncomputable def tCall (sp:Sp)(dvs:List V)(E:XK)(t:TA):TE:=fun σ H Q=>t σ H fun vs H1=>sp (vs++dvs) H1 Q E
noncomputable def tMeth (C:Addr)(m:Str)(sp:Sp)(dvs:List V)(E:XK)(ta:TE)(t:TA):TE:=fun σ H Q=>ta σ H fun x H1=>∃a dx fs,x=.ref a/\H1 a=some (.ins C dx fs)/\fs.lookup m=none/\
 t σ H1 fun vs H2=>sp (x::(vs++dvs)) H2 Q E
noncomputable def tMake (C:Addr)(sp:Sp)(dvs:List V)(E:XK)(t:TA):TE:=fun σ H Q=>t σ H fun vs H1=>∀x dx,H1 x=none->H1 dx=none->dx≠x->
 sp (.ref x::(vs++dvs)) (upd (upd H1 dx (.own x)) x (.ins C dx [])) (fun v H2=>v=.non/\Q (.ref x) H2) E
noncomputable def Binds (K:PySem.W.Frag)(fd:FuncData)(ps:List Str)(ds:List Value):Prop:=
 ∀(s:Shared) (us:List Value),K.In s.heap->(us++ds).length=ps.length->BindsTo s fd ⟨us,[]⟩ (ps.zip (us++ds))
theorem Binds.all {K:PySem.W.Frag}{fd:FuncData}{ps:List Str}(h:∀us:List Value,us.length=ps.length->bindArgs fd ⟨us,[]⟩=pure (ps.zip us)):Binds K fd ps []:=fun s us _ hl=>by
 rw [List.append_nil] at hl ⊢
 exact .of_eq (h us hl)
noncomputable def Passes (CX:CXT)(X:Cx)(E:XK):Prop:=∀(pins:List (Addr×Obj)) (σ:St) (H:Hp) (s:Shared) (e:Value) (s':Shared),Inv X pins σ H s->CX X.stack H s E e s'->X.xe e s'
section
variable {X:Cx}{CX:CXT}{k:Nat}{f C:Addr}{fd:FuncData}{ps:List Str}{sp:Sp}{dvs:List V}{ds:List Value}{E:XK}{x m:Str}{p pos apos:Pos}{e o:Expr}{es:List Expr}{ta:TE}{t:TA}
theorem run_fn {pins:List (Addr×Obj)}{σ:St}{H:Hp}{s:Shared}{Q:VK}{us:List Value}{vs:List V}(F:FnOk X.prog X.w X.K X.mg X.base CX k f fd ps sp)(hr:Room k X.A)(hb:Binds X.K fd ps ds)(hd:Vals dvs ds)(hx:Passes CX X E)
  (I:Inv X pins σ H s) (r:Vals vs us) (h:sp (vs++dvs) H Q E):wpAny (model X.prog X.w) X.A (call (.ref f) us) (EP X pins σ Q) X.xe s:=by
 have r2:Vals (vs++dvs) (us++ds):=r.append hd
 have hl:(us++ds).length=ps.length:=by rw [← r2.length]; exact F.len _ _ _ _ h
 refine wpAny_call (codeAny_mono (F.run X.A X.stack s H ⟨us,[]⟩ (us++ds) (vs++dvs) Q E hr I.env0 (hb s us I.kIn hl) r2 h) fun r s' hq=>?_)
 cases r with
 |error e=>exact hx pins σ H s e s' I hq
 |ok fl=>
  cases fl with
  |ret u=>exact I.after hq
  |next=>exact False.elim hq
  |brk=>exact False.elim hq
  |cont=>exact False.elim hq
theorem pe_call (F:FnOk X.prog X.w X.K X.mg X.base CX k f fd ps sp)(hr:Room k X.A)(hg:Gl X x)(hm:X.mg x=some (.ref f))(hk:PySem.W.keepIn X.K (.ref f)=true)(hb:Binds X.K fd ps ds)(hd:Vals dvs ds)(hx:Passes CX X E)
  (ha:PA X (e::es) t) (hdb:(x == ("__debug__" : Str))=false:=by decide) (he:starEach (e::es) X.env=(false,eval e X.env)::starEach es X.env:=by rfl) (hpl:(backTo pos (starEach es X.env)).any (·.1)=false:=by rfl):
  PE X (.Call (.Name x p) (e::es) [] pos) (tCall sp dvs E t):=by
 intro pins s σ H Q I h
 refine wpAny_Call_Name_kw (ld_glob I hg hm ?_ hdb)
 refine PySem.W.callWith_K (h₀:=X.base) I.ok.mod.kin hk (thn (ha pos pins s σ H _ I h) fun us s1 hE=>xq2 hE fun vs H1 I1 r q=>⟨I1.kIn,?_⟩) he hpl
 exact run_fn F hr hb hd hx I1 r q
theorem pe_meth {pl:Sem Bool}(he:PE X o ta)(c:Cls X.K C)(hm:Meth X.K C m f)(F:FnOk X.prog X.w X.K X.mg X.base CX k f fd ps sp)(hr:Room k X.A)(hb:Binds X.K fd ps ds)(hd:Vals dvs ds)(hx:Passes CX X E)(ha:PA X (e::es) t)
  (hst:starEach (e::es) X.env=(false,eval e X.env)::starEach es X.env:=by rfl) (hpl:(backTo pos (starEach es X.env)).any (·.1)=false:=by rfl)
  (ht:eval (.Call (.Attribute o m apos) (e::es) [] pos) X.env=(do
   let ov ← eval o X.env
   standAt apos.atName
   let (f,first) ← holding [ov] (getMethod ov m pl)
   callWith pos f first (backTo pos (starEach (e::es) X.env)) (backToKw pos (keywordEach [] X.env))):=by rfl):
  PE X (.Call (.Attribute o m apos) (e::es) [] pos) (tMeth C m sp dvs E ta t):=by
 intro pins s σ H Q I h
 refine PySem.W.methodCall_KW (pl:=pl) (thn (he pins s σ H _ I h) fun u s1 ⟨x,H1,I1,rx,a,dx,fs,ex,ea,l,q⟩=>?_) ht
 subst ex
 obtain rfl:u=Value.ref a:=rx
 refine getmeth_ok I1 ea c hm l ?_
 refine PySem.W.callWith_K (first:=[.ref a]) (h₀:=X.base) I.ok.mod.kin hm.kp (thn (ha pos pins s1 σ H1 _ I1 q) fun us s2 hE=>xq2 hE fun vs H2 I2 r q2=>⟨I2.kIn,?_⟩) hst hpl
 exact run_fn (us:=.ref a::us) (vs:=.ref a::vs) F hr hb hd hx I2 (.cons rfl r) q2
theorem pe_meth0 {pl:Sem Bool}(he:PE X o ta)(c:Cls X.K C)(hm:Meth X.K C m f)(F:FnOk X.prog X.w X.K X.mg X.base CX k f fd ps sp)(hr:Room k X.A)(hb:Binds X.K fd ps ds)(hd:Vals dvs ds)(hx:Passes CX X E)
  (ht:eval (.Call (.Attribute o m apos) [] [] pos) X.env=(do
   let ov ← eval o X.env
   standAt apos.atName
   let (f,first) ← holding [ov] (getMethod ov m pl)
   callWith pos f first (backTo pos (starEach [] X.env)) (backToKw pos (keywordEach [] X.env))):=by rfl):
  PE X (.Call (.Attribute o m apos) [] [] pos) (tMeth C m sp dvs E ta tNil):=by
 intro pins s σ H Q I h
 refine PySem.W.methodCall_KW (pl:=pl) (thn (he pins s σ H _ I h) fun u s1 ⟨x,H1,I1,rx,a,dx,fs,ex,ea,l,q⟩=>?_) ht
 subst ex
 obtain rfl:u=Value.ref a:=rx
 refine getmeth_ok I1 ea c hm l ?_
 exact PySem.W.callWith_K0 (first:=[.ref a]) I1.kIn hm.kp (run_fn (us:=[.ref a]) (vs:=[.ref a]) F hr hb hd hx I1 (.cons rfl .nil) q)
structure Mk (K:PySem.W.Frag)(C f:Addr):Prop where
 makes:PySem.W.makesIn K C=true
 init:PySem.W.findIn K (.ref C) "__init__" = some (some (.ref f))
 fn:PySem.W.isFn K (.ref f)=true
 kp:PySem.W.keepIn K (.ref C)=true
theorem run_make {pins:List (Addr×Obj)}{σ:St}{H:Hp}{s:Shared}{Q:VK}{us:List Value}{vs:List V}(M:Mk X.K C f)(F:FnOk X.prog X.w X.K X.mg X.base CX k f fd ps sp)(hr:Room (k+1) X.A)(hb:Binds X.K fd ps ds)(hd:Vals dvs ds)
  (hx:Passes CX X E) (I:Inv X pins σ H s) (r:Vals vs us)
  (h:∀x dx,H x=none->H dx=none->dx≠x->sp (.ref x::(vs++dvs)) (upd (upd H dx (.own x)) x (.ins C dx [])) (fun v H2=>v=.non/\Q (.ref x) H2) E):
  wpAny (model X.prog X.w) X.A (call (.ref C) us) (EP X pins σ Q) X.xe s:=by
 have hq:=h (s.heap.objs.size+1) s.heap.objs.size (I.hok.fresh (Nat.le_succ _)) (I.hok.fresh (Nat.le_refl _)) (Nat.ne_of_lt (Nat.lt_succ_self _))
 have I2:=Inv.made (C:=C) I
 have r2:Vals (V.ref (s.heap.objs.size+1)::(vs++dvs)) (Value.ref (s.heap.objs.size+1)::(us++ds)):=.cons rfl (r.append hd)
 have hl:(Value.ref (s.heap.objs.size+1)::us++ds).length=ps.length:=by
  have e:=r2.length
  rw [F.len _ _ _ _ hq] at e
  exact e.symm
 refine wpAny_call (make_map (f:=f) I.kIn M.makes M.init (beq_iff_eq.mp M.fn) (codeAny_mono (F.run _ X.stack _ _ ⟨Value.ref (s.heap.objs.size+1)::us,[]⟩ (Value.ref (s.heap.objs.size+1)::(us++ds)) _ _ E (hr.make C us [])
  (I2.env0.make C us []) (hb _ (Value.ref (s.heap.objs.size+1)::us) I2.kIn hl) r2 hq) fun r s' hq'=>?_))
 cases r with
 |error e=>exact hx pins σ _ _ e s' I2 hq'
 |ok fl=>
  cases fl with
  |ret u=>
   obtain ⟨v,H',I3,rv,ev,q3⟩:=I2.after hq'
   subst ev
   exact ⟨rv,⟨V.ref (s.heap.objs.size+1),H',I3,rfl,q3⟩⟩
  |next=>exact False.elim hq'
  |brk=>exact False.elim hq'
  |cont=>exact False.elim hq'
theorem pe_make (M:Mk X.K C f)(F:FnOk X.prog X.w X.K X.mg X.base CX k f fd ps sp)(hr:Room (k+1) X.A)(hg:Gl X x)(hm:X.mg x=some (.ref C))(hb:Binds X.K fd ps ds)(hd:Vals dvs ds)(hx:Passes CX X E)
  (ha:PA X (e::es) t) (hdb:(x == ("__debug__" : Str))=false:=by decide) (he:starEach (e::es) X.env=(false,eval e X.env)::starEach es X.env:=by rfl) (hpl:(backTo pos (starEach es X.env)).any (·.1)=false:=by rfl):
  PE X (.Call (.Name x p) (e::es) [] pos) (tMake C sp dvs E t):=by
 intro pins s σ H Q I h
 refine wpAny_Call_Name_kw (ld_glob I hg hm ?_ hdb)
 refine PySem.W.callWith_K (h₀:=X.base) I.ok.mod.kin M.kp (thn (ha pos pins s σ H _ I h) fun us s1 hE=>xq2 hE fun vs H1 I1 r q=>⟨I1.kIn,?_⟩) he hpl
 exact run_make M F hr hb hd hx I1 r q
end
section
variable {X:Cx}{CX:CXT}{k:Nat}{f C:Addr}{fd:FuncData}{ps ks:List Str}{sp:Sp}{E:XK}{x m:Str}{p pos apos kpos:Pos}{e o:Expr}{es:List Expr}{kws:List Keyword}{te ta:TE}{t tk:TA}{nm:Option Str}
variable {g:List Value->List Value->List Value}{gV:List V->List V->List V}
end
structure FnScope (N P:List Str)(sc:Scope):Prop where
 kind:sc.kind=.function
 co:sc.isCoroutine=false
 gen:sc.isGenerator=false
 nd:N.Nodup
 pre:N.take P.length=P
 par:∀x∈P,sc.names.lookup x=some .local\/sc.names.lookup x=some .cell
 nofree:∀y∈sc.names,y.2≠.free
theorem bindL_out {kindOf:Str->Option NameKind}{x:Str}:∀{binds:List (Str×Value)} {m:Str->Option Value},(∀v,(x,v)∉binds)->bindL kindOf binds m x=m x
 |[],_,_=>rfl
 |(n,v)::r,m,h=>by
  unfold bindL
  rw [bindL_out fun w hw=>h w (List.mem_cons_of_mem _ hw)]
  split
  ·have:x≠n:=by rintro rfl; exact h v List.mem_cons_self
   simp [this]
  ·rfl
theorem bindC_out {kindOf:Str->Option NameKind}{x:Str}:∀{binds:List (Str×Value)} {m:Str->Option Value},(∀v,(x,v)∉binds)->bindC kindOf binds m x=m x
 |[],_,_=>rfl
 |(n,v)::r,m,h=>by
  unfold bindC
  rw [bindC_out fun w hw=>h w (List.mem_cons_of_mem _ hw)]
  split
  ·rfl
  ·have:x≠n:=by rintro rfl; exact h v List.mem_cons_self
   simp [this]
theorem bindL_get {kindOf:Str->Option NameKind}{x:Str}{v:Value}:∀{P:List Str} {vs:List Value} {i:Nat} {m:Str->Option Value},P.Nodup->P[i]? = some x->vs[i]? = some v->kindOf x=some .local->
  bindL kindOf (P.zip vs) m x=some v
 |[],_,_,_,_,h,_,_=>by simp at h
 |_::_,[],_,_,_,_,h,_=>by simp at h
 |p::P,w::vs,0,m,nd,h1,h2,hk=>by
  simp at h1 h2; subst h1; subst h2
  show bindL kindOf ((p,w)::P.zip vs) m p=_
  unfold bindL
  rw [bindL_out fun v hv=>(List.nodup_cons.mp nd).1 (List.of_mem_zip hv).1,if_pos hk]
  simp
 |p::P,w::vs,i+1,m,nd,h1,h2,hk=>by
  show bindL kindOf ((p,w)::P.zip vs) m x=_
  unfold bindL
  exact bindL_get (i:=i) (List.nodup_cons.mp nd).2 (by simpa using h1) (by simpa using h2) hk
theorem bindC_get {kindOf:Str->Option NameKind}{x:Str}{v:Value}:∀{P:List Str} {vs:List Value} {i:Nat} {m:Str->Option Value},P.Nodup->P[i]? = some x->vs[i]? = some v->kindOf x≠some .local->
  bindC kindOf (P.zip vs) m x=some v
 |[],_,_,_,_,h,_,_=>by simp at h
 |_::_,[],_,_,_,_,h,_=>by simp at h
 |p::P,w::vs,0,m,nd,h1,h2,hk=>by
  simp at h1 h2; subst h1; subst h2
  show bindC kindOf ((p,w)::P.zip vs) m p=_
  unfold bindC
  rw [bindC_out fun v hv=>(List.nodup_cons.mp nd).1 (List.of_mem_zip hv).1,if_neg hk]
  simp
 |p::P,w::vs,i+1,m,nd,h1,h2,hk=>by
  show bindC kindOf ((p,w)::P.zip vs) m x=_
  unfold bindC
  exact bindC_get (i:=i) (List.nodup_cons.mp nd).2 (by simpa using h1) (by simpa using h2) hk
noncomputable def start (N:List Str)(vs:List V):St:=vs.map some++List.replicate (N.length - vs.length) none
noncomputable def cxOf (CX:CXT)(P:Program)(w:World)(K:PySem.W.Frag)(mg:Str->Option Value)(base:Heap)(N:List Str)(qual:Str)(scope:Scope)(f:Addr)(cd:Value)(A:Around)(outer:List Env)(s:Shared)(H:Hp)(E:XK):Cx where
 prog:=P
 w:=w
 K:=K
 mg:=mg
 base:=base
 A:=A.deeper (envOfC qual scope s.heap.objs.size f cd)
 N:=N
 s₀:=s
 H₀:=H
 env:=envOfC qual scope s.heap.objs.size f cd
 outer:=outer
 stack:=envOfC qual scope s.heap.objs.size f cd::outer
 ex:=[]
 calm:=true
 fn:=fun _=>true
 pn:=[]
 xe:=fun e s'=>wpAny (model P w) (A.deeper (envOfC qual scope s.heap.objs.size f cd)) (leaving (envOfC qual scope s.heap.objs.size f cd) e) (fun _ s''=>CX outer H s E e s'') (fun e' s''=>CX outer H s E e' s'') s'
theorem cell_has {sc:Scope}{n:Nat}{x:Str}(h:sc.names.lookup x=some .cell):∃c,(cellsFrom n sc.names []).lookup x=some c:=by
 have q:=PySem.W.cellsFrom_some sc.names n [] (.inl h)
 exact Option.isSome_iff_exists.mp q
theorem inv_start {CX:CXT}{P:Program}{w:World}{K:PySem.W.Frag}{mg:Str->Option Value}{base:Heap}{N ps:List Str}{qual:Str}{scope:Scope}{f:Addr}{cd:Value}{A:Around}{outer:List Env}{s s1:Shared}{H:Hp}{E:XK}{us:List Value}{vs:List V}
  (S:FnScope N ps scope) (hd:A.handled=none) (e0:Env0 P w K mg base A outer s H) (hl:vs.length=ps.length) (r:Vals vs us)
  (x:InCallC s s.heap.objs.size (bindL (envOfC qual scope s.heap.objs.size f cd).kindOf (ps.zip us) fun _=>none) (cellsFrom (s.heap.objs.size+1) scope.names []) (bindC (envOfC qual scope s.heap.objs.size f cd).kindOf (ps.zip us) fun _=>none) s1):
  Inv (cxOf CX P w K mg base N qual scope f cd A outer s H E) [] (start N vs) H s1:=by
 have hpl:ps.length<=N.length:=by have:=congrArg List.length S.pre; rw [List.length_take] at this; omega
 obtain ⟨h1,tk,rfl,hk⟩:=x.done
 have noA:∀b:Addr,b∉(cxOf CX P w K mg base N qual scope f cd A outer s H E).ex:=fun b z=>absurd (show b∈([]:List Addr) from z) (by simp)
 refine ⟨⟨e0.mod,S.kind,rfl,rfl,Nat.le_refl _,fun y z c h1 h2=>?_,fun y hy=>?_,fun y c _ h=>?_,fun _=>hd,Around.frames_deeper e0.frames,.inr ⟨rfl,rfl⟩,fun b z=>absurd z (noA b),e0.bs,e0.bsz,fun b _ _=>noA b,fun b z=>absurd z (noA b),e0.funs,e0.frf⟩,
  rfl,e0.bare,Un.kept hk,⟨_,x.toInCall.ns,fun i y v h1 h2 h3=>?_⟩,fun y c h=>⟨_,x.cell y c h⟩,e0.hok.fresh (Nat.le_refl _),fun y c h=>?_,fun p hp=>absurd (show p∈([]:List (Addr×Obj)) from hp) (by simp),e0.hok.kept hk,?_⟩
 ·exact name_of_addr x.apart (PySem.mem_of_lookup h1) (PySem.mem_of_lookup h2)
 ·have hy:scope.names.lookup y=some .cell\/scope.names.lookup y=some .free:=hy
  rcases hy with hy | hy
  ·exact cell_has hy
  ·exact absurd rfl (S.nofree _ (PySem.mem_of_lookup hy))
 ·exact Nat.le_of_lt (x.above y c (PySem.mem_of_lookup h))
 ·have hi:i<vs.length:=by
   unfold start at h2
   by_cases hi:i<vs.length
   ·exact hi
   ·rw [List.getElem?_append_right (by simpa using hi)] at h2
    rw [List.getElem?_replicate] at h2
    split at h2 <;> cases h2
  have ha:vs[i]? = some v:=by
   unfold start at h2
   rw [List.getElem?_append_left (by simpa using hi),List.getElem?_map] at h2
   cases e:vs[i]? with
   |none=>rw [e] at h2; cases h2
   |some a=>rw [e] at h2; cases h2; rfl
  obtain ⟨u,hu,rv⟩:=r.get ha
  have hp:ps[i]? = some y:=by
   rw [← S.pre,List.getElem?_take_of_lt (by omega)]; exact h1
  have ndP:ps.Nodup:=by rw [← S.pre]; exact S.nd.sublist (List.take_sublist _ _)
  refine ⟨u,rv,?_⟩
  rcases S.par y (List.mem_of_getElem? hp) with k | k
  ·exact .inl ⟨k,bindL_get ndP hp hu k⟩
  ·obtain ⟨c,e⟩:=cell_has (n:=s.heap.objs.size+1) k
   refine .inr ⟨.inl k,c,e,?_⟩
   have q:=x.cell y c e
   rw [bindC_get ndP hp hu (by show scope.names.lookup y≠_; rw [k]; decide)] at q
   exact q
 ·exact e0.hok.fresh (Nat.le_of_lt (x.above y c (PySem.mem_of_lookup h)))
 ·unfold start
  show _=N.length
  rw [List.length_append,List.length_map,List.length_replicate]
  omega
theorem fn_of {CX:CXT}{P:Program}{w:World}{K:PySem.W.Frag}{mg:Str->Option Value}{base:Heap}{k:Nat}{f:Addr}{name qual:Str}{params:Arguments}{body:List Stmt}{scope:Scope}{dV kV doc pm cdv ct oc:Value}{an od:Option Addr}
  {osl:Array (Option Value)} {N ps:List Str} {sp:Sp} (lk:K.lookup f=some ⟨oc,od,.func (PySem.W.fnOf name qual params body scope dV kV doc pm an cdv ct),osl⟩) (hcd:PySem.W.codeIn K cdv qual=true) (S:FnScope N ps scope)
  (len:∀vs H Q E,sp vs H Q E->vs.length=ps.length)
  (hbody:∀(A:Around) (outer:List Env) (s:Shared) (H:Hp) (vs:List V) (Q:VK) (E:XK),Room k (A.deeper (envOfC qual scope s.heap.objs.size f cdv))->sp vs H Q E->
   ∃t,PSs (cxOf CX P w K mg base N qual scope f cdv A outer s H E) body t/\t { nx:=fun _ H'=>Q .non H',rt:=Q } (start N vs) H):
  FnOk P w K mg base CX (k+1) f (PySem.W.fnOf name qual params body scope dV kV doc pm an cdv ct) ps sp:=by
 refine ⟨len,fun A outer s H args us vs Q E hr e0 hb r hsp=>?_⟩
 have hl:=len _ _ _ _ hsp
 have KX:K.In s.heap:=e0.mod.kin.keeps fun b o e=>(e0.bs b o e).1
 have lim:s.heap.NoLimit:=e0.mod.nolimit.keeps fun b o e=>(e0.bs b o e).1
 have hkind:∀y∈ps.zip us,scope.names.lookup y.1=some .local\/(scope.names.lookup y.1=some .cell/\((cellsFrom (s.heap.objs.size+1) scope.names []).lookup y.1).isSome=true):=fun ⟨n,v⟩ hy=>by
  rcases S.par n (List.of_mem_zip hy).1 with q | q
  ·exact .inl q
  ·exact .inr ⟨q,PySem.W.cellsFrom_some _ _ _ (.inl q)⟩
 refine codeAny_call_function hr.depth (KX _ _ lk) rfl S.co S.gen rfl (PySem.W.codeRec_of KX hcd) (hb _ _ _ _ ?_)
 refine wpAny_newFunctionEnv_cells S.kind hkind fun env he s1 x=>?_
 subst he
 refine ⟨lim.keeps x.toInCall.keep,codeAny_func ?_⟩
 obtain ⟨t,ht,hq⟩:=hbody A outer s H vs Q E (hr.deeper _) hsp
 have I:Inv (cxOf CX P w K mg base N qual scope f cdv A outer s H E) [] (start N vs) H s1:=inv_start S hr.hd e0 hl r x
 refine wpAny_mono (ht [] s1 (start N vs) H _ I hq) (fun fl s' hs=>?_) fun e s' hs=>hs
 have fin:∀{σ':St} {H':Hp} {v:V} {u:Value},Inv (cxOf CX P w K mg base N qual scope f cdv A outer s H E) [] σ' H' s'->RelV v u->Q v H'->CE outer P w H s Q u s':=
  fun {σ' H' v u} J rv q=>⟨v,H',J.os,J.bare,J.base,J.hok,rv,q⟩
 cases fl with
 |ret u=>
  obtain ⟨v,σ',H',J,rv,q⟩:=hs
  exact fin J rv q
 |next=>
  obtain ⟨σ',H',J,q⟩:=hs
  exact fin (v:=V.non) (u:=Value.none) J rfl q
 |brk=>
  obtain ⟨_,_,_,q⟩:=hs
  exact False.elim q
 |cont=>
  obtain ⟨_,_,_,q⟩:=hs
  exact False.elim q
open PySem PySem.Spec PyProof.Rows
section
variable {X:Cx}{x:Str}{p pos:Pos}{e:Expr}{es:List Expr}{t:TA}{id T:String}{r:List V->Hp->VK->Prop}
noncomputable def tCB (r:List V->Hp->VK->Prop)(t:TA):TE:=fun σ H Q=>t σ H fun vs H1=>r vs H1 Q
theorem pe_callB (hc:CallR X (.builtin id) r)(hg:Gl X x)(hm:X.mg x=none)(hv:bootBuiltins x=some (.builtin id))(ha:PA X (e::es) t)(hn:x≠"__name__":=by decide)(hdb:(x == ("__debug__" : Str))=false:=by decide)
  (he:starEach (e::es) X.env=(false,eval e X.env)::starEach es X.env:=by rfl) (hpl:(backTo pos (starEach es X.env)).any (·.1)=false:=by rfl):PE X (.Call (.Name x p) (e::es) [] pos) (tCB r t):=by
 intro pins s σ H Q I h
 refine wpAny_Call_Name_kw (ld_blt I hg hm hv ?_ hn hdb)
 exact PyProof.Rows.callWith_builtin1 (thn (ha pos pins s σ H _ I h) fun us s1 hE=>xq2 hE fun vs H1 I1 r1 q1=>hc pins s1 σ H1 vs us Q I1 r1 q1) he hpl
theorem pe_callTy (hc:CallR X (.type T) r)(hg:Gl X x)(hm:X.mg x=none)(hv:bootBuiltins x=some (.type T))(ha:PA X (e::es) t)(hn:x≠"__name__":=by decide)(hdb:(x == ("__debug__" : Str))=false:=by decide)
  (he:starEach (e::es) X.env=(false,eval e X.env)::starEach es X.env:=by rfl) (hpl:(backTo pos (starEach es X.env)).any (·.1)=false:=by rfl):PE X (.Call (.Name x p) (e::es) [] pos) (tCB r t):=by
 intro pins s σ H Q I h
 refine wpAny_Call_Name_kw (ld_blt I hg hm hv ?_ hn hdb)
 exact PyProof.Rows.callWith_type1 (thn (ha pos pins s σ H _ I h) fun us s1 hE=>xq2 hE fun vs H1 I1 r1 q1=>hc pins s1 σ H1 vs us Q I1 r1 q1) he hpl
end
end L2
namespace HT
open PySem PyProof.Rows
noncomputable def lexLt:List Int->List Int->Bool
 |[],[]=>false
 |[],_::_=>true
 |_::_,[]=>false
 |x::xs,y::ys=>if x=y then lexLt xs ys else decide (x<y)
theorem lexLt_cons (x y:Int)(xs ys:List Int):lexLt (x::xs) (y::ys)=if x=y then lexLt xs ys else decide (x<y):=rfl
theorem lexLt_nil_nil:lexLt [] []=false:=rfl
theorem lexLt_nil_cons (y:Int)(ys:List Int):lexLt [] (y::ys)=true:=rfl
theorem lexLt_cons_nil (x:Int)(xs:List Int):lexLt (x::xs) []=false:=rfl
theorem eqAt_int (A:Around)(s:Shared)(a:Int)(t:Tok)(c:Int)(u:Tok):∃e,SeqAt.EqAt A s (.int a t) (.int c u) e/\(e=true↔a=c):=
 ⟨(a == c),SeqAt.EqAt.int_int a t c u,by simp⟩
theorem rcLt_int (A:Around)(s:Shared)(a:Int)(t:Tok)(c:Int)(u:Tok)(prog:Program)(w:World)(E:Value->Shared->Prop)(Q:Value->Shared->Prop)(h:Q (.bool (decide (a<c))) s):
  wpAny (model prog w) A (richCompare .Lt (.int a t) (.int c u)) Q E s:=
 (PyProof.Rows.lt_int h:wpAny (model prog w) A (compareOp .Lt (.int a t) (.int c u)) Q E s)
section
open PySem.SeqAt
open PySem.AutoSeq1 (wpAny_loadPart')
open PySem.MeetsSeq PySem.MeetsSeq2 PySem.MeetsSeq3
theorem tuple_lt_ints (l b:Addr)(items items2:Array Value)(n n2:Nat)(dd dd2:Option Addr)(sl sl2:Array (Option Value))(ns ms:List Int)(hi:IntsAre items.toList ns)(hj:IntsAre items2.toList ms):
  Meets (Builtin.«tuple.__lt__» ⟨[.ref l,.ref b],[]⟩)
   (fun _ R s=>s.heap.get? l=some { cls:=.type "tuple",dict:=dd,data:=.seq items n,slots:=sl }/\s.heap.get? b=some { cls:=.type "tuple",dict:=dd2,data:=.seq items2 n2,slots:=sl2 }/\
    R (.ok (.ret (.bool (lexLt ns ms)))) s):=
 .of_wp fun prog w A R s h=>by
  obtain ⟨hp,g,d,tk,os⟩:=s; obtain ⟨hl,hb,h⟩:=h
  have f2:=AutoSeq1.sub_tuple_tuple
  have z1:items.size=ns.length:=by rw [← hi.length]; simp
  have z2:items2.size=ms.length:=by rw [← hj.length]; simp
  wp_walk using wpAny_loadPart' hl,wpAny_loadPart' hb,wpAny_forIn_list _ (fun rest b s'=>b.1=none/\s'=⟨hp,g,d,tk,os⟩/\∃(vs ws:List Value) (ns' ms':List Int),rest=vs.zip ws/\
   IntsAre vs ns'/\IntsAre ws ms'/\ns'.length+items2.size=ms'.length+items.size/\R (.ok (.ret (.bool (lexLt ns' ms')))) ⟨hp,g,d,tk,os⟩) _
  case turn=>
   rintro ⟨y,x⟩ rest b s' ⟨hb',rfl,vs,ws,ns',ms',hz,hvi,hwi,hlen,hR⟩
   cases hvi with
   |nil=>rw [List.zip_nil_left] at hz; cases hz
   |cons a t hvi'=>
    cases hwi with
    |nil=>rw [List.zip_nil_right] at hz; cases hz
    |cons c u hwi'=>
     rw [List.zip_cons_cons] at hz
     injection hz with hyx hrest
     injection hyx with hy hx
     subst hy hx
     rw [lexLt_cons] at hR
     simp only [List.length_cons] at hlen
     obtain ⟨e,he,hiff⟩:=eqAt_int A.in1 ⟨hp,g,d,tk,os⟩ a t c u
     refine wpAny_bind (he prog w _ _ ?_)
     cases e with
     |true=>
      rw [if_pos (hiff.mp rfl)] at hR
      wp_walk
      exact ⟨rfl,rfl,_,_,_,_,hrest,hvi',hwi',by omega,hR⟩
     |false=>
      rw [if_neg (fun q=>absurd (hiff.mpr q) Bool.false_ne_true)] at hR
      have hri:=rcLt_int A.in1 ⟨hp,g,d,tk,os⟩ a t c u prog w
      wp_walk using hri
      exact ⟨_,rfl,by simpa using hR⟩
  case fin=>
   rintro ⟨b1,b2⟩ s' ⟨hb',rfl,vs,ws,ns',ms',hz,hvi,hwi,hlen,hR⟩
   simp only at hb'
   subst hb'
   have hv:lexLt ns' ms'=decide (items.size<items2.size):=by
    cases hvi with
    |nil=>
     cases hwi with
     |nil=>
      simp only [List.length_nil] at hlen
      rw [lexLt_nil_nil]
      exact (decide_eq_false (by omega)).symm
     |cons c u hw=>
      simp only [List.length_nil,List.length_cons] at hlen
      rw [lexLt_nil_cons]
      exact (decide_eq_true (by omega)).symm
    |cons a t hv=>
     cases hwi with
     |nil=>
      simp only [List.length_nil,List.length_cons] at hlen
      rw [lexLt_cons_nil]
      exact (decide_eq_false (by omega)).symm
     |cons c u hw=>
      rw [List.zip_cons_cons] at hz
      cases hz
   rw [hv] at hR
   wp_walk
   exact ⟨_,rfl,by simpa [Builtin.Tuple.tupleCompareSizes] using hR⟩
  case h=>
   exact ⟨rfl,rfl,items.toList,items2.toList,ns,ms,rfl,hi,hj,by omega,h⟩
end
section
variable {prog:Program}{w:World}{A:Around}{E:Value->Shared->Prop}{s:Shared}
theorem lt_tupInts {l b:Addr}{items items2:Array Value}{ns ms:List Int}{Q:Value->Shared->Prop}(hl:IsTup s.heap l items)(hb:IsTup s.heap b items2)(hi:IntsAre items.toList ns)(hj:IntsAre items2.toList ms)
  (hu:A.units<cLine) (h:Q (.bool (lexLt ns ms)) s):wpAny (model prog w) A (compareOp .Lt (.ref l) (.ref b)) Q E s:=by
 obtain ⟨⟨cls,dd,data,sl⟩,ho,hc,n,hd⟩:=id hl
 obtain ⟨⟨cls2,dd2,data2,sl2⟩,ho2,hc2,n2,hd2⟩:=id hb
 simp only at hc hd hc2 hd2
 subst hc hd hc2 hd2
 exact richCompare_meets_room (op:=.Lt) ⟨_,ho,rfl⟩ ⟨_,ho2,rfl⟩ PySem.F.slot_tuple_lt PySem.F.entry_tuple_lt (PySem.F.args_tuple_lt_2 _ _) (tuple_lt_ints l b items items2 n n2 dd dd2 sl sl2 ns ms hi hj)
  ⟨ho,ho2,show Value.bool (lexLt ns ms)≠Value.notImplemented/\Q (.bool (lexLt ns ms)) s from ⟨(fun x=>nomatch x),h⟩⟩ hu
theorem cat_tup {t b:Addr}{vs ws:List Value}{Q:Value->Shared->Prop}(ht:IsTup s.heap t vs.toArray)(hb:IsTup s.heap b ws.toArray)(hv:vs≠[])
  (h1:ws=[]->Q (.ref t) s) (h2:ws≠[]->Q (.ref s.heap.objs.size) { s with heap:=s.heap.push { cls:=.type "tuple",data:=.seq (vs++ws).toArray } })
  (hsz:vs.length+ws.length<=sizeLine):wpAny (model prog w) A (binaryOp .Add (.ref t) (.ref b)) Q E s:=by
 obtain ⟨⟨cls,dd,data,sl⟩,ho,hc,n,hd⟩:=id ht
 obtain ⟨⟨cls2,dd2,data2,sl2⟩,ho2,hc2,n2,hd2⟩:=id hb
 simp only at hc hd hc2 hd2
 subst hc hd hc2 hd2
 have e:vs.toArray++ws.toArray=(vs++ws).toArray:=by simp
 by_cases hw:ws=[]
 ·exact concat_meets ⟨_,ho,rfl⟩ ⟨_,ho2,rfl⟩ noFill_tuple_add seq_tuple_add PySem.F.slot_tuple_add PySem.F.entry_tuple_add (PySem.F.args_tuple_add_2 _ _)
   (tuple_addW1 t b vs.toArray ws.toArray n n2 dd dd2 sl sl2 (by simpa using hv) (by simp [hw])) ⟨ho,ho2,h1 hw⟩
 ·refine concat_meets ⟨_,ho,rfl⟩ ⟨_,ho2,rfl⟩ noFill_tuple_add seq_tuple_add PySem.F.slot_tuple_add PySem.F.entry_tuple_add (PySem.F.args_tuple_add_2 _ _)
   (tuple_addW2 t b vs.toArray ws.toArray n n2 dd dd2 sl sl2 (by simpa using hv) (by simpa using hw) (by rw [List.size_toArray,List.size_toArray]; exact hsz)) ⟨ho,ho2,?_⟩
  rw [e]
  exact h2 hw
noncomputable def sIx (n d:Nat):Option Int->Nat
 |none=>d
 |some v=>if v<0 then (v+(n:Int)).toNat else min v.toNat n
theorem sIx_le (n d:Nat)(hd:d<=n)(o:Option Int):sIx n d o<=n:=by
 cases o with
 |none=>exact hd
 |some v=>
  show (if v<0 then (v+(n:Int)).toNat else min v.toNat n)<=n
  by_cases hv:v<0
  ·rw [if_pos hv]; omega
  ·rw [if_neg hv]; exact Nat.min_le_right _ _
theorem clip_eq (v:Int)(n d:Nat):(if v<0 then max (v+(n:Int)) 0 else min v (n:Int))=((sIx n d (some v):Nat):Int):=by
 show (if v<0 then max (v+(n:Int)) 0 else min v (n:Int))=(((if v<0 then (v+(n:Int)).toNat else min v.toNat n):Nat):Int)
 by_cases hv:v<0
 ·simp only [if_pos hv]; omega
 ·simp only [if_neg hv]; omega
theorem adjust_gen (lo hi:Option Int)(n:Nat):Builtin.Slice.sliceAdjust lo hi 1 (n:Int)=(((sIx n 0 lo:Nat):Int),((sIx n n hi:Nat):Int)):=by
 have h1:¬((1:Int)<0):=by omega
 unfold Builtin.Slice.sliceAdjust
 simp only [h1,if_false]
 refine Prod.ext ?_ ?_
 ·cases lo with
  |none=>rfl
  |some v=>exact clip_eq v n 0
 ·cases hi with
  |none=>rfl
  |some v=>exact clip_eq v n n
theorem places_gen (i j:Nat):Builtin.Slice.slicePlaces (i:Int) (j:Int) 1=j - i:=by
 unfold Builtin.Slice.slicePlaces
 have h1:(1:Int) > 0:=by omega
 simp only [h1,if_true,Int.ediv_one]
 split <;> omega
theorem slicePart_ {v:Value}{o:Option Int}{Q:Option Int->Shared->Prop}(p:IsPart v o)(h:Q o s):wpAny (model prog w) A (Builtin.Slice.slicePartIndex v) Q E s:=by
 cases p with
 |none=>exact slicePart_none h
 |int i t=>exact slicePart_int h
theorem sliceApplied_gen {sl:Addr}{vl vu:Value}{lo hi:Option Int}{n:Nat}{Q:Int×Int×Nat->Shared->Prop}(hs:s.heap.IsSliceOf sl vl vu .none)(pl:IsPart vl lo)(pu:IsPart vu hi)
  (h:Q (((sIx n 0 lo:Nat):Int),1,sIx n n hi - sIx n 0 lo) s):wpAny (model prog w) A (Builtin.Slice.sliceApplied (.ref sl) (pure (n:Int))) Q E s:=by
 obtain ⟨os,hos,hcs,hds⟩:=id hs
 unfold Builtin.Slice.sliceApplied Builtin.Slice.sliceFields
 refine wpAny_bind (wpAny_bind (wpAny_field hos hds (x:=vl) rfl (wpAny_bind (wpAny_field hos hds (x:=vu) rfl (wpAny_bind (wpAny_field hos hds (x:=.none) rfl (wpAny_pure ?_)))))))
 refine wpAny_bind (slicePart_none ?_)
 show wpAny _ _ (if ((1:Int) == 0)=true then _ else _) _ _ s
 rw [if_neg (by decide)]
 refine wpAny_bind (slicePart_ pl (wpAny_bind (slicePart_ pu (wpAny_bind (wpAny_pure ?_)))))
 show wpAny _ _ (match Builtin.Slice.sliceAdjust lo hi 1 (n:Int) with | (lo,hi)=>pure (lo,(1:Int),Builtin.Slice.slicePlaces lo hi 1)) _ _ s
 rw [adjust_gen lo hi n]
 show wpAny _ _ (pure (((sIx n 0 lo:Nat):Int),(1:Int),Builtin.Slice.slicePlaces ((sIx n 0 lo:Nat):Int) ((sIx n n hi:Nat):Int) 1)) _ _ s
 rw [places_gen]
 exact wpAny_pure h
theorem pick_gen (xs:Array Value)(i k:Nat):((List.range k).filterMap fun (m:Nat)=>xs[((i:Int)+(m:Int) * 1).toNat]?).toArray=((xs.toList.drop i).take k).toArray:=by
 have e:(fun (m:Nat)=>xs[((i:Int)+(m:Int) * 1).toNat]?)=fun m=>xs[i+m]?:=by
  funext m
  have:((i:Int)+(m:Int) * 1).toNat=i+m:=by omega
  rw [this]
 rw [e]
 have:=pick_run xs i k
 rw [List.filterMap_map] at this
 have e2:((fun x=>xs[x]?) ∘ fun x=>i+x)=fun m=>xs[i+m]?:=rfl
 rw [e2] at this
 rw [this]
theorem getItem_tuple_cut {t sl:Addr}{items:Array Value}{vl vu:Value}{lo hi:Option Int}{Q:Value->Shared->Prop}(ht:IsTup s.heap t items)(hs:s.heap.IsSliceOf sl vl vu .none)(pl:IsPart vl lo)(pu:IsPart vu hi)
  (hw:¬(sIx items.size 0 lo=0/\sIx items.size items.size hi=items.size))
  (h:Q (.ref s.heap.objs.size) { s with heap:=s.heap.push { cls:=.type "tuple",data:=.seq ((items.toList.drop (sIx items.size 0 lo)).take (sIx items.size items.size hi - sIx items.size 0 lo)).toArray } })
  (hsz:items.size<=sizeLine):wpAny (model prog w) A (getItem (.ref t) (.ref sl)) Q E s:=by
 have htake:sizeOk (.seq ((items.toList.drop (sIx items.size 0 lo)).take (sIx items.size items.size hi - sIx items.size 0 lo)).toArray):=by
  show ((items.toList.drop (sIx items.size 0 lo)).take (sIx items.size items.size hi - sIx items.size 0 lo)).toArray.size<=sizeLine
  rw [List.size_toArray,List.length_take,List.length_drop,Array.length_toList]
  omega
 have hj:sIx items.size items.size hi<=items.size:=sIx_le _ _ (Nat.le_refl _) hi
 obtain ⟨os,hos,hcs,hds⟩:=id hs
 have hTs:s.TypeIs (.ref sl) "slice":=⟨os,hos,hcs⟩
 unfold getItem
 try with_reducible refine wpAny_holding ?_
 first | refine wpAny_bind (wpAny_pure ?_) | skip
 refine wpAny_bind (wpAny_sequenceKey ht.typeIs (by decide) ?_)
 refine wpAny_bind (wpAny_callSpecial?_slot (name:=Str.ofString "__getitem__") ht.typeIs PyProof.Rows.slot_tuple_getitem
  (wpAny_call_entry PyProof.Rows.slot_tuple_getitem ht.typeIs entry_tuple_getitem ?_ (args_tuple_getitem _ _)))
 show wpAny _ _ (Builtin.Tuple.tupleItemsOf (.ref t) >>= _) _ _ s
 refine wpAny_bind (tupleItemsOf_ ht ?_)
 refine wpAny_bind (wpAny_typeOf hTs ?_)
 rw [if_pos (by decide)]
 refine wpAny_bind (sliceApplied_gen hs pl pu ?_)
 have hno:¬((((sIx items.size 0 lo:Nat):Int) == 0 && (1:Int) == 1 && (sIx items.size items.size hi - sIx items.size 0 lo) == items.size)=true):=by
  intro q
  rw [Bool.and_eq_true,Bool.and_eq_true] at q
  have q1:((sIx items.size 0 lo:Nat):Int)=0:=eq_of_beq q.1.1
  have q2:sIx items.size items.size hi - sIx items.size 0 lo=items.size:=eq_of_beq q.2
  exact hw ⟨by omega,by omega⟩
 show wpAny _ _ (if (((sIx items.size 0 lo:Nat):Int) == 0 && (1:Int) == 1 && (sIx items.size items.size hi - sIx items.size 0 lo) == items.size)=true then _ else _) _ _ s
 rw [if_neg hno,pick_gen]
 first
  |exact wpAny_bind (m:=Builtin.Tuple.tupleExact _) (wpAny_newObj_type (wpAny_pure ⟨_,rfl,wpAny_pure h⟩) htake)
  |exact wpAny_bind (m:=Builtin.Tuple.tupleExact _) (wpAny_newObj_type (wpAny_bind (wpAny_pure (wpAny_pure ⟨_,rfl,wpAny_pure h⟩))) htake)
  |exact wpAny_bind (wpAny_bind (m:=Builtin.Tuple.tupleExact _) (wpAny_newObj_type (wpAny_pure (wpAny_pure ⟨_,rfl,wpAny_pure h⟩)) htake))
  |exact wpAny_bind (wpAny_bind (m:=Builtin.Tuple.tupleExact _) (wpAny_newObj_type (wpAny_pure ⟨_,rfl,wpAny_pure h⟩) htake))
end
end HT
namespace L2
open PySem PySem.Spec PyProof.Rows
noncomputable abbrev TO:=St->Hp->(Option Int->Hp->Prop)->Prop
noncomputable def PO (X:Cx)(e:Option Expr)(t:TO):Prop:=
 ∀(pins:List (Addr×Obj)) (s:Shared) (σ:St) (H:Hp) (Q:Option Int->Hp->Prop),Inv X pins σ H s->t σ H Q->
  wpAny (model X.prog X.w) X.A (evalPart e X.env) (fun u s'=>∃o H',Inv X pins σ H' s'/\IsPart u o/\Q o H') X.xe s
noncomputable def tNoPart:TO:=fun _ H Q=>Q none H
noncomputable def tPart (t:TE):TO:=fun σ H Q=>t σ H fun x H1=>∃i,x=.int i/\Q (some i) H1
theorem intsAre_of {ns:List Int}:∀{us:List Value},Vals (ns.map V.int) us->IntsAre us ns:=by
 induction ns with
 |nil=>intro us r; rw [List.map_nil] at r; cases r; exact .nil
 |cons n ns ih=>
  intro us r
  rw [List.map_cons] at r
  cases r with
  |cons r1 r2=>
   obtain ⟨t,e⟩:=r1
   subst e
   exact .cons n t (ih r2)
section
variable {X:Cx}{e:Expr}{te:TE}{lo hi:Option Expr}{tl th:TO}{pos p2:Pos}
theorem po_none:PO X none tNoPart:=by
 intro pins s σ H Q I h
 rw [evalPart_none]
 exact wpAny_pure ⟨none,H,I,.none,h⟩
theorem po_some (h:PE X e te):PO X (some e) (tPart te):=by
 intro pins s σ H Q I hw
 rw [evalPart_some]
 refine thn (h pins s σ H _ I hw) fun u s1 hE=>xq2 hE fun x H1 I1 r1 q1=>?_
 obtain ⟨i,rfl,q⟩:=q1
 obtain ⟨t,rfl⟩:=r1
 exact ⟨some i,H1,I1,.int i t,q⟩
noncomputable def SlR (X:Cx)(r:V->Option Int->Option Int->Hp->VK->Prop):Prop:=
 ∀(pins:List (Addr×Obj)) (s:Shared) (σ:St) (H:Hp) (x:V) (v vl vu:Value) (lo hi:Option Int) (sl:Addr) (Q:VK),Inv X pins σ H s->RelV x v->s.heap.IsSliceOf sl vl vu .none->IsPart vl lo->IsPart vu hi->r x lo hi H Q->
  ∃T id,typeLookup (.type T) "__getitem__" = pure (some (.builtin id))/\s.TypeIs v T/\wpAny (model X.prog X.w) X.A (getItem v (.ref sl)) (EP X pins σ Q) X.xe s
noncomputable def tSl (r:V->Option Int->Option Int->Hp->VK->Prop)(te:TE)(tl th:TO):TE:=fun σ H Q=>te σ H fun x H1=>tl σ H1 fun l H2=>th σ H2 fun u H3=>r x l u H3 Q
theorem pe_slice {r:V->Option Int->Option Int->Hp->VK->Prop}(hr:SlR X r)(he:PE X e te)(hl:PO X lo tl)(hu:PO X hi th):PE X (.Subscript e (.Slice lo hi none p2) pos) (tSl r te tl th):=by
 intro pins s σ H Q I h
 refine Subscript_ (thn (he pins s σ H _ I h) fun v s1 hE=>xq2 hE fun x H1 I1 r1 q1=>?_)
 refine wpAny_Slice (thn (hl pins s1 σ H1 _ I1 q1) fun vl s2 ⟨l,H2,I2,pl,q2⟩=>thn (hu pins s2 σ H2 _ I2 q2) fun vu s3 ⟨u,H3,I3,pu,q3⟩=>?_)
 rw [evalPart_none]
 refine wpAny_pure ?_
 have I4:Inv X pins σ H3 { s3 with heap:=s3.heap.push { cls:=.type "slice",data:=.fields #[vl,vu,.none] } }:=I3.kept (t':=s3.toks) fun b ob q=>Heap.get?_push_of_some _ q
 obtain ⟨T,id,hT,ht,hg⟩:=hr pins { s3 with heap:=s3.heap.push { cls:=.type "slice",data:=.fields #[vl,vu,.none] } } σ H3 x v vl vu l u s3.heap.objs.size Q I4 r1 (Heap.IsSliceOf.new ..) pl pu q3
 show wpAny (model X.prog X.w) X.A (subscriptTail e (.Slice lo hi none p2) v (.ref s3.heap.objs.size)) (EP X pins σ Q) X.xe { s3 with heap:=s3.heap.push { cls:=.type "slice",data:=.fields #[vl,vu,.none] } }
 exact tail_any (ops:=[.ref s3.heap.objs.size,v]) ht hT hg (by with_unfolding_all rfl)
noncomputable def cutV (xs:List V)(lo hi:Option Int):List V:=(xs.drop (HT.sIx xs.length 0 lo)).take (HT.sIx xs.length xs.length hi - HT.sIx xs.length 0 lo)
theorem cutV_length (xs:List V)(lo hi:Option Int):(cutV xs lo hi).length<=xs.length:=by
 unfold cutV
 rw [List.length_take,List.length_drop]
 omega
noncomputable def rSlT (K:PySem.W.Frag):V->Option Int->Option Int->Hp->VK->Prop:=fun x lo hi H Q=>∃a xs,x=.ref a/\SqT K H a xs/\
 ¬(HT.sIx xs.length 0 lo=0/\HT.sIx xs.length xs.length hi=xs.length)/\∀p,H p=none->Q (.ref p) (upd H p (.tup (cutV xs lo hi)))
theorem sl_tup:SlR X (rSlT X.K):=by
 intro pins s σ H x v vl vu lo hi sl Q I rx hs pl pu h
 obtain ⟨a,xs,rfl,hx,hw,q⟩:=h
 cases rx
 obtain ⟨its,r,ht,hz⟩:=I.tuple hx
 have hlen:its.toArray.size=xs.length:=by rw [List.size_toArray]; exact r.length.symm
 refine ⟨"tuple",_,PyProof.Rows.slot_tuple_getitem.lookup,ht.typeIs,?_⟩
 refine HT.getItem_tuple_cut ht hs pl pu (by rw [hlen]; exact hw) ?_ (by rw [hlen]; exact hz)
 rw [hlen]
 refine ⟨.ref s.heap.objs.size,_,I.laid (t':=s.toks) (o:=.tup (cutV xs lo hi)) (fun b ob q=>Heap.get?_push_of_some _ q) (Nat.le_refl _) ?_,rfl,q _ (I.hok.fresh (Nat.le_refl _))⟩
 exact ⟨Nat.le_trans (cutV_length xs lo hi) hz,_,(r.drop (HT.sIx xs.length 0 lo)).take (HT.sIx xs.length xs.length hi - HT.sIx xs.length 0 lo),IsTup.new _ _⟩
noncomputable def rLtT (K:PySem.W.Frag):R2:=fun x y H Q=>∃a b ns ms,x=.ref a/\y=.ref b/\SqT K H a (ns.map V.int)/\SqT K H b (ms.map V.int)/\Q (.bl (HT.lexLt ns ms)) H
theorem op_ltT (hu:X.A.units<cLine):OpR X (compareOp .Lt) (rLtT X.K):=by
 intro pins s σ H x y v u Q I rx ry h
 obtain ⟨a,b,ns,ms,rfl,rfl,ha,hb,q⟩:=h
 cases rx
 cases ry
 obtain ⟨its,r1,p1,_⟩:=I.tuple ha
 obtain ⟨its2,r2,p2,_⟩:=I.tuple hb
 have i1:IntsAre its.toArray.toList ns:=intsAre_of r1
 have i2:IntsAre its2.toArray.toList ms:=intsAre_of r2
 exact HT.lt_tupInts p1 p2 i1 i2 hu ⟨.bl (HT.lexLt ns ms),H,I,rfl,q⟩
noncomputable def rCatT (K:PySem.W.Frag):R2:=fun x y H Q=>∃a b xs ys,x=.ref a/\y=.ref b/\SqT K H a xs/\SqT K H b ys/\xs≠[]/\xs.length+ys.length<=sizeLine/\
 (ys=[]->Q (.ref a) H)/\(ys≠[]->∀p,H p=none->Q (.ref p) (upd H p (.tup (xs++ys))))
theorem Vals.nil_iff {xs:List V}{us:List Value}(r:Vals xs us):us=[]↔xs=[]:=by
 cases r with
 |nil=>simp
 |cons _ _=>simp
theorem op_catT:OpR X (binaryOp .Add) (rCatT X.K):=by
 intro pins s σ H x y v u Q I rx ry h
 obtain ⟨a,b,xs,ys,rfl,rfl,ha,hb,hx,hz,q1,q2⟩:=h
 cases rx
 cases ry
 obtain ⟨its,r1,p1,_⟩:=I.tuple ha
 obtain ⟨its2,r2,p2,_⟩:=I.tuple hb
 refine HT.cat_tup p1 p2 (fun z=>hx (r1.nil_iff.mp z)) (fun z=>⟨.ref a,H,I,rfl,q1 (r2.nil_iff.mp z)⟩) (fun z=>?_) (by rw [← r1.length,← r2.length]; exact hz)
 refine ⟨.ref s.heap.objs.size,_,I.laid (t':=s.toks) (o:=.tup (xs++ys)) (fun b ob q=>Heap.get?_push_of_some _ q) (Nat.le_refl _) ?_,rfl,q2 (fun w=>z (r2.nil_iff.mpr w)) _ (I.hok.fresh (Nat.le_refl _))⟩
 exact ⟨by rw [List.length_append]; exact hz,_,r1.append r2,IsTup.new _ _⟩
end
open PySem PySem.Spec PyProof.Rows
noncomputable def ixN (n:Nat)(i:Int):Option Nat:=if 0<=i then (if i<n then some i.toNat else none) else if -(n:Int)<=i then some (i+n).toNat else none
noncomputable def atI {α:Type}(xs:List α)(i:Int):Option α:=(ixN xs.length i).bind fun j=>xs[j]?
theorem ixN_seq {n:Nat}{i:Int}{j:Nat}(h:ixN n i=some j):seqIndex? i n=some j/\j<n/\-(n:Int)<=i/\i<n:=by
 unfold ixN at h
 by_cases h0:0<=i
 ·rw [if_pos h0] at h
  by_cases h1:i<n
  ·rw [if_pos h1] at h
   have e:i.toNat=j:=Option.some.inj h
   exact ⟨by rw [seqIndex_of h0 h1,e],by omega,by omega,h1⟩
  ·rw [if_neg h1] at h; cases h
 ·rw [if_neg h0] at h
  by_cases h1:-(n:Int)<=i
  ·rw [if_pos h1] at h
   have e:(i+n).toNat=j:=Option.some.inj h
   exact ⟨by rw [seqIndex_neg (by omega) h1,e],by omega,h1,by omega⟩
  ·rw [if_neg h1] at h; cases h
theorem atI_get {α:Type}{xs:List α}{i:Int}{v:α}(h:atI xs i=some v):∃j,seqIndex? i xs.length=some j/\xs[j]? = some v/\j<xs.length/\-(xs.length:Int)<=i/\i<xs.length:=by
 unfold atI at h
 cases e:ixN xs.length i with
 |none=>rw [e] at h; cases h
 |some j=>
  rw [e] at h
  obtain ⟨h1,h2,h3,h4⟩:=ixN_seq e
  exact ⟨j,h1,h,h2,h3,h4⟩
noncomputable def PlainIx (b:Expr):Prop:=∀o i,subscripted b false o i=operate [o,i] (getItem o i)
noncomputable def IxR (X:Cx)(r:R2):Prop:=
 ∀(value slice:Expr) (pins:List (Addr×Obj)) (s:Shared) (σ:St) (H:Hp) (x y:V) (v u:Value) (Q:VK),Inv X pins σ H s->RelV x v->RelV y u->r x y H Q->
  subscripted slice false v u=operate [v,u] (getItem v u)->wpAny (model X.prog X.w) X.A (subscriptTail value slice v u) (EP X pins σ Q) X.xe s
noncomputable def MtR (X:Cx)(id:String)(r:V->List V->Hp->VK->Prop):Prop:=
 ∀(pins:List (Addr×Obj)) (s:Shared) (σ:St) (H:Hp) (x:V) (xs:List V) (v:Value) (us:List Value) (Q:VK),Inv X pins σ H s->RelV x v->Vals xs us->r x xs H Q->
  wpAny (model X.prog X.w) X.A (call (.builtin id) (v::us)) (EP X pins σ Q) X.xe s
section
variable {X:Cx}{a b:Expr}{ta tb:TE}{pos:Pos}
theorem pe_ix {r:R2}(hr:IxR X r)(ha:PE X a ta)(hb:PE X b tb)(hs:PlainIx b):PE X (.Subscript a b pos) (tOp r ta tb):=by
 intro pins s σ H Q I h
 exact Subscript_ (binT ha hb I h fun v u s2 x y H2 I2 rx ry q=>hr a b pins s2 σ H2 x y v u Q I2 rx ry q (hs _ _))
noncomputable def rIxL (K:PySem.W.Frag):R2:=fun x y H Q=>∃p xs i v,x=.ref p/\y=.int i/\SqL K H p xs/\atI xs i=some v/\Q v H
noncomputable def rIxT (K:PySem.W.Frag):R2:=fun x y H Q=>∃p xs i v,x=.ref p/\y=.int i/\SqT K H p xs/\atI xs i=some v/\Q v H
noncomputable def rIxS:R2:=fun x y H Q=>∃z i c,x=.str z/\y=.int i/\z.length<=sizeLine/\atI z.cps.toList i=some c/\Q (.str ⟨#[c]⟩) H
theorem ix_list:IxR X (rIxL X.K):=by
 intro value slice pins s σ H x y v u Q I rx ry h hs
 obtain ⟨p,xs,i,z,rfl,rfl,hq,he,q⟩:=h
 cases rx
 obtain ⟨t,rfl⟩:=ry
 obtain ⟨its,r,pl,hz⟩:=I.list hq
 obtain ⟨j,h1,h2,h3,h4,h5⟩:=atI_get he
 obtain ⟨w,ew,rw'⟩:=r.get h2
 have hl:=r.length
 have hn:=line63
 have fin:EP X pins σ Q w s:=⟨z,H,I,rw',q⟩
 by_cases h0:0<=i
 ·have hj:i.toNat=j:=by
   rw [seqIndex_of h0 h5] at h1
   exact Option.some.inj h1
  exact item_listR pl.isList h0 (by omega) (by rw [hj]; simpa using ew) fin hs
 ·have hj:(i+(its.toArray.size:Int)).toNat=j:=by
   rw [seqIndex_neg (by omega) h4] at h1
   rw [List.size_toArray,← hl]
   exact Option.some.inj h1
  exact subscriptTail_builtinR (x:=w) pl.isList.typeIs slot_list_getitem.lookup
   (wpAny_getItem_list_neg (Q:=fun r s'=>r=w/\EP X pins σ Q r s') pl.isList (by omega) (by rw [List.size_toArray] <;> omega) (by omega) (by rw [hj]; simpa using ew) ⟨rfl,fin⟩) hs
theorem ix_tup:IxR X (rIxT X.K):=by
 intro value slice pins s σ H x y v u Q I rx ry h hs
 obtain ⟨p,xs,i,z,rfl,rfl,hq,he,q⟩:=h
 cases rx
 obtain ⟨t,rfl⟩:=ry
 obtain ⟨its,r,pl,hz⟩:=I.tuple hq
 obtain ⟨j,h1,h2,h3,h4,h5⟩:=atI_get he
 obtain ⟨w,ew,rw'⟩:=r.get h2
 have hl:=r.length
 have hn:=line63
 have fin:EP X pins σ Q w s:=⟨z,H,I,rw',q⟩
 exact subscriptTail_builtinR (x:=w) pl.typeIs slot_tuple_getitem.lookup
  (getItem_tuple (j:=j) (Q:=fun r s'=>r=w/\EP X pins σ Q r s') pl (by omega) (by omega) (by rw [List.size_toArray,← hl]; exact h1) (by simpa using ew) ⟨rfl,fin⟩) hs
theorem ix_str:IxR X rIxS:=by
 intro value slice pins s σ H x y v u Q I rx ry h hs
 obtain ⟨z,i,c,rfl,rfl,hz,he,q⟩:=h
 obtain ⟨t,rfl⟩:=rx
 obtain ⟨t',rfl⟩:=ry
 obtain ⟨j,h1,h2,h3,h4,h5⟩:=atI_get he
 have hl:z.cps.toList.length=z.length:=by simp [Str.length]
 rw [hl] at h1 h4 h5
 have hn:=line63
 exact tail_any (typeIs_str s z t) slot_str_getitem.lookup (getItem_str (c:=c) (by
  have e1:decide (i < -(2 ^ 63:Int))=false:=decide_eq_false (by omega)
  have e2:decide (i ≥ 2 ^ 63)=false:=decide_eq_false (by omega)
  rw [e1,e2,Bool.or_false]) (by rw [h1]; simpa using h2) ⟨.str ⟨#[c]⟩,H,I.tok _,⟨_,rfl⟩,q⟩) hs
theorem mapSeq_set (its:List Value)(n j:Nat)(u:Value):Obj.mapSeq (·.setIfInBounds j u) { cls:=.type "list",data:=.seq its.toArray n }={ cls:=.type "list",data:=.seq (its.set j u).toArray n }:=by
 simp [Obj.mapSeq]
theorem Inv.lst {pins:List (Addr×Obj)}{σ:St}{H:Hp}{s:Shared}{p:Addr}{xs:List V}(I:Inv X pins σ H s)(h:H p=some (.lst xs)):
  ∃(its:List Value) (n:Nat),Vals xs its/\s.heap.get? p=some { cls:=.type "list",data:=.seq its.toArray n }/\xs.length<=sizeLine:=by
 obtain ⟨z,its,n,r,e⟩:=I.hok p _ h
 exact ⟨its,n,r,e,z⟩
theorem Inv.lstUpd {pins:List (Addr×Obj)}{σ:St}{H:Hp}{s:Shared}{p:Addr}{xs ys:List V}{its its':List Value}{n n':Nat}{f:Obj->Obj}(I:Inv X pins σ H s)(h:H p=some (.lst xs))
  (ho:s.heap.get? p=some { cls:=.type "list",data:=.seq its.toArray n }) (hf:f { cls:=.type "list",data:=.seq its.toArray n }={ cls:=.type "list",data:=.seq its'.toArray n' }) (r:Vals ys its') (hz:ys.length<=sizeLine) (t:Nat):
  Inv X pins σ (upd H p (.lst ys)) { s with heap:=s.heap.update p f,toks:=t }:=by
 have e:(s.heap.update p f).get? p=some { cls:=.type "list",data:=.seq its'.toArray n' }:=by
  rw [Heap.get?_update_self f ho (by rw [hf] <;> rfl),hf]
 refine I.write (x:=p) (e:=p) (by rw [h]; trivial) (.inl rfl) (fun b u hb q=>(Heap.get?_update_other _ _ (Ne.symm hb)).trans q) ⟨_,e⟩ ?_
 exact ⟨hz,its',n',r,e⟩
noncomputable def rSetL:V->V->V->Hp->(Hp->Prop)->Prop:=fun o i v H Q=>∃p xs k j,o=.ref p/\i=.int k/\H p=some (.lst xs)/\ixN xs.length k=some j/\Q (upd H p (.lst (xs.set j v)))
theorem set_list:PSet X rSetL:=by
 intro pins s σ H o i v ov iv u Q I ro ri rv h
 obtain ⟨p,xs,k,j,rfl,rfl,hp,hj,q⟩:=h
 cases ro
 obtain ⟨t,rfl⟩:=ri
 obtain ⟨its,n,r,ho,hz⟩:=I.lst hp
 obtain ⟨h1,h2,h3,h4⟩:=ixN_seq hj
 have hl:=r.length
 have hn:=line63
 have I':Inv X pins σ (upd H p (.lst (xs.set j v))) { s with heap:=s.heap.update p (Obj.mapSeq (·.setIfInBounds j u)) }:=
  I.lstUpd hp ho (mapSeq_set its n j u) (r.set rv j) (by rw [List.length_set]; exact hz) s.toks
 by_cases h0:0<=k
 ·have hk:k.toNat=j:=by
   rw [seqIndex_of h0 h4] at h1
   exact Option.some.inj h1
  exact PySem.W.ki_setAt ho h0 (by omega) (by rw [List.size_toArray,← hl]; exact h4) (by rw [hk]; exact ⟨_,I',q⟩)
 ·have hk:(k+(its.toArray.size:Int)).toNat=j:=by
   rw [seqIndex_neg (by omega) h3] at h1
   rw [List.size_toArray,← hl]
   exact Option.some.inj h1
  exact PySem.W.ki_setBack ho (by omega) (by rw [List.size_toArray,← hl]; exact h3) (by omega) (by rw [hk]; exact ⟨_,I',q⟩)
theorem slice_bounds (lo hi:Option Int)(n:Nat):(sliceBounds lo hi none n).1=((HT.sIx n 0 lo:Nat):Int)/\(sliceBounds lo hi none n).2.1=((HT.sIx n n hi:Nat):Int)/\(sliceBounds lo hi none n).2.2=1:=by
 refine ⟨?_,?_,rfl⟩
 ·cases lo with
  |none=>simp [sliceBounds,HT.sIx]
  |some i=>
   simp only [sliceBounds,HT.sIx,Option.getD_none,show (1:Int) > 0 by decide,if_true]
   by_cases h:i<0
   ·simp only [h,if_true] <;> omega
   ·simp only [h,if_false] <;> omega
 ·cases hi with
  |none=>simp [sliceBounds,HT.sIx]
  |some i=>
   simp only [sliceBounds,HT.sIx,Option.getD_none,show (1:Int) > 0 by decide,if_true]
   by_cases h:i<0
   ·simp only [h,if_true] <;> omega
   ·simp only [h,if_false] <;> omega
theorem slicePick_cut (its:List Value)(lo hi:Option Int):slicePick its.toArray lo hi none=((its.drop (HT.sIx its.length 0 lo)).take (HT.sIx its.length its.length hi - HT.sIx its.length 0 lo)).toArray:=by
 obtain ⟨h1,h2,h3⟩:=slice_bounds lo hi its.toArray.size
 unfold slicePick
 rw [h1,h2,h3]
 simp only [sliceRange_one,pick_run,List.size_toArray] <;> rfl
noncomputable def rSlL (K:PySem.W.Frag):V->Option Int->Option Int->Hp->VK->Prop:=fun x lo hi H Q=>∃a xs,x=.ref a/\SqL K H a xs/\∀p,H p=none->Q (.ref p) (upd H p (.lst (cutV xs lo hi)))
theorem sl_list:SlR X (rSlL X.K):=by
 intro pins s σ H x v vl vu lo hi sl Q I rx hs pl pu h
 obtain ⟨a,xs,rfl,hx,q⟩:=h
 cases rx
 obtain ⟨its,r,ht,hz⟩:=I.list hx
 have hlen:=r.length
 refine ⟨"list",_,slot_list_getitem.lookup,ht.isList.typeIs,?_⟩
 refine wpAny_getItem_list_slice ht.isList hs pl pu .none (by simp) ?_ (by rw [List.size_toArray] <;> omega)
 rw [slicePick_cut,← hlen]
 refine ⟨.ref s.heap.objs.size,_,I.laid (t':=s.toks) (o:=.lst (cutV xs lo hi)) (fun b ob q=>Heap.get?_push_of_some _ q) (Nat.le_refl _) ?_,rfl,q _ (I.hok.fresh (Nat.le_refl _))⟩
 exact ⟨Nat.le_trans (cutV_length xs lo hi) hz,_,0,(r.drop (HT.sIx xs.length 0 lo)).take (HT.sIx xs.length xs.length hi - HT.sIx xs.length 0 lo),Heap.get?_push_size _ rfl⟩
theorem call_len_seq:CallR X (.builtin "len") (fun xs H Q=>∃p ys,xs=[.ref p]/\(SqL X.K H p ys\/SqT X.K H p ys)/\Q (.int ys.length) H):=by
 intro pins s σ H xs us Q I r h
 obtain ⟨p,ys,rfl,hq,q⟩:=h
 obtain ⟨u,rfl,rx⟩:=vals1 r
 cases rx
 have hn:=line63
 rcases hq with hq | hq
 ·obtain ⟨its,r',pl,hz⟩:=I.list hq
  have hlen:=r'.length
  exact Calls.call_len_list pl.isList (by simp only [List.size_toArray] <;> omega) ⟨.int ys.length,H,I.tok _,⟨s.toks+1,by rw [List.size_toArray,hlen]⟩,q⟩
 ·obtain ⟨its,r',pl,hz⟩:=I.tuple hq
  have hlen:=r'.length
  exact len_tuple pl (by simp only [List.size_toArray] <;> omega) ⟨.int ys.length,H,I.tok _,⟨s.toks+1,by rw [List.size_toArray,hlen]⟩,q⟩
theorem call_len_str:CallR X (.builtin "len") (fun xs H Q=>∃z,xs=[.str z]/\z.length<=sizeLine/\Q (.int z.length) H):=by
 intro pins s σ H xs us Q I r h
 obtain ⟨z,rfl,hz,q⟩:=h
 obtain ⟨u,rfl,t,rfl⟩:=vals1 r
 have hn:=line63
 exact len_str (by omega) ⟨.int z.length,H,I.tok _,⟨_,rfl⟩,q⟩
theorem call_list_of:CallR X (.type "list") (fun xs H Q=>∃p ys,xs=[.ref p]/\(SqL X.K H p ys\/SqT X.K H p ys)/\∀l,H l=none->Q (.ref l) (upd H l (.lst ys))):=by
 intro pins s σ H xs us Q I r h
 obtain ⟨p,ys,rfl,hq,q⟩:=h
 obtain ⟨u,rfl,rx⟩:=vals1 r
 cases rx
 have fin:∀(its:List Value),Vals ys its->ys.length<=sizeLine->∀(h':Heap) (c':Nat),(∀b o',s.heap.get? b=some o'->h'.get? b=some o')->
   h'.get? s.heap.objs.size=some { cls:=.type "list",dict:=none,data:=.seq its.toArray c',slots:=#[] }->EP X pins σ Q (.ref s.heap.objs.size) { s with heap:=h' }:=fun its r' hz h' c' kp e=>
  ⟨.ref s.heap.objs.size,_,I.laid (t':=s.toks) kp (Nat.le_refl _) (show ObjOk X.prog X.w _ h' _ (.lst ys) from ⟨hz,its,c',r',e⟩),rfl,q _ (I.hok.fresh (Nat.le_refl _))⟩
 rcases hq with hq | hq
 ·obtain ⟨its,r',pl,hz⟩:=I.list hq
  have hlen:=r'.length
  obtain ⟨o,ho,hc,n,hd⟩:=pl.isList
  exact call_list_seq p (.inl rfl) ho hc hd (fun h' c' kp e=>fin its r' hz h' c' kp e) (by simp only [List.size_toArray] <;> omega)
 ·obtain ⟨its,r',pl,hz⟩:=I.tuple hq
  have hlen:=r'.length
  obtain ⟨o,ho,hc,n,hd⟩:=pl
  exact call_list_seq p (.inr rfl) ho hc hd (fun h' c' kp e=>fin its r' hz h' c' kp e) (by simp only [List.size_toArray] <;> omega)
noncomputable def tyV (K:PySem.W.Frag)(T:String)(x:V)(H:Hp):Prop:=match x with
 | .str _=>T = "str"
 | .int _=>T = "int"
 | .ref p=>(T = "list"/\∃xs,SqL K H p xs)\/(T = "tuple"/\∃o,K.lookup p=some o/\o.cls=.type "tuple"/\o.dict=none) ∨
   (T = "dict"/\((∃kvs,H p=some (.dK kvs))\/∃T kvs,Rd H p (.dT T kvs)))\/(T = "set"/\∃S n,H p=some (.set S n))
 |_=>False
theorem tyV_is {pins:List (Addr×Obj)}{σ:St}{H:Hp}{s:Shared}{T:String}{x:V}{v:Value}(I:Inv X pins σ H s)(r:RelV x v)(ty:tyV X.K T x H):
  s.TypeIs v T/\∀a,v=.ref a->∃ob,s.heap.get? a=some ob/\ob.dict=none:=by
 cases x with
 |str z=>
  obtain ⟨t,rfl⟩:=r
  cases (show T = "str" from ty)
  exact ⟨typeIs_str s z t,fun _ e=>nomatch e⟩
 |int i=>
  obtain ⟨t,rfl⟩:=r
  cases (show T = "int" from ty)
  exact ⟨typeIs_int s i t,fun _ e=>nomatch e⟩
 |ref p=>
  cases r
  rcases ty with ⟨rfl,xs,hq⟩ | ⟨rfl,o,hk,hc,hd⟩ | ⟨rfl,hk⟩ | ⟨rfl,S,n,hk⟩
  ·obtain ⟨its,_,pl,_⟩:=I.list hq
   refine ⟨pl.isList.typeIs,fun a e=>?_⟩
   cases e
   obtain ⟨o,n,e,c,hd,_⟩:=pl
   exact ⟨o,e,hd⟩
  ·refine ⟨⟨o,I.kIn p o hk,hc⟩,fun a e=>?_⟩
   cases e
   exact ⟨o,I.kIn _ o hk,hd⟩
  ·have z:∃o,s.heap.get? p=some o/\o.ExactDict:=by
    rcases hk with ⟨kvs,hk⟩ | ⟨_,kvs,hk⟩
    ·obtain ⟨_,_,_,_,o,_,_,e,ex,_⟩:=I.hok p _ hk
     exact ⟨o,e,ex⟩
    ·obtain ⟨_,_,_,_,o,_,_,e,ex,_⟩:=(show ObjOk X.prog X.w H s.heap p (.dT _ kvs) from hk.ok I.hok)
     exact ⟨o,e,ex⟩
   obtain ⟨o,e,ex⟩:=z
   refine ⟨⟨o,e,ex.1⟩,fun a e2=>?_⟩
   cases e2
   exact ⟨o,e,ex.2.1⟩
  ·obtain ⟨o,_,_,_,e,ex,_⟩:=I.hok p _ hk
   refine ⟨⟨o,e,ex.1⟩,fun a e2=>?_⟩
   cases e2
   exact ⟨o,e,ex.2.1⟩
 |_=>exact False.elim ty
noncomputable def tBM0 (K:PySem.W.Frag)(T:String)(r:V->List V->Hp->VK->Prop)(to:TE):TE:=fun σ H Q=>to σ H fun x H1=>tyV K T x H1/\r x [] H1 Q
noncomputable def tBM (K:PySem.W.Frag)(T:String)(r:V->List V->Hp->VK->Prop)(to:TE)(t:TA):TE:=fun σ H Q=>to σ H fun x H1=>tyV K T x H1/\t σ H1 fun xs H2=>r x xs H2 Q
variable {o e:Expr}{es:List Expr}{to:TE}{t:TA}{name:Str}{apos cpos:Pos}{T id:String}{r:V->List V->Hp->VK->Prop}
theorem pe_bm0 (pa:PlainAttrs T)(slot:Slot T name id)(hty:typeOf (.builtin id)=pure (.type "method_descriptor"))(hm:MtR X id r)(ho:PE X o to)
  (hbase:attributeBase o name X.env (eval o X.env)=eval o X.env:=by rfl) (hline:(apos.endLine == cpos.line)=true:=by rfl):PE X (.Call (.Attribute o name apos) [] [] cpos) (tBM0 X.K T r to):=by
 intro pins s σ H Q I h
 refine wpAny_Call_method0_late hbase hline (thn (ho pins s σ H _ I h) fun v s1 ⟨x,H1,I1,r1,ty,q1⟩=>?_)
 obtain ⟨h1,h2⟩:=tyV_is I1 r1 ty
 exact ⟨T,id,pa,slot,hty,h1,h2,Calls.callWith_builtin rfl (PySem.evalArgs_none (hm pins s1 σ H1 x [] v [] Q I1 r1 .nil q1))⟩
theorem pe_bm (pa:PlainAttrs T)(slot:Slot T name id)(hty:typeOf (.builtin id)=pure (.type "method_descriptor"))(hm:MtR X id r)(ho:PE X o to)(ha:PA X (e::es) t)
  (hbase:attributeBase o name X.env (eval o X.env)=eval o X.env:=by rfl)
  (hfew:((backTo cpos (starEach (e::es) X.env)).all (fun x=>!x.1) && (backToKw cpos (keywordEach [] X.env)).all (fun x=>x.1.isSome)
   && decide ((e::es).length+([]:List Keyword).length+(if ([]:List Keyword).isEmpty then 0 else 1)<30))=true:=by rfl)
  (hline:(apos.endLine == cpos.line)=true:=by rfl) (hs:starEach (e::es) X.env=(false,eval e X.env)::starEach es X.env:=by rfl) (hplain:(backTo cpos (starEach es X.env)).any (·.1)=false:=by rfl):
  PE X (.Call (.Attribute o name apos) (e::es) [] cpos) (tBM X.K T r to t):=by
 intro pins s σ H Q I h
 refine wpAny_Call_method_late hbase hfew hline rfl (thn (ho pins s σ H _ I h) fun v s1 ⟨x,H1,I1,r1,ty,q1⟩=>?_)
 obtain ⟨h1,h2⟩:=tyV_is I1 r1 ty
 refine ⟨T,id,pa,slot,hty,h1,h2,?_⟩
 have hA:=ha cpos pins s1 σ H1 _ I1 q1
 rw [hs] at hA ⊢
 refine Calls.callWith_builtin (by show (false || (backTo cpos (starEach es X.env)).any (·.1))=false; rw [hplain] <;> rfl) (Calls.evalArgs_plain ?_)
 exact thn hA fun us s2 hE=>xq2 hE fun vs H2 I2 r2 q2=>hm pins s2 σ H2 x vs v us Q I2 r1 r2 q2
end
open PySem PySem.Spec PyProof.Rows
noncomputable def MtM (X:Cx)(id:String)(r:V->List V->Hp->VK->Prop):Prop:=
 ∀(pins:List (Addr×Obj)) (s:Shared) (σ:St) (H:Hp) (x:V) (xs:List V) (v:Value) (us:List Value) (Q:VK),Inv X pins σ H s->RelV x v->Vals xs us->r x xs H Q->
  wpAny (model X.prog X.w) X.A (call (.builtin id) (v::us)) (EP X pins σ Q) X.xe s
theorem Vals.one:∀{x:V} {us:List Value},Vals [x] us->∃u,us=[u]/\RelV x u
 |_,_,.cons r .nil=>⟨_,rfl,r⟩
theorem Vals.zero:∀{us:List Value},Vals [] us->us=[]
 |_,.nil=>rfl
theorem Vals.dropLast {xs:List V}{us:List Value}(h:Vals xs us):Vals xs.dropLast us.dropLast:=by
 induction h with
 |nil=>exact .nil
 |cons r t ih=>
  cases t with
  |nil=>exact .nil
  |cons q t'=>exact .cons r ih
theorem Vals.eraseIdx:∀{xs:List V} {us:List Value} (i:Nat),Vals xs us->Vals (xs.eraseIdx i) (us.eraseIdx i)
 |_,_,_,.nil=>.nil
 |_,_,0,.cons _ t=>t
 |_,_,i+1,.cons r t=>.cons r (Vals.eraseIdx i t)
theorem Vals.reverse {xs:List V}{us:List Value}(h:Vals xs us):Vals xs.reverse us.reverse:=by
 induction h with
 |nil=>exact .nil
 |cons r t ih=>rw [List.reverse_cons,List.reverse_cons]; exact Vals.append ih (.cons r .nil)
theorem erase_last {α:Type}(l:List α):l.eraseIdx (l.length - 1)=l.dropLast:=by
 induction l with
 |nil=>rfl
 |cons a r ih=>
  cases r with
  |nil=>rfl
  |cons b r=>
   have e:(a::b::r).length - 1=((b::r).length - 1)+1:=by
    have h1:(a::b::r).length=r.length+2:=rfl
    have h2:(b::r).length=r.length+1:=rfl
    omega
   rw [e,List.eraseIdx_cons_succ,ih]
   all_goals rfl
section
variable {X:Cx}{pins:List (Addr×Obj)}{σ:St}{H:Hp}{s:Shared}{l b:Addr}{xs ys zs:List V}
theorem Inv.lset {its its':List Value}{n:Nat}{f:Array Value->Array Value}{t':Nat}(I:Inv X pins σ H s)(hH:H l=some (.lst xs))
  (e:s.heap.get? l=some { cls:=.type "list",data:=.seq its.toArray n }) (hf:f its.toArray=its'.toArray) (hv:Vals ys its') (hz:ys.length<=sizeLine):
  Inv X pins σ (upd H l (.lst ys)) { s with heap:=s.heap.update l (Obj.mapSeq f),toks:=t' }:=by
 have q:=PySem.IsL.update e f
 rw [hf] at q
 refine I.write (x:=l) (e:=l) (by rw [hH]; exact trivial) (.inl rfl) (fun b' u hb hu=>(Heap.get?_update_other s.heap (Obj.mapSeq f) (Ne.symm hb)).trans hu) ⟨_,q⟩ ?_
 exact ⟨hz,its',_,hv,q⟩
theorem Inv.lstM (I:Inv X pins σ H s)(hH:H l=some (.lst xs)):xs.length<=sizeLine/\∃(its:List Value) (n:Nat),Vals xs its/\xs.length=its.length/\s.heap.get? l=some { cls:=.type "list",data:=.seq its.toArray n }:=by
 obtain ⟨z,its,n,r,e⟩:=I.hok l _ hH
 exact ⟨z,its,n,r,r.length,e⟩
end
section
variable {X:Cx}
noncomputable def rAppend:V->List V->Hp->VK->Prop:=fun x vs H Q=>∃l xs y,x=.ref l/\vs=[y]/\H l=some (.lst xs)/\xs.length<sizeLine/\Q .non (upd H l (.lst (xs++[y])))
theorem mt_append:MtM X "list.append" rAppend:=by
 intro pins s σ H x vs v us Q I rx rv h
 obtain ⟨l,xs,y,rfl,rfl,hH,hz,q⟩:=h
 cases rx
 obtain ⟨u,rfl,ru⟩:=rv.one
 obtain ⟨z,its,n,r,hl,e⟩:=I.lstM hH
 refine call_meets F.slot_list_append ⟨_,e,rfl⟩ F.entry_list_append (F.args_list_append_2 _ _) (PySem.list_append l its.toArray n u (by rw [List.size_toArray]; omega)) ⟨e,?_⟩
 refine ⟨.non,_,I.lset (its':=its++[u]) hH e (by simp) (r.append (.cons ru .nil)) ?_,rfl,q⟩
 rw [List.length_append,List.length_singleton]
 omega
noncomputable def rPop:V->List V->Hp->VK->Prop:=fun x vs H Q=>∃l xs y,x=.ref l/\vs=[]/\H l=some (.lst xs)/\xs[xs.length - 1]? = some y/\Q y (upd H l (.lst xs.dropLast))
theorem mt_pop:MtM X "list.pop" rPop:=by
 intro pins s σ H x vs v us Q I rx rv h
 obtain ⟨l,xs,y,rfl,rfl,hH,hy,q⟩:=h
 cases rx
 have hus:=rv.zero
 subst hus
 obtain ⟨z,its,n,r,hl,e⟩:=I.lstM hH
 obtain ⟨u,hu,ru⟩:=r.get hy
 have hy':its.toArray[its.toArray.size - 1]? = some u:=by
  show its.toArray[its.length - 1]? = some u
  rw [← Array.getElem?_toList,← hl]
  exact hu
 refine call_meets F.slot_list_pop ⟨_,e,rfl⟩ F.entry_list_pop (F.args_list_pop_1 _) (MeetsSeq.list_pop_last l its.toArray n u hy' (by rw [List.size_toArray]; omega)) ⟨e,?_⟩
 refine ⟨y,_,I.lset (its':=its.dropLast) hH e ?_ r.dropLast ?_,ru,q⟩
 ·show its.toArray.eraseIdxIfInBounds (its.toArray.size - 1)=its.dropLast.toArray
  rw [List.size_toArray,List.eraseIdxIfInBounds_toArray,erase_last]
 ·rw [List.length_dropLast]
  omega
noncomputable def rClear:V->List V->Hp->VK->Prop:=fun x vs H Q=>∃l xs,x=.ref l/\vs=[]/\H l=some (.lst xs)/\Q .non (upd H l (.lst []))
theorem mt_clear:MtM X "list.clear" rClear:=by
 intro pins s σ H x vs v us Q I rx rv h
 obtain ⟨l,xs,rfl,rfl,hH,q⟩:=h
 cases rx
 have hus:=rv.zero
 subst hus
 obtain ⟨z,its,n,r,hl,e⟩:=I.lstM hH
 refine call_meets F.slot_list_clear ⟨_,e,rfl⟩ F.entry_list_clear (F.args_list_clear_1 _) (AutoSeq1.list_clear_list_0 l its.toArray n (by rw [List.size_toArray]; omega)) ⟨e,?_⟩
 exact ⟨.non,_,I.lset (its':=[]) (ys:=[]) hH e rfl .nil (Nat.zero_le _),rfl,q⟩
end
section
variable {prog:Program}{w:World}{A:Around}{E:Value->Shared->Prop}{s:Shared}
end
section
variable {X:Cx}
end
end L2
namespace Att
open PySem PySem.W PySem.Calls PyProof.Rows
theorem ints_of_wellAll {P:Params}{h:Heap}:∀(ns:List Int) (vs:List Value),WellAll P h vs (ns.map WData.int)->IntsAre vs ns:=by
 intro ns
 induction ns with
 |nil=>
  intro vs w
  rw [List.map_nil] at w
  cases w
  exact .nil
 |cons n ns ih=>
  intro vs w
  rw [List.map_cons] at w
  cases w with
  |cons a b=>
   cases a
   exact .cons _ _ (ih _ b)
theorem script_of {l:OpenLaw}{n:Nat}(hn:l.most=some n){P:Params}{h:Heap}{args:List WData}{vals:List Value}
  (hpre:l.row.toRowW.claim.pre args=true) (hwl:WellAll P h vals args):
  ∃a vs ns,vals=[Value.ref a]/\args=[WData.list (ns.map WData.int)]/\h.get? a=some { cls:=.type "list",data:=.seq vs.toArray }/\IntsAre vs ns/\ns.length<=n:=by
 have hsh:WShape.hasAll [] args [.list .int]=true:=(pre_splitW hpre).1
 have hc:l.pre.holds [] { args:=args }=true:=(pre_splitW hpre).2
 obtain ⟨d,r,rfl,h1,h2⟩:=hasAllW_cons hsh
 obtain rfl:=hasAllW_nil h2
 obtain ⟨xs,rfl,h3⟩:=hasW_list h1
 obtain ⟨ns,rfl⟩:=items_int h3
 have hlen:ns.length<=n:=by
  unfold OpenLaw.pre at hc
  have h4:(WTm.not (.lt (.lit (.int (n:Int))) (.len (.arg 0)))).holds [] { args:=[.list (ns.map .int)] }=true:=by
   have h4:=(holds_andW hc).1
   rw [hn] at h4
   exact h4
  have h5:=condW_of h4 (w_not (w_lt w_lit (w_len_list (w_arg rfl))))
  rw [List.length_map] at h5
  refine Nat.le_of_not_lt fun q=>?_
  have q':(n:Int)<((ns.length:Nat):Int):=by omega
  first
   |(rw [decide_eq_true q'] at h5; exact absurd h5 (by decide))
   |(simp at h5; omega)
 cases hwl with
 |cons w1 w2=>
  cases w2
  cases w1 with
  |list ho hall=>exact ⟨_,_,ns,rfl,rfl,ho,ints_of_wellAll ns _ hall,hlen⟩
theorem post_true (l:OpenLaw)(args:List WData):l.row.toRowW.claim.post args (.bool true) args=true:=
 postW_of (r:=l.row.toRowW) (X:=(true == true))
  (show WShape.has [] (.bool true) .bool=true by first | rfl | decide | simp [WShape.has,WShape.arms,WShape.armsAll])
  (show (WTm.eq .res (.lit (.bool true))).value [] { args:=args,res:=some (.bool true),after:=args }=some (.bool (true == true)) from w_eq_bool (w_res rfl) w_lit) rfl
theorem attach_call {l:OpenLaw}{n:Nat}{q:Program}{loose:List Str}{XP:(Str->Option Value)->Heap->Prop}{YP:World->Heap->Prop}{d:DefRec}
  (hn:l.most=some n) (hdf:d.params.defaults=[])
  (call:∀(w:World) (s₀ s₁:Shared) (mg mb:Str->Option Value) (fa:Addr) (o:Obj) (pm cd doc:Value) (a:Addr) (vs:List Value) (ns:List Int),
   Ground q loose [] XP w s₀ mg mb s₁.heap->YP w s₁.heap->
   s₁.heap.get? fa=some o->o.data=.func (docDef d.name d.params d.body d.scope pm cd doc)->s₁.heap.CodeRec cd d.name->mg d.name=some (.ref fa)->
   s₁.heap.get? a=some { cls:=.type "list",data:=.seq vs.toArray }->IntsAre vs ns->ns.length<=n->s₁.gens=#[]->
   codeAny (model l.prog w) callerA (.call (.ref fa) ⟨[.ref a],[]⟩) (fun r s'=>r=.ok (.ret (.bool true))/\OldK s₁.heap s'.heap/\s'.os=s₁.os/\AllBare s'.gens) s₁):
  WalkO q loose XP YP l.row.toRowW d [] (fun f vs=>PySem.call f vs):=by
 intro w s₀ s₁ mg mb G Y fa o pm cd doc dV kV ho hd hcd hD hmg hg args vals as hpre hlay hrd hwl hlo
 obtain rfl:dV=.none:=Dflts.none hD hdf
 obtain rfl:kV=.none:=Dflts.noKw hD
 obtain ⟨a,vs,ns,rfl,rfl,hobj,hints,hlen⟩:=script_of hn hpre hwl
 refine enter_call (codeAny_mono (call w s₀ s₁ mg mb fa o pm cd doc a vs ns G Y ho (fd_plain hd) hcd hmg hobj hints hlen hg) fun r s' hq=>?_)
 obtain ⟨rfl,h2,h3,h4⟩:=hq
 exact ⟨.inl ⟨.bool true,.bool true,[],rfl,fun _=>rfl,.bool true,post_true l _,fun _=>⟨List.Pairwise.nil,fun _ hm=>(nomatch hm)⟩⟩,h2,h3,h4⟩
section
variable {prog:Program}{w:World}{A:Around}{E:Value->Shared->Prop}{s:Shared}{K:Frag}
end
end Att
namespace L2
open PySem PySem.Spec PyProof.Rows
theorem vals_ints:∀{vs:List Value} {ns:List Int},IntsAre vs ns->Vals (ns.map V.int) vs
 |_,_,.nil=>.nil
 |_,_,.cons n t h=>.cons ⟨t,rfl⟩ (vals_ints h)
noncomputable def Only (H:Hp):Prop:=∀b,H b=none\/∃o xs,H b=some (.frz o (.lst xs))
theorem law_call {P:Program}{w:World}{K:PySem.W.Frag}{mg mb:Str->Option Value}{CX:CXT}{k:Nat}{fa a:Addr}{fd:FuncData}{x:Str}{sp:Sp}{s₁:Shared}{vs:List Value}{ns:List Int}
  (KX:K.In s₁.heap) (hns:s₁.heap.Ns mainGlobals mg) (hb:s₁.heap.Ns builtinsNs mb) (hbb:∀x:Str,x≠"__name__"->mb x=bootBuiltins x) (hlim:s₁.heap.NoLimit) (hg:s₁.gens=#[])
  (ha:s₁.heap.get? a=some { cls:=.type "list",data:=.seq vs.toArray }) (hi:IntsAre vs ns) (hl:ns.length<=sizeLine) (hr:Room k callerA)
  (F:∀base:Heap,K.In base->base.Ns mainGlobals mg->FnOk P w K mg base CX k fa fd [x] sp) (hbind:∀(s:Shared) (u:Value),BindsTo s fd ⟨[u],[]⟩ [(x,u)])
  (hsp:∀H:Hp,Only H->SqL K H a (ns.map V.int)->sp [.ref a] H (fun v _=>v=.bl true) fun _ _ _=>False)
  (hCX:∀H e s',CX [] H s₁ (fun _ _ _=>False) e s'->False):
  codeAny (model P w) callerA (.call (.ref fa) ⟨[.ref a],[]⟩) (fun r s'=>r=.ok (.ret (.bool true))/\OldK s₁.heap s'.heap/\s'.os=s₁.os/\AllBare s'.gens) s₁:=by
 have rv:=vals_ints hi
 have lenV:=hi.length
 have core:∀H:Hp,Only H->SqL K H a (ns.map V.int)->HOk P w H s₁.heap->(∀b,H b≠none->b=a)->(H a≠none->K.lookup a=none)->
   codeAny (model P w) callerA (.call (.ref fa) ⟨[.ref a],[]⟩) (fun r s'=>r=.ok (.ret (.bool true))/\OldK s₁.heap s'.heap/\s'.os=s₁.os/\AllBare s'.gens) s₁:=by
  intro H hO hS hok hA hK
  have base_of:∀{b:Addr} {o:Obj},s₁.heap.get? b=some o->H b=none->(hidT s₁.heap H).get? b=some o:=fun e n=>hidT_get e n
  have noA:∀{b:Addr} {o:Obj} {es:Array DictEntry} {ep:Nat},s₁.heap.get? b=some o->o.data=.dict es ep->H b=none:=fun {b o es ep} e d=>by
   cases q:H b with
   |none=>rfl
   |some u=>
    have e':b=a:=hA b (by rw [q]; simp)
    subst e'
    rw [ha] at e; cases e
    have d':Data.seq vs.toArray _=Data.dict es ep:=d
    cases d'
  have nsK:∀{b:Addr} {m:Str->Option Value},s₁.heap.Ns b m->(hidT s₁.heap H).Ns b m:=fun {b m} ⟨o,es,ep,e,d,r⟩=>⟨o,es,ep,base_of e (noA e d),d,r⟩
  have hKb:K.In (hidT s₁.heap H):=fun b o e=>base_of (KX b o e) (by
   cases q:H b with
   |none=>rfl
   |some u=>
    have e':b=a:=hA b (by rw [q]; simp)
    subst e'
    rw [hK (by rw [q]; simp)] at e; cases e)
  have hM:Mod K mg (hidT s₁.heap H):=⟨hKb,nsK hns,⟨mb,nsK hb,hbb⟩,let ⟨mc,h1,h2⟩:=hlim; ⟨mc,nsK h1,h2⟩⟩
  have e0:Env0 P w K mg (hidT s₁.heap H) callerA [] s₁ H:=⟨rfl,hM,fun b o e=>of_hidT e,Nat.le_of_eq (hidT_size _ _),trivial,fun b hb=>absurd (show b∈([]:List Addr) from hb) (by simp),hok,.of_eq hg⟩
  refine codeAny_mono ((F _ hKb (nsK hns)).run callerA [] s₁ H ⟨[.ref a],[]⟩ [.ref a] [.ref a] _ _ hr e0 (hbind s₁ (.ref a)) (.cons rfl .nil) (hsp H hO hS)) fun r s' h=>?_
  cases r with
  |error e=>exact (hCX H e s' h).elim
  |ok fl=>
   cases fl with
   |next=>exact False.elim h
   |brk=>exact False.elim h
   |cont=>exact False.elim h
   |ret u=>
    obtain ⟨v,H',os,bare,un,hok',r',q⟩:=h
    have q':v=.bl true:=q
    subst q'
    obtain rfl:u=Value.bool true:=r'
    refine ⟨rfl,OldK.of_keep fun b o e=>?_,os,bare⟩
    cases q:H b with
    |none=>exact un.keep b o e q (by intro z; exact absurd (show b∈([]:List Addr) from z) (by simp)) (by simp)
    |some u=>
     rcases hO b with z | ⟨ob,xs,z⟩
     ·rw [q] at z; cases z
     ·have z2:=un.frzs b ob _ z
      obtain ⟨e1,_⟩:=hok b _ z
      obtain ⟨e2,_⟩:=hok' b _ z2
      rw [e] at e1; cases e1
      exact e2
 cases hk:K.lookup a with
 |some o=>
  have e:=KX a o hk
  rw [ha] at e
  cases e
  refine core (fun _=>none) (fun _=>.inl rfl) (.inr ⟨_,vs.toArray,_,hk,rfl,rfl,rfl,by rw [List.size_toArray,lenV]; exact hl,by simpa using rv⟩) (fun b u z=>by have z':(none:Option HO)=some u:=z; cases z') (fun b z=>absurd rfl z) fun z=>absurd rfl z
 |none=>
  refine core (fun b=>if b=a then some (.frz { cls:=.type "list",data:=.seq vs.toArray } (.lst (ns.map V.int))) else none) (fun b=>?_) (.inl (.inr ⟨{ cls:=.type "list",data:=.seq vs.toArray },if_pos rfl⟩)) (fun b u z=>?_) (fun b z=>?_) fun _=>hk
  ·by_cases hb:b=a
   ·exact .inr ⟨_,_,if_pos hb⟩
   ·exact .inl (if_neg hb)
  ·by_cases hb:b=a
   ·have z':=(if_pos hb).symm.trans z
    cases z'
    subst hb
    exact ⟨ha,by rw [List.length_map]; exact hl,vs,_,rv,ha⟩
   ·have z':=(if_neg hb).symm.trans z
    cases z'
  ·by_cases hb:b=a
   ·exact hb
   ·exact absurd (if_neg hb) z
open PySem PySem.Spec PyProof.Rows
theorem walk_of {l:PySem.W.OpenLaw}{n k:Nat}{q:Program}{loose:List Str}{XP:(Str->Option Value)->Heap->Prop}{YP:World->Heap->Prop}{d:DefRec}{K:Params->PySem.W.Frag}{CX:World->CXT}{sp:World->Sp}{x:Str}
  (hn:l.most=some n) (hn2:n<=sizeLine) (hdf:d.params.defaults=[]) (hr:Room k callerA)
  (hY:∀(w:World) (h:Heap),YP w h->(K w.params).In h)
  (F:∀(w:World) (mg:Str->Option Value) (fa:Addr) (h:Heap),(K w.params).In h->h.Ns mainGlobals mg->mg d.name=some (.ref fa)->
   ∃fd:FuncData,(∀(s:Shared) (u:Value),BindsTo s fd ⟨[u],[]⟩ [(x,u)])/\
    ∀base:Heap,(K w.params).In base->base.Ns mainGlobals mg->FnOk l.prog w (K w.params) mg base (CX w) k fa fd [x] (sp w))
  (hsp:∀(w:World) (H:Hp) (a:Addr) (ns:List Int),ns.length<=n->Only H->SqL (K w.params) H a (ns.map V.int)->sp w [.ref a] H (fun v _=>v=.bl true) fun _ _ _=>False)
  (hCX:∀(w:World) (H:Hp) (s:Shared) (e:Value) (s':Shared),CX w [] H s (fun _ _ _=>False) e s'->False):
  PySem.W.WalkO q loose XP YP l.row.toRowW d [] (fun f vs=>PySem.call f vs):=by
 refine Att.attach_call hn hdf fun w s₀ s₁ mg mb fa o pm cd doc a vs ns G Y ho hd hcd hmg hobj hints hlen hg=>?_
 have KX:=hY w _ Y
 obtain ⟨fd,hb,hF⟩:=F w mg fa _ KX G.T.g hmg
 exact law_call KX G.T.g G.T.b G.T.builtins G.T.nolimit hg hobj hints (Nat.le_trans hlen hn2) hr hF hb (fun H hO hS=>hsp w H a ns hlen hO hS) fun H e s'=>hCX w H s₁ e s'
open PySem PySem.Spec PyProof.Rows
noncomputable def defArgs (s:Stmt):Arguments:=match s with
 | .FunctionDef _ a _ _ _ _ _ _ _ _=>a
 |_=>{ posonlyargs:=[],args:=[],vararg:=none,kwonlyargs:=[],kw_defaults:=[],kwarg:=none,defaults:=[] }
noncomputable def defBody (s:Stmt):List Stmt:=match s with
 | .FunctionDef _ _ b _ _ _ _ _ _ _=>b
 |_=>[]
noncomputable def defScope (s:Stmt):Scope:=match s with
 | .FunctionDef _ _ _ _ _ _ sc _ _ _=>sc
 |_=>{ kind:=.function,names:=[],isGenerator:=false,isCoroutine:=false }
noncomputable abbrev E0:XK:=fun _ _ _=>False
structure Fun (K:PySem.W.Frag)(x qual:Str)(st:Stmt)(f:Addr)(fd:FuncData):Prop where
 ex:∃(oc:Value) (od:Option Addr) (kV doc pm:Value) (an:Option Addr) (cdv ct:Value) (osl:Array (Option Value)),
  fd=PySem.W.fnOf x qual (defArgs st) (defBody st) (defScope st) .none kV doc pm an cdv ct/\K.lookup f=some ⟨oc,od,.func fd,osl⟩/\PySem.W.codeIn K cdv qual=true
 kp:PySem.W.keepIn K (.ref f)=true
section
variable {P:Program}{w:World}{K:PySem.W.Frag}{mg:Str->Option Value}{base:Heap}
theorem Fun.binds {x qual:Str}{st:Stmt}{f:Addr}{fd:FuncData}{ps:List Str}(F:Fun K x qual st f fd)
  (h:∀(kV doc pm:Value) (an:Option Addr) (cdv ct:Value) (us:List Value),us.length=ps.length->bindArgs (PySem.W.fnOf x qual (defArgs st) (defBody st) (defScope st) .none kV doc pm an cdv ct) ⟨us,[]⟩=pure (ps.zip us)):Binds K fd ps []:=by
 obtain ⟨oc,od,kV,doc,pm,an,cdv,ct,osl,rfl,lk,hcd⟩:=F.ex
 exact .all (h kV doc pm an cdv ct)
theorem fun_mk {x qual:Str}{st:Stmt}{f:Addr}{oc:Value}{od an:Option Addr}{osl:Array (Option Value)}{kV doc pm cdv ct:Value}(l:K.lookup f=some ⟨oc,od,.func (PySem.W.fnOf x qual (defArgs st) (defBody st) (defScope st) .none kV doc pm an cdv ct),osl⟩)
  (c:PySem.W.codeIn K cdv qual=true) (k:PySem.W.keepIn K (.ref f)=true):Fun K x qual st f (PySem.W.fnOf x qual (defArgs st) (defBody st) (defScope st) .none kV doc pm an cdv ct):=⟨⟨oc,od,kV,doc,pm,an,cdv,ct,osl,rfl,l,c⟩,k⟩
end
section
variable {X:Cx}
theorem pv (i:Nat){x:Str}{pos:Pos}(hN:X.N[i]? = some x:=by rfl)(hv:Vis X.env.scope x:=by first | exact Or.inl rfl | exact Or.inr (Or.inl rfl) | exact Or.inr (Or.inr rfl))(hd:(x == ("__debug__" : Str))=false:=by decide)
  (hcd:(x == ("__classdict__" : Str))=false:=by decide):PE X (.Name x pos) (tVar i):=pe_var hN hv hd hcd
end
noncomputable def Same (H H':Hp):Prop:=∀b o,H b=some o->H' b=some o
theorem Same.refl (H:Hp):Same H H:=fun _ _ h=>h
theorem Same.trans {H H1 H2:Hp}(a:Same H H1)(b:Same H1 H2):Same H H2:=fun c o h=>b c o (a c o h)
theorem Same.free {H H':Hp}(e:Same H H'){l:Addr}(h:H' l=Option.none):H l=Option.none:=by
 cases q:H l with
 |none=>rfl
 |some o=>
  rw [e l o q] at h
  cases h
theorem Same.seq {K:PySem.W.Frag}{H H':Hp}{a:Addr}{xs:List V}(e:Same H H')(h:SqL K H a xs):SqL K H' a xs:=by
 rcases h with (h | ⟨o,h⟩) | h
 ·exact .inl (.inl (e _ _ h))
 ·exact .inl (.inr ⟨o,e _ _ h⟩)
 ·exact .inr h
end L2
set_option maxHeartbeats 4000000
namespace Hd
open PySem PySem.Spec PyProof.Rows L2
noncomputable abbrev St:=L2.St
theorem log_lt {n k:Nat}(h:n<2 ^ k)(hk:0<k):n.log2<k:=by
 by_cases z:n=0
 ·rw [z]
  exact hk
 ·exact (Nat.log2_lt z).mpr h
@[irreducible] def lmM:Nat:=2 ^ 60000
@[irreducible] def lmD:Nat:=2 ^ 8900
theorem lmM_is:lmM=2 ^ 60000:=by unfold lmM; rfl
theorem lmD_is:lmD=2 ^ 8900:=by unfold lmD; rfl
theorem bits_le {i:Int}(h:i.natAbs<lmM):Builtin.Int.intBits i<=60000:=by
 unfold Builtin.Int.intBits
 split
 ·exact Nat.zero_le _
 ·rw [lmM_is] at h; exact log_lt (k:=60000) h (by decide)
noncomputable def CDivB (_ j:Int):Prop:=j≠0/\j.natAbs<lmD
noncomputable def CMulB (i j:Int):Prop:=i.natAbs<lmM/\j.natAbs<lmM
theorem CMulB.ok {i j:Int}(h:CMulB i j):IntMulOk i j:=by
 have h1:=bits_le h.1
 have h2:=bits_le h.2
 have hb:bitsLine=134217728:=rfl
 have z:Builtin.Int.intTooBig (Builtin.Int.intBits i+Builtin.Int.intBits j)=false:=by
  unfold Builtin.Int.intTooBig
  refine decide_eq_false ?_
  omega
 unfold IntMulOk
 rw [z]
 simp
section
variable {X:Cx}
theorem op_fdivB:OpR X (binaryOp .FloorDiv) (rI CDivB fun i j=>.int (i.fdiv j)):=
 opI fun _ _ _ _ _ _ _ hc q=>floordiv_int hc.1 q (.inl (PyProof.noPylong_of_log2 (Nat.lt_of_lt_of_le (log_lt (k:=8900) (lmD_is ▸ hc.2) (by decide)) (by decide))))
theorem op_mulB:OpR X (binaryOp .Mult) (rI CMulB fun i j=>.int (i * j)):=opI fun _ _ _ _ _ _ _ hc q=>mul_int q hc.ok
theorem op_isB:OpR X (compareOp .Is) (fun x y H Q=>∃i j,x=.bl i/\y=.bl j/\Q (.bl (decide (i=j))) H):=by
 intro pins s σ H x y v u Q I rx ry h
 obtain ⟨i,j,rfl,rfl,q⟩:=h
 cases rx
 cases ry
 cases i <;> cases j <;> exact wpAny_pure (fin_bl I q rfl)
theorem op_isnotB:OpR X (compareOp .IsNot) (fun x y H Q=>∃i j,x=.bl i/\y=.bl j/\Q (.bl (!decide (i=j))) H):=by
 intro pins s σ H x y v u Q I rx ry h
 obtain ⟨i,j,rfl,rfl,q⟩:=h
 cases rx
 cases ry
 cases i <;> cases j <;> exact wpAny_pure (fin_bl I q rfl)
end
mutual
inductive DV (K:PySem.W.Frag)(H:Hp):V->PyData->Prop where
 |non:DV K H .non .none
 |bl (b:Bool):DV K H (.bl b) (.bool b)
 |int (i:Int):DV K H (.int i) (.int i)
 |str (x:Str):DV K H (.str x) (.str x)
 |tup {a:Addr} {xs:List V} {ds:List PyData}:SqT K H a xs->DVs K H xs ds->DV K H (.ref a) (.tuple ds)
 |lst {a:Addr} {xs:List V} {ds:List PyData}:SqL K H a xs->DVs K H xs ds->DV K H (.ref a) (.list ds)
inductive DVs (K:PySem.W.Frag)(H:Hp):List V->List PyData->Prop where
 |nil:DVs K H [] []
 |cons {v:V} {vs:List V} {d:PyData} {ds:List PyData}:DV K H v d->DVs K H vs ds->DVs K H (v::vs) (d::ds)
end
section
variable {X:Cx}{pins:List (Addr×Obj)}{σ:St}{H:Hp}{s:Shared}
mutual
theorem DV.reads (I:Inv X pins σ H s):∀{v:V} {d:PyData} {u:Value},DV X.K H v d->RelV v u->∃as,Reads s.heap u d as
 |_,_,u,.non,r=>by cases (show u=Value.none from r); exact ⟨_,.none⟩
 |_,_,u,.bl b,r=>by cases (show u=Value.bool b from r); exact ⟨_,.bool b⟩
 |_,_,u,.int i,r=>by obtain ⟨t,e⟩:=(show ∃t,u=Value.int i t from r); subst e; exact ⟨_,.int i t⟩
 |_,_,u,.str x,r=>by obtain ⟨t,e⟩:=(show ∃t,u=Value.str x t from r); subst e; exact ⟨_,.str x t⟩
 |_,_,u,.tup (a:=a) h hs,r=>by
  cases (show u=Value.ref a from r)
  obtain ⟨its,rv,⟨o,ho,hc,n,hd⟩,_⟩:=I.tuple h
  obtain ⟨as,ra⟩:=DVs.reads I hs rv
  exact ⟨as,.tuple ho hc hd (by simpa using ra)⟩
 |_,_,u,.lst (a:=a) h hs,r=>by
  cases (show u=Value.ref a from r)
  obtain ⟨its,rv,⟨o,n,ho,hc,_,hd⟩,_⟩:=I.list h
  obtain ⟨as,ra⟩:=DVs.reads I hs rv
  exact ⟨a::as,.list ho hc hd (by simpa using ra)⟩
theorem DVs.reads (I:Inv X pins σ H s):∀{vs:List V} {ds:List PyData} {us:List Value},DVs X.K H vs ds->Vals vs us->∃as,ReadsAll s.heap us ds as
 |_,_,_,.nil,.nil=>⟨[],.nil⟩
 |_,_,_,.cons h hs,.cons r rs=>by
  obtain ⟨as,ra⟩:=DV.reads I h r
  obtain ⟨bs,rb⟩:=DVs.reads I hs rs
  exact ⟨as++bs,.cons ra rb⟩
end
end
section
variable {X:Cx}
noncomputable def rEqD (K:PySem.W.Frag):R2:=fun x y H Q=>∃d e,DV K H x d/\DV K H y e/\SeqAt.shaped d=true/\SeqAt.shaped e=true/\Q (.bl (PyData.eqv d e)) H
noncomputable def rNeD (K:PySem.W.Frag):R2:=fun x y H Q=>∃d e,DV K H x d/\DV K H y e/\SeqAt.shaped d=true/\SeqAt.shaped e=true/\Q (.bl (!PyData.eqv d e)) H
theorem op_eqD (hu:X.A.units+64<cLine):OpR X (compareOp .Eq) (rEqD X.K):=by
 intro pins s σ H x y v u Q I rx ry h
 obtain ⟨d,e,hd,he,sd,se,q⟩:=h
 obtain ⟨as,ra⟩:=hd.reads I rx
 obtain ⟨bs,rb⟩:=he.reads I ry
 exact eq_dataH ra rb sd se hu (fin_bl I q rfl)
theorem op_neD (hu:X.A.units+64<cLine):OpR X (compareOp .NotEq) (rNeD X.K):=by
 intro pins s σ H x y v u Q I rx ry h
 obtain ⟨d,e,hd,he,sd,se,q⟩:=h
 obtain ⟨as,ra⟩:=hd.reads I rx
 obtain ⟨bs,rb⟩:=he.reads I ry
 exact ne_dataH ra rb sd se hu (fin_bl I q rfl)
end
section
variable {X:Cx}
noncomputable def clsV:V->Option Value
 | .ty n=>some (.type n)
 | .ref a=>some (.ref a)
 |_=>none
theorem clsV_rel {c:V}{cv u:Value}(e:clsV c=some cv)(r:RelV c u):u=cv:=by
 cases c with
 |ty n=>cases e; exact r
 |ref a=>cases e; exact r
 |_=>cases e
end
section
variable {X:Cx}{t u:TS}{pos:Pos}
end
open PySem PySem.Spec PyProof.Rows L2
structure Fly (P:Program)(w:World)(outer:List Env)(H:Hp)(s:Shared)(e:Value)(s':Shared)(ea t:Addr)(cls:Value)(B:Heap)(H':Hp):Prop where
 is:e=.ref ea
 os:s'.os=s.os
 bare:AllBare s'.gens
 fly:Heap.FlyingW B outer ea cls (.ref t) s'.heap
 keep:∀b o,s.heap.get? b=some o->H b=none->b∉frs outer->B.get? b=some o
 slot:∀b o,s.heap.get? b=some o->b∈frs outer->∃sl,s'.heap.get? b=some { o with slots:=sl }
 free:∀b o,s.heap.get? b=some o->H b=none->H' b=none
 there:∀b o,s.heap.get? b=some o->b∉frs outer->∃o',B.get? b=some o'
 tups:∀b xs,H b=some (.tup xs)->H' b=some (.tup xs)
 frzs:∀b o u,H b=some (.frz o u)->H' b=some (.frz o u)
 tbls:∀b ps,H b=some (.tbl ps)->∃more,H' b=some (.tbl (ps++more))
 hok:HOk P w H' B
 new:s.heap.get? ea=none
 nin:H' ea=none
noncomputable def CX1 (P:Program)(w:World):CXT:=fun outer H s E e s'=>∃ea t cls B H',Fly P w outer H s e s' ea t cls B H'/\E cls none H'
theorem frs_cons {env:Env}{l:List Env}{L b:Addr}(hf:env.frame=some L)(h:b∈frs (env::l)):b=L\/b∈frs l:=by
 unfold frs at h
 rw [List.filterMap_cons,hf] at h
 rcases List.mem_cons.mp h with z | z
 ·exact .inl z
 ·exact .inr z
theorem frs_tail {env:Env}{l:List Env}{b:Addr}(h:b∈frs l):b∈frs (env::l):=by
 unfold frs at h ⊢
 obtain ⟨e,he,hf⟩:=List.mem_filterMap.mp h
 exact List.mem_filterMap.mpr ⟨e,List.mem_cons_of_mem _ he,hf⟩
section
variable {P:Program}{w:World}{K:PySem.W.Frag}{mg:Str->Option Value}{base:Heap}{N:List Str}{qual:Str}{scope:Scope}{f:Addr}{cd:Value}{A:Around}{outer:List Env}{s:Shared}{H:Hp}{E:XK}
theorem cx_pass:Passes (CX1 P w) (cxOf (CX1 P w) P w K mg base N qual scope f cd A outer s H E) E:=by
 intro pins σ H1 s1 e s' I h
 obtain ⟨ea,t,cls,B,H',F,hw⟩:=h
 obtain rfl:=F.is
 have nfr:∀b o,s.heap.get? b=some o->b∉frs outer->b∉frs (cxOf (CX1 P w) P w K mg base N qual scope f cd A outer s H E).stack:=fun b o q nb hb=>by
  rcases frs_cons (L:=s.heap.objs.size) rfl hb with z | z
  ·exact absurd (Heap.lt_size q) (by rw [z]; exact Nat.lt_irrefl _)
  ·exact nb z
 have nx:∀b:Addr,b∉(cxOf (CX1 P w) P w K mg base N qual scope f cd A outer s H E).ex:=fun b z=>absurd (show b∈([]:List Addr) from z) (by simp)
 refine wpAny_leaves_onW (base:=B) (outer:=outer) (L:=s.heap.objs.size) I.ok.frames rfl F.fly fun h2 x1 x2=>?_
 refine ⟨ea,t,cls,B,H',⟨rfl,F.os.trans I.os,F.bare,x1,fun b o q n nb=>?_,fun b o q hb=>?_,fun b o q n=>?_,fun b o q nb=>?_,fun b xs q=>F.tups b xs (I.base.tups b xs q),fun b o u q=>F.frzs b o u (I.base.frzs b o u q),fun b ps q=>?_,F.hok,?_,F.nin⟩,hw⟩
 ·exact F.keep b o (I.base.keep b o q n nb (nx b)) (I.base.free b o q n (nx b)) (nfr b o q nb)
 ·obtain ⟨sl,e1⟩:=I.base.slot b o q (I.ok.frf b hb) hb (nx b)
  obtain ⟨_,o',ho',hnf⟩:=I.ok.funs.mem hb
  have eo:o=o':=Option.some.inj (q.symm.trans ho')
  obtain ⟨sl1,e2⟩:=F.slot b _ e1 (frs_tail hb)
  obtain ⟨sl2,e3⟩:=x2 b _ e2 (fun v z=>hnf v (by rw [← eo]; exact z))
  exact ⟨sl2,e3⟩
 ·obtain ⟨o',e1⟩:=I.base.there b o q (nx b)
  exact F.free b o' e1 (I.base.free b o q n (nx b))
 ·obtain ⟨o',e1⟩:=I.base.there b o q (nx b)
  exact F.there b o' e1 (nfr b o q nb)
 ·obtain ⟨m1,e1⟩:=I.base.tbls b ps q
  obtain ⟨m2,e2⟩:=F.tbls b _ e1
  exact ⟨m1++m2,by rw [e2,Array.append_assoc]⟩
 ·cases q:s.heap.get? ea with
  |none=>rfl
  |some o=>
   obtain ⟨o',e1⟩:=I.base.there ea o q (nx ea)
   rw [F.new] at e1; cases e1
end
theorem pass1 {P:Program}{w:World}{X:Cx}:Passes (CX1 P w) X E0:=fun _ _ _ _ _ _ _ ⟨_,_,_,_,_,_,z⟩=>z.elim
noncomputable def ExcIs (ea:Addr)(cls:Value)(h:Heap):Prop:=∃o,h.get? ea=some o/\o.cls=cls/\∃vs,o.data=.fields vs
section
variable {X:Cx}{pins:List (Addr×Obj)}{σ:St}{H H':Hp}{s s':Shared}{e:Value}{ea t:Addr}{cls:Value}{B:Heap}
theorem Fly.inv (F:Fly X.prog X.w X.stack H s e s' ea t cls B H')(I:Inv X pins σ H s){h2:Heap}{tk:Nat}(k1:B.StaysIn h2)(k2:s'.heap.UpToSlots h2):Inv X pins σ H' { s' with heap:=h2,toks:=tk }:=by
 have nf:∀b∈frs X.stack,∀o,s.heap.get? b=some o->∀vs,o.data≠.fields vs:=fun b hb o q=>by
  obtain ⟨_,o',ho',hnf⟩:=I.stack.mem hb
  have eo:o=o':=Option.some.inj (q.symm.trans ho')
  rw [eo]; exact hnf
 refine I.call' (s':={ s' with heap:=h2,toks:=tk }) (ch:=[]) F.os ⟨fun b o q n hb _=>k1 b o (F.keep b o q n hb),fun b o q n hb _=>?_,fun b o q n _=>F.free b o q n,fun b o q _=>?_,F.tups,F.frzs,F.tbls⟩ (F.hok.kept k1) F.bare (fun b z=>nomatch z)
 ·obtain ⟨sl,e1⟩:=F.slot b o q hb
  obtain ⟨sl2,e2⟩:=k2 b _ e1 (nf b hb o q)
  exact ⟨sl2,e2⟩
 ·by_cases hb:b∈frs X.stack
  ·obtain ⟨sl,e1⟩:=F.slot b o q hb
   obtain ⟨sl2,e2⟩:=k2 b _ e1 (nf b hb o q)
   exact ⟨_,e2⟩
  ·obtain ⟨o',e1⟩:=F.there b o q hb
   exact ⟨o',k1 b o' e1⟩
end
open PySem PySem.Spec PyProof.Rows L2
section
variable {X:Cx}{pins:List (Addr×Obj)}{σ:St}{H H':Hp}{s s':Shared}{e:Value}{ea t:Addr}{cls:Value}{B:Heap}
end
section
variable {X:Cx}{k:Nat}{f:Addr}{fd:FuncData}{ps:List Str}{sp:Sp}{x:Str}{p pos pos':Pos}{e:Expr}{es:List Expr}{t:TA}
end
open PySem PySem.Spec PyProof.Rows L2
section
variable {X:Cx}{x:Str}{e₀:Expr}{np cpos pos:Pos}{te:TE}{C:Addr}{bmB:List Value}{B newId initId:String}
end
structure Fn (P:Program)(w:World)(K:PySem.W.Frag)(mg:Str->Option Value)(base:Heap)(k:Nat)(x:Str)(ps:List Str)(sp:Sp):Prop where
 ex:∃f fd,FnOk P w K mg base (CX1 P w) k f fd ps sp/\Binds K fd ps []/\PySem.W.keepIn K (.ref f)=true/\mg x=some (.ref f)
section
variable {X:Cx}{j k:Nat}{x:Str}{ps:List Str}{sp:Sp}{p pos:Pos}{e:Expr}{es:List Expr}{t:TA}
end
section
variable {P:Program}{w:World}{K:PySem.W.Frag}{mg:Str->Option Value}{base:Heap}
theorem fun_okx {x qual:Str}{st:Stmt}{f:Addr}{fd:FuncData}{N ps:List Str}{k:Nat}{sp:Sp}(F:Fun K x qual st f fd)(S:FnScope N ps (defScope st))(len:∀vs H Q E,sp vs H Q E->vs.length=ps.length)
  (hbody:∀(cdv:Value) (A:Around) (outer:List Env) (s:Shared) (H:Hp) (vs:List V) (Q:VK) (E:XK),Room k (A.deeper (envOfC qual (defScope st) s.heap.objs.size f cdv))->sp vs H Q E->
   ∃t,PSs (cxOf (CX1 P w) P w K mg base N qual (defScope st) f cdv A outer s H E) (defBody st) t/\t { nx:=fun _ H'=>Q .non H',rt:=Q } (start N vs) H):FnOk P w K mg base (CX1 P w) (k+1) f fd ps sp:=by
 obtain ⟨oc,od,kV,doc,pm,an,cdv,ct,osl,rfl,lk,hcd⟩:=F.ex
 refine fn_of lk hcd S len fun A outer s H vs Q E hr hsp=>?_
 obtain ⟨t,h,q⟩:=hbody cdv A outer s H vs Q E hr hsp
 exact ⟨t,h,q⟩
end
structure Df (K:PySem.W.Frag)(mg:Str->Option Value)(x:Str)(st:Stmt)(ps:List Str):Prop where
 ex:∃f fd,Fun K x x st f fd/\Binds K fd ps []/\mg x=some (.ref f)
theorem Df.fn {P:Program}{w:World}{K:PySem.W.Frag}{mg:Str->Option Value}{base:Heap}{x:Str}{st:Stmt}{ps:List Str}{k:Nat}{sp:Sp}(D:Df K mg x st ps)
  (h:∀f fd,Fun K x x st f fd->FnOk P w K mg base (CX1 P w) k f fd ps sp):Fn P w K mg base k x ps sp:=by
 obtain ⟨f,fd,F,b,m⟩:=D.ex
 exact ⟨f,fd,h f fd F,b,F.kp,m⟩
open PySem PySem.Spec PyProof.Rows L2
section
variable {prog:Program}{w:World}{A:Around}{E:Value->Shared->Prop}{h:Heap}{g:Array GenState}{d:Drawn}{t:Nat}{os:OsState}{a C:Addr}{o:Obj}{K:PySem.W.Frag}
end
section
variable {X:Cx}
end
end Hd
namespace L2
open PySem PySem.Spec PyProof.Rows
section
variable {κ:Type}[DecidableEq κ]
noncomputable def valV (kvs:List (κ×V))(k:κ):Option V:=(kvs.find? fun kv=>decide (kv.1=k)).map (·.2)
noncomputable def putK (kvs:List (κ×V))(k:κ)(v:V):List (κ×V):=
 if (kvs.any fun kv=>decide (kv.1=k))=true then kvs.map (fun kv=>if kv.1=k then (kv.1,v) else kv) else kvs++[(k,v)]
theorem RelO.getD {o:Option V}{u:Option Value}{d:V}{d':Value}(r:RelO o u)(rd:RelV d d'):RelV (o.getD d) (u.getD d'):=by
 cases o with
 |none=>cases u with
  |none=>exact rd
  |some _=>exact (show False from r).elim
 |some _=>cases u with
  |none=>exact (show False from r).elim
  |some _=>exact r
theorem KV.length {kvs:List (κ×V)}{vs:List (κ×Value)}(r:KV kvs vs):kvs.length=vs.length:=Paired.length r
end
noncomputable abbrev KT (T:Addr->List V->Prop)(H:Hp):List (List Kt×V)->List (List Kt×Addr×Value)->Prop:=Paired fun p q=>p.1=q.1/\TrT T H q.2.1 p.1/\RelV p.2 q.2.2
theorem KT.keeps {T:Addr->List V->Prop}{H H':Hp}{kvs:List (List Kt×V)}{xs:List (List Kt×Addr×Value)}(r:KT T H kvs xs)(ht:∀b ys,H b=some (.tup ys)->H' b=some (.tup ys)):KT T H' kvs xs:=
 Paired.mapP r fun _ _ z=>⟨z.1,z.2.1.imp ht,z.2.2⟩
section
variable {P:Program}{w:World}{H:Hp}{h:Heap}{a:Addr}
theorem rd_of {u:HO}(ok:HOk P w H h)(e:Rd H a u):ObjOk P w H h a u:=e.ok ok
theorem dk_rd {kvs:List (Key×V)}(ok:HOk P w H h)(e:Rd H a (.dK kvs)):kvs.length<=sizeLine/\(a == sysModules)=false/\∃vs,KV kvs vs/\h.DictOf (mixKind P w) a vs:=
 show ObjOk P w H h a (.dK kvs) from rd_of ok e
end
noncomputable def DGet (K:PySem.W.Frag)(H:Hp)(a:Addr)(y:V)(r:Option V):Prop:=
 (∃kvs k,Rd H a (.dK kvs)/\y=kV k/\r=valV kvs k)\/∃kvs k b,Rd H a (.dT (KTp K) kvs)/\y=.ref b/\TrT (KTp K) H b k/\r=valV kvs k
noncomputable def DPut (K:PySem.W.Frag)(H:Hp)(a:Addr)(y v:V)(H':Hp):Prop:=
 (∃kvs k,H a=some (.dK kvs)/\y=kV k/\kvs.length<sizeLine/\H'=upd H a (.dK (putK kvs k v))) ∨
 ∃kvs k b,H a=some (.dT (KTp K) kvs)/\y=.ref b/\TrT (KTp K) H b k/\kvs.length<sizeLine/\H'=upd H a (.dT (KTp K) (putK kvs k v))
theorem DGet.k {K:PySem.W.Frag}{H:Hp}{a:Addr}{kvs:List (Key×V)}{k:Key}(e:H a=some (.dK kvs)):DGet K H a (kV k) (valV kvs k):=.inl ⟨kvs,k,.inl e,rfl,rfl⟩
theorem DGet.t {K:PySem.W.Frag}{H:Hp}{a b:Addr}{kvs:List (List Kt×V)}{k:List Kt}(e:H a=some (.dT (KTp K) kvs))(eb:TrT (KTp K) H b k):DGet K H a (.ref b) (valV kvs k):=.inr ⟨kvs,k,b,.inl e,rfl,eb,rfl⟩
theorem DPut.k {K:PySem.W.Frag}{H:Hp}{a:Addr}{kvs:List (Key×V)}{k:Key}{v:V}(e:H a=some (.dK kvs))(hl:kvs.length<sizeLine):DPut K H a (kV k) v (upd H a (.dK (putK kvs k v))):=.inl ⟨kvs,k,e,rfl,hl,rfl⟩
theorem DPut.t {K:PySem.W.Frag}{H:Hp}{a b:Addr}{kvs:List (List Kt×V)}{k:List Kt}{v:V}(e:H a=some (.dT (KTp K) kvs))(eb:TrT (KTp K) H b k)(hl:kvs.length<sizeLine):
  DPut K H a (.ref b) v (upd H a (.dT (KTp K) (putK kvs k v))):=.inr ⟨kvs,k,b,e,rfl,eb,hl,rfl⟩
section
variable {X:Cx}{pins:List (Addr×Obj)}{σ:St}{H:Hp}{s:Shared}{a:Addr}{y v:V}{u r:Value}{o:Option V}{A:Around}{E:Value->Shared->Prop}
end
section
variable {X:Cx}{pins:List (Addr×Obj)}{σ:St}{H:Hp}{s:Shared}{a:Addr}{kvs:List (Key×V)}{k:Key}{u:Value}{A:Around}{E:Value->Shared->Prop}
theorem d_len {Q:Value->Shared->Prop}(I:Inv X pins σ H s)(e:Rd H a (.dK kvs))(h:∀t s',Inv X pins σ H s'->Q (.int kvs.length t) s'):wpAny (model X.prog X.w) A (call (.builtin "len") [.ref a]) Q E s:=by
 obtain ⟨z,hd,vs,rel,dd⟩:=dk_rd I.hok e
 refine call_len_dict hd dd (by rw [← rel.length]; rw [sizeLine_eq] at z; omega) ?_
 rw [← rel.length]
 exact h _ _ (I.tok _)
end
section
variable {X:Cx}{o i e value:Expr}{pos pos' tpos:Pos}{td ty tv:TE}
end
section
variable {X:Cx}{pos:Pos}
end
section
variable {X:Cx}{pins:List (Addr×Obj)}{σ:St}{H:Hp}{s:Shared}{a:Addr}{y d:V}{u r:Value}{o:Option V}{A:Around}{E:Value->Shared->Prop}
end
section
variable {X:Cx}{o e f:Expr}{apos cpos:Pos}{td ty tx:TE}
end
section
variable {X:Cx}{pins:List (Addr×Obj)}{σ:St}{H:Hp}{s:Shared}{a:Addr}{kvs:List (Key×V)}{A:Around}{E:Value->Shared->Prop}
end
section
variable {X:Cx}{pins:List (Addr×Obj)}{σ:St}{H:Hp}{s:Shared}{a:Addr}{y:V}{u:Value}{A:Around}{E:Value->Shared->Prop}
end
open PySem PySem.Spec PyProof.Rows
section
variable {X:Cx}
theorem call_lenD:CallR X (.builtin "len") (fun xs H Q=>∃a kvs,xs=[V.ref a]/\H a=some (.dK kvs)/\Q (.int kvs.length) H):=by
 intro pins s σ H xs us Q I r h
 obtain ⟨a,kvs,rfl,ha,q⟩:=h
 obtain ⟨u,rfl,ru⟩:=vals1 r
 cases ru
 exact d_len I (.inl ha) fun t s' I'=>⟨.int kvs.length,H,I',⟨t,rfl⟩,q⟩
end
section
variable {κ:Type}[DecidableEq κ]
end
end L2
namespace Hd
open PySem PySem.Spec PyProof.Rows L2
theorem same_new {H:Hp}{p:Addr}(h:H p=none)(o:HO):Same H (upd H p o):=fun b u q=>by
 rw [upd_ne (ne_of_none q h)]
 exact q
section
variable {X:Cx}{e:Expr}{es:List Expr}{pos:Pos}
theorem pe_weak {T T':TE}(h:PE X e T)(k:∀σ H Q,T' σ H Q->T σ H Q):PE X e T':=fun pins s σ H Q I q=>h pins s σ H Q I (k σ H Q q)
noncomputable def clA (t:TA):TA:=fun σ H Q=>∃R,t σ H R/\∀xs H1,R xs H1->Q xs H1
theorem pa_cl {t:TA}(h:PA X es t):PA X es (clA t):=fun pos pins s σ H Q I ⟨R,hR,k⟩=>thn (h pos pins s σ H R I hR) fun _ _ hE=>xq2 hE fun vs H1 I1 r q=>⟨vs,H1,I1,r,k _ _ q⟩
noncomputable def tTupG (t:TA):TE:=fun σ H Q=>t σ H fun xs H1=>xs.length<=sizeLine/\∀p H',Same H1 H'->H' p=some (.tup xs)->Q (.ref p) H'
theorem pe_tupG {x1}{t:TA}(h:PA X es t):PE X (.Tuple es x1 pos) (tTupG t):=
 pe_weak (pe_tup (pa_cl h)) fun _ _ _ q=>⟨_,q,fun _ _ ⟨z,k⟩=>⟨z,fun p hp=>k p _ (same_new hp _) upd_same⟩⟩
end
open PySem PySem.Spec PyProof.Rows L2
noncomputable abbrev compCx (X:Cx)(N':List Str)(scope:Scope)(cl:List (Str×Addr))(C:Addr)(sE:Shared)(HE:Hp)(fp:List Addr)(pins:List (Addr×Obj)):Cx:=
 { X with N:=N',s₀:=sE,H₀:=HE,env:=compEnvC scope cl C X.env,outer:=X.stack,ex:=fp,fn:=fun _=>false,pn:=X.pn++pins,xe:=fun _ _=>False }
structure CSc (sc scope:Scope)(caps:List Str):Prop where
 kind:scope.kind=.function
 nocell:∀y∈scope.names,y.2≠.cell
 loc:∀y∈scope.names,y.2=.local->scope.names.lookup y.1=some .local
 free:∀y∈scope.names,y.2=.free->sc.names.lookup y.1=some .cell\/sc.names.lookup y.1=some .free
 caps:∀x∈caps,scope.names.lookup x=some .free/\(sc.names.lookup x=some .cell\/sc.names.lookup x=some .free)
theorem mem_of_lookup {β:Type}:∀{l:List (Str×β)} {x:Str} {k:β},l.lookup x=some k->(x,k)∈l
 |[],_,_,h=>by simp at h
 |(n,k')::r,x,k,h=>by
  rw [List.lookup_cons] at h
  split at h
  ·rename_i e
   have e':x=n:=by simpa using e
   cases h
   rw [e']
   exact List.mem_cons_self
  ·exact List.mem_cons_of_mem _ (mem_of_lookup h)
theorem relabel_free {env:Env}:∀{names:List (Str×NameKind)} {x:Str},names.lookup x=some .free->
  (names.map fun (n,k)=>if (k == NameKind.free && env.scope.kind == .function && env.kindOf n == some .cell) then (n,NameKind.cell) else (n,k)).lookup x=some .cell ∨
  (names.map fun (n,k)=>if (k == NameKind.free && env.scope.kind == .function && env.kindOf n == some .cell) then (n,NameKind.cell) else (n,k)).lookup x=some .free
 |[],_,h=>by simp at h
 |(n,k)::r,x,h=>by
  have ih:=@relabel_free env r x
  show List.lookup x ((if (k == NameKind.free && env.scope.kind == .function && env.kindOf n == some .cell)=true then (n,NameKind.cell) else (n,k))::_)=_\/List.lookup x ((if (k == NameKind.free && env.scope.kind == .function && env.kindOf n == some .cell)=true then (n,NameKind.cell) else (n,k))::_)=_
  cases hx:x == n with
  |true=>
   simp only [List.lookup_cons,hx] at h
   cases h
   by_cases hc:(NameKind.free == NameKind.free && env.scope.kind == .function && env.kindOf n == some .cell)=true
   ·rw [if_pos hc]; simp only [List.lookup_cons,hx]; exact .inl trivial
   ·rw [if_neg hc]; simp only [List.lookup_cons,hx]; exact .inr trivial
  |false=>
   simp only [List.lookup_cons,hx] at h
   by_cases hc:(k == NameKind.free && env.scope.kind == .function && env.kindOf n == some .cell)=true
   ·rw [if_pos hc]; simp only [List.lookup_cons,hx]; exact ih h
   ·rw [if_neg hc]; simp only [List.lookup_cons,hx]; exact ih h
theorem of_relabel {env:Env}:∀{names:List (Str×NameKind)} {x:Str},(∀y∈names,y.2≠.cell)->
  ((names.map fun (n,k)=>if (k == NameKind.free && env.scope.kind == .function && env.kindOf n == some .cell) then (n,NameKind.cell) else (n,k)).lookup x=some .cell ∨
  (names.map fun (n,k)=>if (k == NameKind.free && env.scope.kind == .function && env.kindOf n == some .cell) then (n,NameKind.cell) else (n,k)).lookup x=some .free)->names.lookup x=some .free
 |[],_,_,h=>by simp at h
 |(n,k)::r,x,hn,h=>by
  have ih:=@of_relabel env r x (fun y hy=>hn y (List.mem_cons_of_mem _ hy))
  have h':List.lookup x ((if (k == NameKind.free && env.scope.kind == .function && env.kindOf n == some .cell)=true then (n,NameKind.cell) else (n,k))::_)=some .cell\/List.lookup x ((if (k == NameKind.free && env.scope.kind == .function && env.kindOf n == some .cell)=true then (n,NameKind.cell) else (n,k))::_)=some .free:=h
  have hk:k≠.cell:=hn (n,k) List.mem_cons_self
  by_cases hc:(k == NameKind.free && env.scope.kind == .function && env.kindOf n == some .cell)=true
  ·rw [if_pos hc] at h'
   have kf:k=.free:=by
    simp only [Bool.and_eq_true,beq_iff_eq] at hc
    exact hc.1.1
   subst kf
   cases hx:x == n with
   |true=>simp only [List.lookup_cons,hx]
   |false=>
    simp only [List.lookup_cons,hx] at h' ⊢
    exact ih h'
  ·rw [if_neg hc] at h'
   cases hx:x == n with
   |true=>
    simp only [List.lookup_cons,hx] at h' ⊢
    rcases h' with z | z
    ·exact absurd (Option.some.inj z) hk
    ·exact z
   |false=>
    simp only [List.lookup_cons,hx] at h' ⊢
    exact ih h'
theorem closure_go {env:Env}:∀(names:List (Str×NameKind)) (acc:List (Str×Addr)),(∀y∈names,y.2=.free->∃c,env.cells.lookup y.1=some c)->
  ∃cl,(forIn names acc fun (y:Str×NameKind) (cs:List (Str×Addr))=>(if y.2 == .free then do let c ← cellOf env y.1; pure (ForInStep.yield ((y.1,c)::cs)) else pure (ForInStep.yield cs):Sem (ForInStep (List (Str×Addr)))))=pure cl/\
   (∀x c,cl.lookup x=some c->acc.lookup x=some c\/env.cells.lookup x=some c)/\(∀x c,acc.lookup x=some c->∃c',cl.lookup x=some c')/\∀y∈names,y.2=.free->∃c,cl.lookup y.1=some c
 |[],acc,_=>⟨acc,rfl,fun _ _ e=>.inl e,fun _ c e=>⟨c,e⟩,fun _ z=>nomatch z⟩
 |(n,k)::r,acc,h=>by
  have hr:∀y∈r,y.2=.free->∃c,env.cells.lookup y.1=some c:=fun y hy=>h y (List.mem_cons_of_mem _ hy)
  by_cases hk:(k == NameKind.free)=true
  ·obtain ⟨c,hc⟩:=h (n,k) List.mem_cons_self (by simpa using hk)
   obtain ⟨cl,e,h1,h2,h3⟩:=closure_go r ((n,c)::acc) hr
   refine ⟨cl,?_,fun x d q=>?_,fun x d q=>?_,fun y hy q=>?_⟩
   ·have ec:cellOf env n=pure c:=by unfold cellOf; rw [show env.cells.lookup n=some c from hc]
    rw [List.forIn_cons]
    simp only [hk,if_true,ec,pure_bind]
    exact e
   ·rcases h1 x d q with z | z
    ·rw [List.lookup_cons] at z
     split at z
     ·rename_i e1
      have e1':x=n:=by simpa using e1
      cases z
      rw [e1']
      exact .inr hc
     ·exact .inl z
    ·exact .inr z
   ·by_cases e1:(x == n)=true
    ·exact h2 x c (by rw [List.lookup_cons,e1])
    ·exact h2 x d (by rw [List.lookup_cons]; simp only [Bool.not_eq_true] at e1; rw [e1]; exact q)
   ·rcases List.mem_cons.mp hy with z | z
    ·subst z
     exact h2 n c (by rw [List.lookup_cons]; simp)
    ·exact h3 y z q
  ·obtain ⟨cl,e,h1,h2,h3⟩:=closure_go r acc hr
   refine ⟨cl,?_,h1,h2,fun y hy q=>?_⟩
   ·rw [List.forIn_cons]
    simp only [hk,if_false,pure_bind,Bool.false_eq_true]
    exact e
   ·rcases List.mem_cons.mp hy with z | z
    ·subst z
     exact absurd (show (k == NameKind.free)=true by simpa using q) hk
    ·exact h3 y z q
theorem closure_for {scope:Scope}{env:Env}(h:∀y∈scope.names,y.2=.free->∃c,env.cells.lookup y.1=some c):
  ∃cl,closureFor scope env=pure cl/\(∀x c,cl.lookup x=some c->env.cells.lookup x=some c)/\∀y∈scope.names,y.2=.free->∃c,cl.lookup y.1=some c:=by
 obtain ⟨cl,e,h1,_,h3⟩:=closure_go scope.names [] h
 refine ⟨cl,?_,fun x c q=>(h1 x c q).elim (fun z=>by simp at z) id,h3⟩
 unfold closureFor
 simp only [bind_pure]
 refine Eq.trans ?_ e
 rfl
section
variable {X:Cx}{pins:List (Addr×Obj)}{σ:St}{HE:Hp}{sE:Shared}{N':List Str}{scope sc:Scope}{cl:List (Str×Addr)}{fp:List Addr}{caps:List Str}
theorem comp_ok (I:Inv X pins σ HE sE)(S:CSc sc scope caps)(hfp:∀b∈fp,FpOk X pins HE b/\b<sE.heap.objs.size)
  (hc1:∀x c,cl.lookup x=some c->X.env.cells.lookup x=some c) (hc2:∀y∈scope.names,y.2=.free->∃c,cl.lookup y.1=some c):
  (compCx X N' scope cl sE.heap.objs.size sE HE fp pins).Ok where
 mod:=I.ok.mod
 kind:=S.kind
 glob:=I.ok.glob
 blt:=I.ok.blt
 above:=Nat.le_refl _
 inj:=fun x y c h1 h2=>I.ok.inj x y c (hc1 x c h1) (hc1 y c h2)
 has:=fun x h=>hc2 (x,.free) (mem_of_lookup (of_relabel S.nocell h)) rfl
 cab:=fun x c h=>nomatch h
 hd:=I.ok.hd
 frames:=I.ok.frames
 stk:=.inl rfl
 exf:=fun b hb=>⟨Nat.ne_of_lt (hfp b hb).2,fun x c h=>(hfp b hb).1.2.2.2.2.1 x c (hc1 x c h)⟩
 bs:=I.bs
 bsz:=Nat.le_trans I.ok.bsz I.sz
 noex:=fun b o e hb=>by
  rcases (hfp b hb).1.2.2.2.1 with z | z
  ·exact I.ok.noex b o e z
  ·exact absurd (Nat.lt_of_lt_of_le (Heap.lt_size e) (Nat.le_trans I.ok.bsz z)) (Nat.lt_irrefl _)
 exfs:=fun b hb hz=>by
  rcases List.mem_cons.mp (I.stkSub b hz) with z | z
  ·exact (hfp b hb).1.2.1 z
  ·exact (hfp b hb).1.2.2.1 z
 funs:=I.stack
 frf:=I.stkFree
theorem comp_inv {k:Nat}{cap:List Nat}{h':Heap}(I:Inv X pins σ HE sE)(S:CSc sc scope caps)(hsc:X.env.scope=sc)(hfp:∀b∈fp,FpOk X pins HE b/\b<sE.heap.objs.size)
  (hc1:∀x c,cl.lookup x=some c->X.env.cells.lookup x=some c) (hc2:∀y∈scope.names,y.2=.free->∃c,cl.lookup y.1=some c)
  (hN:N'.drop k=caps) (hk:k<=N'.length) (hcap:Paired (fun j x=>X.N[j]? = some x) cap caps) {m:Str->Option Value}
  (kp:∀b o,sE.heap.get? b=some o->h'.get? b=some o) (hns:h'.Ns sE.heap.objs.size m) (tk:Nat):
  Inv (compCx X N' scope cl sE.heap.objs.size sE HE fp pins) [] (List.replicate k none++cap.map fun j=>(σ[j]?).join) HE { sE with heap:=h',toks:=tk } where
 ok:=comp_ok I S hfp hc1 hc2
 os:=rfl
 bare:=I.bare
 base:=Un.kept kp
 loc:=by
  refine ⟨m,hns,fun i x v e1 e2 e3=>?_⟩
  have hik:k<=i:=by
   by_cases z:k<=i
   ·exact z
   ·rw [List.getElem?_append_left (by simp; omega),List.getElem?_replicate] at e2
    rw [if_pos (by omega)] at e2
    cases e2
  obtain ⟨j',rfl⟩:∃j',i=k+j':=⟨i - k,by omega⟩
  rw [List.getElem?_append_right (by simp),List.length_replicate,Nat.add_sub_cancel_left,List.getElem?_map] at e2
  have hx:caps[j']? = some x:=by rw [← hN,List.getElem?_drop]; exact e1
  have:∀{l:List Nat} {l':List Str} {i:Nat},Paired (fun j x=>X.N[j]? = some x) l l'->l'[i]? = some x->∃j,l[i]? = some j/\X.N[j]? = some x:=by
   intro l l' i p
   induction p generalizing i with
   |nil=>intro z; simp at z
   |cons a _ ih=>
    intro z
    cases i with
    |zero=>simp at z; subst z; exact ⟨_,rfl,a⟩
    |succ i=>exact ih (by simpa using z)
  obtain ⟨j,hj,hNj⟩:=this hcap hx
  rw [hj] at e2
  have e2':σ[j]? = some (some v):=by
   cases q:σ[j]? with
   |none=>rw [Option.map_some,q] at e2; cases e2
   |some o=>
    rw [Option.map_some,q] at e2
    have:o=some v:=Option.some.inj e2
    rw [this]
  obtain ⟨hxf,hxo⟩:=S.caps x (List.mem_of_getElem? hx)
  rw [← hsc] at hxo
  obtain ⟨m0,_,hl⟩:=I.loc
  obtain ⟨u,r,L⟩:=hl j x v hNj e2' (hxo.elim (fun z=>.inr (.inl z)) fun z=>.inr (.inr z))
  refine ⟨u,r,.inr ⟨relabel_free hxf,?_⟩⟩
  rcases L with ⟨z,_⟩ | ⟨_,c,hc,hcell⟩
  ·have z':X.env.scope.names.lookup x=some .local:=z
   rcases hxo with q | q <;> rw [z'] at q <;> cases q
  ·obtain ⟨c',hc'⟩:=hc2 (x,.free) (mem_of_lookup hxf) rfl
   have e:=hc1 x c' hc'
   rw [hc] at e
   cases e
   obtain ⟨o,ho,hd⟩:=hcell
   exact ⟨c,hc',o,kp c o ho,hd⟩
 cell:=fun x c e=>by
  obtain ⟨v,o,ho,hd⟩:=I.cell x c (hc1 x c e)
  exact ⟨v,o,kp c o ho,hd⟩
 free:=I.hok.fresh (Nat.le_refl _)
 freeC:=fun x c e=>I.freeC x c (hc1 x c e)
 pin:=fun p hp=>by
  rw [List.append_nil] at hp
  obtain ⟨e,n,ne,nf,d⟩:=I.pin p hp
  refine ⟨kp _ _ e,n,Nat.ne_of_lt (Heap.lt_size e),fun z=>?_,d⟩
  rcases List.mem_cons.mp (I.stkSub p.1 z) with q | q
  ·exact ne q
  ·exact nf q
 hok:=I.hok.kept kp
 len:=by
  show (List.replicate k none++cap.map fun j=>(σ[j]?).join).length=N'.length
  have:=hcap.length
  rw [← hN,List.length_drop] at this
  simp
  omega
theorem comp_back {σ':St}{H':Hp}{s':Shared}{p':List (Addr×Obj)}(I:Inv X pins σ HE sE)(hfp:∀b∈fp,FpOk X pins HE b/\b<sE.heap.objs.size)
  (I':Inv (compCx X N' scope cl sE.heap.objs.size sE HE fp pins) p' σ' H' s'):Inv X pins σ H' s':=
 I.call' (ch:=fp) I'.os I'.base I'.hok I'.bare fun b hb=>⟨(hfp b hb).1.2.2.2.1,(hfp b hb).1.2.1,(hfp b hb).1.2.2.2.2.1,(hfp b hb).1.2.2.2.2.2⟩
end
theorem comp_let {X:Cx}{pins:List (Addr×Obj)}{σ σ':St}{HE H':Hp}{sE s':Shared}{h':Heap}(I:Inv X pins σ HE sE)(I':Inv X pins σ' H' s')(hn:H' sE.heap.objs.size=none)
  (hs:Heap.SameBut sE.heap.objs.size s'.heap h'):Inv X pins σ' H' { s' with heap:=h' }:=by
 refine I'.turned (t':=s'.toks) (fun b o hb e=>(hs.2 b hb).trans e) hn (Nat.ne_of_gt I.lt) (.inr I.sz) (fun x c e z=>?_) (fun p hp z=>?_)
 ·obtain ⟨v,q⟩:=I.cell x c e
  exact absurd q.lt (by rw [z]; exact Nat.lt_irrefl _)
 ·exact absurd (Heap.lt_size (I.pin p hp).1) (by rw [z]; exact Nat.lt_irrefl _)
noncomputable def PIfs (X:Cx)(ifs:List Expr)(t:TT):Prop:=
 ∀(pins:List (Addr×Obj)) (s:Shared) (σ:St) (H:Hp) (Q:Bool->Hp->Prop),Inv X pins σ H s->t σ H Q->
  wpAny (model X.prog X.w) X.A (forIn ifs true fun c r=>if r=true then do let ok ← isTrue c X.env (eval c X.env); pure (ForInStep.yield ok) else pure (ForInStep.yield r)) (TP X pins σ Q) X.xe s
noncomputable def tAll:TT:=fun _ H Q=>Q true H
theorem ifs_nil {X:Cx}:PIfs X [] tAll:=fun _ _ _ H _ I q=>wpAny_tests_nil ⟨H,I,q⟩
noncomputable def cSt (k:Nat)(cap:List Nat)(σ:St):St:=List.replicate k none++cap.map fun j=>(σ[j]?).join
noncomputable def CompW (J:It)(k:Nat)(cap:List Nat)(g:TG)(tt:TT)(te:TE)(σ:St)(H1:Hp)(l:Addr)(Q:VK):Prop:=
 ∃W:Nat->Nat->List V->Hp->Prop,(∃m,W 0 m [] (upd H1 l (.lst [])))/\∀i m ys H,W i m ys H->
  (J.stop i H/\Q (.ref l) H)\/(J.go i H/\∀x H',J.yld i H x H'->g x (cSt k cap σ) H' fun σ2 H3=>σ2.drop k=(cSt k cap σ).drop k/\tt σ2 H3 fun b H4=>
   if b=true then te σ2 H4 fun y H5=>H5 l=some (.lst ys)/\ys.length<sizeLine/\∃m',m'<m/\W (i+1) m' (ys++[y]) (upd H5 l (.lst (ys++[y])))
   else ∃m',m'<m/\W (i+1) m' ys H4)
noncomputable def tComp (k:Nat)(cap:List Nat)(wi:TI)(g:TG)(tt:TT)(te:TE):TE:=fun σ H Q=>wi σ H fun J H1=>∀l,H1 l=none->CompW J k cap g tt te σ H1 l Q
section
variable {X:Cx}{tg iter elt:Expr}{ifs:List Expr}{sc scope:Scope}{caps N':List Str}{cap:List Nat}{k:Nat}{wi:TI}{g:TG}{tt:TT}{te:TE}{pos:Pos}
theorem comp_run {pins:List (Addr×Obj)}{s:Shared}{σ:St}{H:Hp}{Q:VK}(hcalm:X.calm=true)(S:CSc sc scope caps)(hsc:X.env.scope=sc)(hN:N'.drop k=caps)(hk:k<=N'.length)(hcap:Paired (fun j x=>X.N[j]? = some x) cap caps)
  (hi:PI X tg iter wi) (hg:∀cl C sE HE fp pins,PG (compCx X N' scope cl C sE HE fp pins) tg g) (ht:∀cl C sE HE fp pins,PIfs (compCx X N' scope cl C sE HE fp pins) ifs tt) (he:∀cl C sE HE fp pins,PE (compCx X N' scope cl C sE HE fp pins) elt te)
  (I:Inv X pins σ H s) (h:tComp k cap wi g tt te σ H Q) {cl:List (Str×Addr)} (hc1:∀x c,cl.lookup x=some c->X.env.cells.lookup x=some c) (hc2:∀y∈scope.names,y.2=.free->∃c,cl.lookup y.1=some c)
  {RR:Value->Addr->Result->Shared->Prop}
  (hRR:∀l sE HE H' s' m,Inv X pins σ HE sE->Inv X pins σ H' s'->H' sE.heap.objs.size=none->s'.heap.Ns sE.heap.objs.size m->Q (.ref l) H'->RR (.ref l) sE.heap.objs.size (.ok .next) s'):
  wpAny (model X.prog X.w) X.A (eval iter X.env) (fun xv s₁=>wpAny (model X.prog X.w) X.A (pyIter xv) (fun it s₂=>wpAny (model X.prog X.w) X.A (newList []) (fun acc s₃=>
   wpAny (model X.prog X.w) X.A (newFunctionEnv scope X.env.globals cl [] X.env.qual none .none (some X.env)) (fun cenv s₄=>
    codeAny (model X.prog X.w) X.A (.compStart (.ListComp elt [⟨tg,iter,ifs,0⟩] scope pos) 0 it acc { cenv with scope:=relabel scope X.env }) (RR acc cenv.locals) s₄) X.xe s₃) X.xe s₂) X.xe s₁) X.xe s:=by
 refine thn (hi pins s σ H _ I h) fun v s1 h1=>thn h1 fun itv s2 h2=>?_
 obtain ⟨it,fp,tn,J,H1,e,I1,T,st1,f1,q1⟩:=h2
 subst e
 refine wpAny_newList ?_
 have hfree:H1 s2.heap.objs.size=none:=I1.hok.fresh (Nat.le_refl _)
 have fpl:∀b∈fp,b<s2.heap.objs.size:=fun b hb=>by
  obtain ⟨o,e,_⟩:=T.obj _ _ st1 b hb
  exact Heap.lt_size e
 generalize hE:({ s2 with heap:=s2.heap.push { cls:=.type "list",data:=.seq ([]:List Value).toArray } }:Shared)=sE
 have k2:∀b o,s2.heap.get? b=some o->sE.heap.get? b=some o:=fun b o e=>by rw [← hE]; exact Heap.get?_push_of_some _ e
 have szE:s2.heap.objs.size<sE.heap.objs.size:=by rw [← hE]; show _<(s2.heap.push _).objs.size; rw [Heap.size_push]; exact Nat.lt_succ_self _
 have IE:Inv X pins σ (upd H1 s2.heap.objs.size (.lst [])) sE:=by
  rw [← hE]
  refine I1.laid (t':=s2.toks) (fun b o e=>Heap.get?_push_of_some _ e) (Nat.le_refl _) ?_
  exact ⟨Nat.zero_le _,[],0,.nil,Heap.get?_push_size _ rfl⟩
 have fE:∀b∈fp,FpOk X pins (upd H1 s2.heap.objs.size (.lst [])) b/\b<sE.heap.objs.size:=fun b hb=>
  ⟨⟨by rw [upd_ne (Nat.ne_of_lt (fpl b hb))]; exact (f1 b hb).1,(f1 b hb).2⟩,Nat.lt_trans (fpl b hb) szE⟩
 obtain ⟨W,⟨m0,w0⟩,turn⟩:=q1 _ hfree
 generalize hl:s2.heap.objs.size=l at *
 clear hl
 generalize hHE:upd H1 l (.lst [])=HE at *
 refine wpAny_newFunctionEnv S.nocell (by intro y hy; simp at hy) (fun h₁ hns₁ hsb₁=>?_) S.kind
 have kE:∀b o,sE.heap.get? b=some o->h₁.get? b=some o:=fun b o e=>(hsb₁.2 b (Nat.ne_of_lt (Heap.lt_size e))).trans (Heap.get?_push_of_some _ e)
 have I0:=comp_inv (k:=k) (cap:=cap) (N':=N') IE S hsc fE hc1 hc2 hN hk hcap kE hns₁ (sE.toks+([]:List (Str×Value)).length)
 have st0:tn 0 h₁:=T.keep _ _ _ st1 fun b hb o e=>kE b o (k2 b o e)
 have hX:∀{H':Hp},(∀b∈fp,H' b=none)->∀b∈fp,FpOk (compCx X N' scope cl sE.heap.objs.size sE HE fp pins) [] H' b:=fun hn b hb=>
  ⟨hn b hb,(I0.ok.exf b hb).1,I0.ok.exfs b hb,.inl hb,(I0.ok.exf b hb).2,fun p hp=>by
   rw [List.append_nil] at hp
   exact (fE b hb).1.2.2.2.2.2 p hp⟩
 have loop:∀s₃:Shared,s₃={ sE with heap:=h₁,toks:=sE.toks+([]:List (Str×Value)).length }->
   codeAny (model X.prog X.w) X.A (.compLoop (.ListComp elt [⟨tg,iter,ifs,0⟩] scope pos) 0 (.ref it) (.ref l) (compEnvC scope cl sE.heap.objs.size X.env)) (RR (.ref l) sE.heap.objs.size) s₃:=by
  rintro s₃ rfl
  refine codeAny_loop rfl (fun n s'=>∃i ys H',Inv (compCx X N' scope cl sE.heap.objs.size sE HE fp pins) [] (cSt k cap σ) H' s'/\tn i s'.heap/\(∀b∈fp,H' b=none)/\W i n ys H') (fun n s3 hI=>?_) m0
   ⟨0,[],HE,I0,st0,fun b hb=>(fE b hb).1.1,w0⟩
  obtain ⟨i,ys,H3,I3,st3,fr3,w3⟩:=hI
  show wpAny _ X.A ((compTurn (.ListComp elt [⟨tg,iter,ifs,0⟩] scope pos) 0 (.ref it) (.ref l) (compEnvC scope cl sE.heap.objs.size X.env)).onRaise (fun x=>do noteFrame x (compEnvC scope cl sE.heap.objs.size X.env); theTreesLotGoes x)) _ _ s3
  refine wpAny_noted ?_
  rw [compTurn_list]
  refine wpAny_bind (wpAny_standAt (wpAny_bind ?_))
  rcases turn i n ys H3 w3 with ⟨stop,qn⟩ | ⟨go,step⟩
  ·refine wpAny_mono (T.done (compCx X N' scope cl sE.heap.objs.size sE HE fp pins) rfl rfl rfl hcalm i [] s3 _ H3 (fun _ _=>False) I3 (hX fr3) st3 stop) (fun r s4 ⟨hr,I4⟩=>?_) fun _ _ z=>z.elim
   subst hr
   obtain ⟨m4,hn4,_⟩:=I4.loc
   exact wpAny_pure (hRR l sE HE H3 s4 m4 IE (comp_back IE fE I4) I4.free hn4 qn)
  ·refine wpAny_mono (T.item (compCx X N' scope cl sE.heap.objs.size sE HE fp pins) rfl rfl rfl hcalm i [] s3 _ H3 (fun _ _=>False) I3 (hX fr3) st3 go) (fun r s4 ⟨u,hr,h4⟩=>?_) fun _ _ z=>z.elim
   subst hr
   refine wpAny_bind (wpAny_mono h4 (fun _ s5 ⟨x,H5,I5,r5,y5,st5,fr5⟩=>?_) fun _ _ z=>z.elim)
   have I5':=I5.pinned (hX fr5) (T.obj _ _ st5)
   refine wpAny_bind (wpAny_mono (hg _ _ _ _ _ _ _ s5 _ H5 x u _ I5' r5 (step x H5 y5)) (fun _ s6 ⟨σ6,H6,I6,q6⟩=>?_) fun _ _ z=>z.elim)
   obtain ⟨d6,q6⟩:=q6
   have weak:∀{H7 s7},Inv (compCx X N' scope cl sE.heap.objs.size sE HE fp pins) ([]++pinsAt fp s5.heap) σ6 H7 s7->Inv (compCx X N' scope cl sE.heap.objs.size sE HE fp pins) ([]++pinsAt fp s5.heap) (cSt k cap σ) H7 s7:=fun {H7 s7} I7=>by
    refine I7.weak (I0.len.trans I7.len.symm) fun j v e=>?_
    by_cases z:k<=j
    ·obtain ⟨j',rfl⟩:∃j',j=k+j':=⟨j - k,by omega⟩
     rw [← List.getElem?_drop] at e ⊢
     rw [d6]
     exact e
    ·unfold cSt at e
     rw [List.getElem?_append_left (by simp; omega),List.getElem?_replicate,if_pos (by omega)] at e
     cases e
   have again:∀{H7:Hp} {s7:Shared} {zs:List V},Inv (compCx X N' scope cl sE.heap.objs.size sE HE fp pins) ([]++pinsAt fp s5.heap) σ6 H7 s7->(∃m',m'<n/\W (i+1) m' zs H7)->
     ∃m,m<n/\∃i ys H',Inv (compCx X N' scope cl sE.heap.objs.size sE HE fp pins) [] (cSt k cap σ) H' s7/\tn i s7.heap/\(∀b∈fp,H' b=none)/\W i m ys H':=fun {H7 s7 zs} I7 ⟨m',hm,w7⟩=>by
    refine ⟨m',hm,i+1,zs,H7,(weak I7).unpinned,T.keep _ _ _ st5 fun b hb o e=>(I7.pin (b,o) (List.mem_append_right _ (List.mem_append_right _ (mem_pinsAt hb e)))).1,fun b hb=>?_,w7⟩
    obtain ⟨o,e,d⟩:=T.obj _ _ st5 b hb
    exact (I7.pin (b,o) (List.mem_append_right _ (List.mem_append_right _ (mem_pinsAt hb e)))).2.1
   refine wpAny_bind (wpAny_mono (ht _ _ _ _ _ _ _ s6 σ6 H6 _ I6 q6) (fun b s7 ⟨H7,I7,q7⟩=>?_) fun _ _ z=>z.elim)
   cases b with
   |false=>
    rw [if_neg Bool.false_ne_true] at q7
    exact wpAny_pure ⟨rfl,again I7 q7⟩
   |true=>
    rw [if_pos rfl] at q7
    refine wpAny_bind (wpAny_bind (wpAny_mono (he _ _ _ _ _ _ _ s7 σ6 H7 _ I7 q7) (fun yv s8 ⟨y,H8,I8,r8,hl8,hz8,q8⟩=>?_) fun _ _ z=>z.elim))
    refine wpAny_bind (wpAny_mono (mt_append (X:=compCx X N' scope cl sE.heap.objs.size sE HE fp pins) _ s8 σ6 H8 (.ref l) [y] (.ref l) [yv] (fun _ H9=>H9=upd H8 l (.lst (ys++[y]))) I8 rfl (.cons r8 .nil) ⟨l,ys,y,rfl,rfl,hl8,hz8,rfl⟩)
     (fun _ s9 ⟨_,H9,I9,_,e9⟩=>?_) fun _ _ z=>z.elim)
    subst e9
    exact wpAny_pure (wpAny_pure ⟨rfl,again I9 q8⟩)
 exact codeAny_compStart_list (loop _ rfl) (T.self _ 0 _ _ _ st0 (loop _ rfl))
theorem pe_comp (sc:Scope)(N' caps:List Str)(k:Nat)(cap:List Nat)(hcalm:X.calm=true)(S:CSc sc scope caps)(hcap:Paired (fun j x=>X.N[j]? = some x) cap caps)
  (hi:PI X tg iter wi) (hg:∀cl C sE HE fp pins,PG (compCx X N' scope cl C sE HE fp pins) tg g) (ht:∀cl C sE HE fp pins,PIfs (compCx X N' scope cl C sE HE fp pins) ifs tt) (he:∀cl C sE HE fp pins,PE (compCx X N' scope cl C sE HE fp pins) elt te)
  (hsc:X.env.scope=sc:=by rfl) (hN:N'.drop k=caps:=by rfl) (hk:k<=N'.length:=by decide) (hs:∀x,foldedSetIterable iter X.env x=pure x:=by intro _; rfl):
  PE X (.ListComp elt [⟨tg,iter,ifs,0⟩] scope pos) (tComp k cap wi g tt te):=by
 intro pins s σ H Q I h
 obtain ⟨cl,hcl,hc1,hc2⟩:=closure_for (scope:=scope) (env:=X.env) fun y hy e=>I.ok.has y.1 (by
  have z:=S.free y hy e
  rw [← hsc] at z
  exact z)
 rw [eval_ListComp]
 refine wpAny_comprehension_free (use:=none) rfl hs hcl S.kind S.loc (comp_run (RR:=fun acc C=>compPost (model X.prog X.w) X.A X.xe none (EP X pins σ Q) acc C) hcalm S hsc hN hk hcap hi hg ht he I h hc1 hc2 ?_)
 intro l sE HE H' s' m IE I' hn hns q
 exact ⟨m,hns,fun h' hs'=>⟨.ref l,H',comp_let IE I' hn hs',rfl,q⟩⟩
theorem ps_setComp {i:Nat}{y:Str}{py spos:Pos}(sc:Scope)(N' caps:List Str)(k:Nat)(cap:List Nat)(hnd:X.N.Nodup)(hi':X.N[i]? = some y)(hy:Loc X.env.scope y)(hcalm:X.calm=true)(S:CSc sc scope caps)(hcap:Paired (fun j x=>X.N[j]? = some x) cap caps)
  (hi:PI X tg iter wi) (hg:∀cl C sE HE fp pins,PG (compCx X N' scope cl C sE HE fp pins) tg g) (ht:∀cl C sE HE fp pins,PIfs (compCx X N' scope cl C sE HE fp pins) ifs tt) (he:∀cl C sE HE fp pins,PE (compCx X N' scope cl C sE HE fp pins) elt te)
  (hsw:swapsWith (.ListComp elt [⟨tg,iter,ifs,0⟩] scope pos) (some (.Name y py)) spos.line X.env=pure true:=by rfl)
  (hsc:X.env.scope=sc:=by rfl) (hN:N'.drop k=caps:=by rfl) (hk:k<=N'.length:=by decide) (hs:∀x,foldedSetIterable iter X.env x=pure x:=by intro _; rfl)
  (hf:X.fn y=true\/X.env.scope.names.lookup y=some .local:=by first | exact .inl rfl | exact .inr rfl | assumption):
  PS X (.Assign [.Name y py] (.ListComp elt [⟨tg,iter,ifs,0⟩] scope pos) spos) (tAsg (tComp k cap wi g tt te) (gName i)):=by
 intro pins s σ H D I h
 obtain ⟨cl,hcl,hc1,hc2⟩:=closure_for (scope:=scope) (env:=X.env) fun y hy e=>I.ok.has y.1 (by
  have z:=S.free y hy e
  rw [← hsc] at z
  exact z)
 rw [exec_Assign_Name_used _ _ _ _ hsw]
 refine wpAny_bind (wpAny_standAt (wpAny_bind ?_))
 show wpAny _ X.A (do let _ ← comprehension (.ListComp elt [⟨tg,iter,ifs,0⟩] scope pos) scope X.env _ (newList []) false (eval iter X.env) (some (assign (.Name y py) X.env))) _ _ s
 refine wpAny_bind (wpAny_mono (wpAny_comprehension_free (use:=some (assign (.Name y py) X.env)) (Q:=fun _ s'=>SP X pins D .next s') rfl hs hcl S.kind S.loc
  (comp_run (RR:=fun acc C=>compPost (model X.prog X.w) X.A X.xe (some (assign (.Name y py) X.env)) (fun _ s'=>SP X pins D .next s') acc C) hcalm S hsc hN hk hcap hi hg ht he I h hc1 hc2 ?_)) (fun _ s' hq=>wpAny_pure (wpAny_pure hq)) fun _ _ e=>e)
 intro l sE HE H' s' m IE I' hn hns q
 show wpAny _ X.A (assign (.Name y py) X.env (.ref l)) _ _ _
 refine wpAny_assign_Name (store_ok2 I' hnd hi' hy (v:=.ref l) rfl (fun s2 I2 hb=>?_) hf)
 obtain ⟨a,hsb,ha⟩:=hb
 have hne:sE.heap.objs.size≠a:=fun z=>by
  rcases ha with e | e
  ·exact absurd IE.lt (by rw [← e,← z]; exact Nat.lt_irrefl _)
  ·obtain ⟨v,q⟩:=IE.cell y a e
   exact absurd q.lt (by rw [z]; exact Nat.lt_irrefl _)
 exact ⟨m,hns.sameBut hsb hne,fun h' hs'=>⟨_,H',comp_let IE I2 hn hs',q⟩⟩
end
open PySem PySem.Spec PyProof.Rows L2
inductive TyK (K:PySem.W.Frag)(H:Hp):V->Value->Prop where
 |of {v:V} {t:Value}:TyOf K H v t->TyK K H v t
 |tup {a:Addr} {xs:List V}:SqT K H a xs->TyK K H (.ref a) (.type "tuple")
 |lst {a:Addr} {xs:List V}:SqL K H a xs->TyK K H (.ref a) (.type "list")
section
variable {X:Cx}
noncomputable def rIsiK (K:PySem.W.Frag):List V->Hp->VK->Prop:=fun xs H Q=>∃x c t cv b,xs=[x,c]/\clsV c=some cv/\TyK K H x t/\PySem.W.kitOne K t cv=some b/\Q (.bl b) H
theorem call_isiK:CallR X (.builtin "isinstance") (rIsiK X.K):=by
 intro pins s σ H xs us Q I r h
 obtain ⟨x,c,t,cv,b,rfl,rc,ty,e,q⟩:=h
 obtain ⟨u,w',rfl,ru,rw'⟩:=vals2 r
 have z:=clsV_rel rc rw'
 subst z
 cases ty with
 |of ty=>exact isinst_ok I ru ty e fun tk=>⟨.bl b,H,I.tok _,rfl,q⟩
 | @tup a xs hs=>
  cases (show u=Value.ref a from ru)
  obtain ⟨its,_,⟨o,h1,h2,_⟩,_⟩:=I.tuple hs
  exact PySem.W.kia_one PySem.W.kitx_tuple I.kIn ⟨o,h1,h2⟩ e (fun z=>nomatch z) fun tk=>⟨.bl b,H,I.tok _,rfl,q⟩
 | @lst a xs hs=>
  cases (show u=Value.ref a from ru)
  obtain ⟨its,_,⟨o,n,h1,h2,_⟩,_⟩:=I.list hs
  exact PySem.W.kia_one PySem.W.kitx_list I.kIn ⟨o,h1,h2⟩ e (fun z=>nomatch z) fun tk=>⟨.bl b,H,I.tok _,rfl,q⟩
theorem Vals.reverse:∀{xs:List V} {us:List Value},Vals xs us->Vals xs.reverse us.reverse
 |_,_,.nil=>.nil
 |_,_,.cons r t=>by rw [List.reverse_cons,List.reverse_cons]; exact L2.Vals.append (Vals.reverse t) (.cons r .nil)
end
theorem Rd.mono {H H':Hp}{a:Addr}{u:HO}(h:Rd H a u)(g:Same H H'):Rd H' a u:=h.elim (fun e=>.inl (g _ _ e)) fun ⟨o,e⟩=>.inr ⟨o,g _ _ e⟩
theorem sqL_mono {K:PySem.W.Frag}{H H':Hp}{a:Addr}{xs:List V}(h:SqL K H a xs)(g:Same H H'):SqL K H' a xs:=h.elim (fun e=>.inl (Rd.mono e g)) .inr
noncomputable def SameBut (l:Addr)(H H':Hp):Prop:=∀b u,b≠l->H b=some u->H' b=some u
theorem sb_of {l:Addr}{H H':Hp}(g:Same H H'):SameBut l H H':=fun b u _ e=>g b u e
theorem sb_upd {l:Addr}{H:Hp}{o:HO}:SameBut l H (upd H l o):=fun b u n e=>by rw [upd_ne n]; exact e
theorem SameBut.trans {l:Addr}{H H1 H2:Hp}(a:SameBut l H H1)(b:SameBut l H1 H2):SameBut l H H2:=fun c u n e=>b c u n (a c u n e)
theorem sb_same {l:Addr}{H H':Hp}(g:SameBut l H H')(n:H l=none):Same H H':=fun b u e=>g b u (fun z=>by rw [z,n] at e; cases e) e
noncomputable def CW (n:Nat)(l:Addr)(H1:Hp)(R:Nat->List V->Hp->Prop):Nat->Nat->List V->Hp->Prop:=fun i m ys H=>m=n - i/\i<=n/\ys.length=i/\Same H1 H/\H l=some (.lst ys)/\R i ys H
noncomputable def CN (n:Nat)(l:Addr)(H1:Hp)(R:Nat->List V->Hp->Prop)(i:Nat)(ys:List V):VK:=fun y H5=>H5 l=some (.lst ys)/\ys.length<sizeLine/\∃m',m'<n - i/\CW n l H1 R (i+1) m' (ys++[y]) (upd H5 l (.lst (ys++[y])))
theorem CN.mk {n:Nat}{l:Addr}{H1 H H5:Hp}{R:Nat->List V->Hp->Prop}{i:Nat}{ys:List V}{y:V}(hn:n<=sizeLine)(hl1:H1 l=none)(hi:i<n)(hlen:ys.length=i)(s1:Same H1 H)(hl:H l=some (.lst ys))(g:Same H H5)
  (r:R (i+1) (ys++[y]) (upd H5 l (.lst (ys++[y])))):CN n l H1 R i ys y H5:=
 ⟨g _ _ hl,by omega,n - (i+1),by omega,rfl,hi,by rw [List.length_append,List.length_singleton,hlen],sb_same ((sb_of (fun b u e=>g b u (s1 b u e))).trans sb_upd) hl1,upd_same,r⟩
section
variable {k:Nat}{cap:List Nat}{g:TG}{te:TE}{σ:St}{H1:Hp}{Q:VK}{l:Addr}
end
section
variable {X:Cx}{tg:Expr}
end
open PySem PySem.Spec PyProof.Rows L2
section
variable {X:Cx}
end
end Hd
namespace F
open PySem PySem.Spec PyProof.Rows L2 Hd
inductive D where
 |non | bl (b:Bool) | int (i:Int) | str (x:Str) | exc (c:Str)
 |tup (xs:List D) | lst (xs:List D)
 |dct (ks:List Key) (vs:List D) | dcu (ks:List (List Kt)) (vs:List D)
  |dcf (ks:List (List Kt)) (vs:List D)
  |adr (a:Addr)
  |ins (c:Str) (ns:List Str) (vs:List D)
inductive Res (α:Type) where
 |ok (a:α) | exc (c:Str) | stuck
noncomputable def Res.bind {α β:Type}(r:Res α)(f:α->Res β):Res β:=match r with
 | .ok a=>f a
 | .exc c=>.exc c
 | .stuck=>.stuck
@[simp] theorem Res.bind_ok {α β:Type}(a:α)(f:α->Res β):(Res.ok a).bind f=f a:=rfl
@[simp] theorem Res.bind_exc {α β:Type}(c:Str)(f:α->Res β):(Res.exc c:Res α).bind f=.exc c:=rfl
@[simp] theorem Res.bind_stuck {α β:Type}(f:α->Res β):(Res.stuck:Res α).bind f=.stuck:=rfl
noncomputable def ofO {α:Type}:Option α->Res α
 |some a=>.ok a
 |none=>.stuck
@[simp] theorem ofO_some {α:Type}(a:α):ofO (some a)=.ok a:=rfl
@[simp] theorem ofO_none {α:Type}:ofO (none:Option α)=.stuck:=rfl
structure Gx where
 K:PySem.W.Frag
 mg:Str->Option Value
noncomputable abbrev gx (X:Cx):Gx:=⟨X.K,X.mg⟩
noncomputable def KLst (K:PySem.W.Frag)(a:Addr)(xs:List V):Prop:=
 ∃(o:Obj) (its:Array Value) (n:Nat),K.lookup a=some o/\o.cls=.type "list"/\o.dict=none/\o.data=.seq its n/\its.size<=sizeLine/\Vals xs its.toList
noncomputable def LstAt (K:PySem.W.Frag)(O:Addr->Prop)(H:Hp)(a:Addr)(xs:List V):Prop:=(¬O a/\Rd H a (.lst xs))\/KLst K a xs
mutual
inductive DV (G:Gx)(O:Addr->Prop)(H:Hp):V->D->Prop where
 |non:DV G O H .non .non
 |bl (b:Bool):DV G O H (.bl b) (.bl b)
 |int (i:Int):DV G O H (.int i) (.int i)
 |str (x:Str):DV G O H (.str x) (.str x)
 |adr (a:Addr):DV G O H (.ref a) (.adr a)
 |ins {a C dx:Addr} {c:Str} {kvs:List (Str×V)} {ns:List Str} {vs:List V} {ds:List D}:¬O a->G.mg c=some (.ref C)->H a=some (.ins C dx kvs)->kvs.map (·.1)=ns->kvs.map (·.2)=vs->DVs G O H vs ds->DV G O H (.ref a) (.ins c ns ds)
 |exc {a C:Addr} {c:Str}:G.mg c=some (.ref C)->H a=some (.ext (ExcIs a (.ref C)))->DV G O H (.ref a) (.exc c)
 |tup {a:Addr} {xs:List V} {ds:List D}:SqU G.K H a xs->DVs G O H xs ds->DV G O H (.ref a) (.tup ds)
 |lst {a:Addr} {xs:List V} {ds:List D}:LstAt G.K O H a xs->DVs G O H xs ds->DV G O H (.ref a) (.lst ds)
 |dct {a:Addr} {kvs:List (Key×V)} {ks:List Key} {vs:List V} {ds:List D}:¬O a->H a=some (.dK kvs)->kvs.map (·.1)=ks->kvs.map (·.2)=vs->DVs G O H vs ds->DV G O H (.ref a) (.dct ks ds)
 |dcu {a:Addr} {kvs:List (List Kt×V)} {ks:List (List Kt)} {vs:List V} {ds:List D}:¬O a->H a=some (.dT (KTp G.K) kvs)->kvs.map (·.1)=ks->kvs.map (·.2)=vs->DVs G O H vs ds->DV G O H (.ref a) (.dcu ks ds)
 |dcf {a:Addr} {o:Obj} {kvs:List (List Kt×V)} {ks:List (List Kt)} {vs:List V} {ds:List D}:H a=some (.frz o (.dT (KTp G.K) kvs))->kvs.map (·.1)=ks->kvs.map (·.2)=vs->DVs G O H vs ds->DV G O H (.ref a) (.dcf ks ds)
inductive DVs (G:Gx)(O:Addr->Prop)(H:Hp):List V->List D->Prop where
 |nil:DVs G O H [] []
 |cons {v:V} {vs:List V} {d:D} {ds:List D}:DV G O H v d->DVs G O H vs ds->DVs G O H (v::vs) (d::ds)
end
noncomputable def OV (G:Gx)(O:Addr->Prop)(H:Hp)(a:Addr):D->Prop
 | .lst ds=>∃xs,H a=some (.lst xs)/\DVs G O H xs ds
 | .dct ks ds=>∃kvs vs,H a=some (.dK kvs)/\kvs.map (·.1)=ks/\kvs.map (·.2)=vs/\DVs G O H vs ds
 | .dcu ks ds=>∃kvs vs,H a=some (.dT (KTp G.K) kvs)/\kvs.map (·.1)=ks/\kvs.map (·.2)=vs/\DVs G O H vs ds
 | .ins c ns ds=>∃C dx kvs vs,G.mg c=some (.ref C)/\H a=some (.ins C dx kvs)/\kvs.map (·.1)=ns/\kvs.map (·.2)=vs/\DVs G O H vs ds
 |_=>False
noncomputable def DW (G:Gx)(O:Addr->Prop)(H:Hp)(v:V)(d:D):Prop:=DV G O H v d\/∃a,v=.ref a/\O a/\OV G O H a d
inductive DWs (G:Gx)(O:Addr->Prop)(H:Hp):List V->List D->Prop where
 |nil:DWs G O H [] []
 |cons {v:V} {vs:List V} {d:D} {ds:List D}:DW G O H v d->DWs G O H vs ds->DWs G O H (v::vs) (d::ds)
noncomputable def MutK (o:Option HO):Prop:=(∃xs,o=some (.lst xs))\/(∃k,o=some (.dK k))\/(∃k:(Addr->List V->Prop)×List (List Kt×V),o=some (.dT k.1 k.2))\/∃k:Addr×Addr×List (Str×V),o=some (.ins k.1 k.2.1 k.2.2)
noncomputable def Kp (O:Addr->Prop)(H H':Hp):Prop:=∀b o,H b=some o->¬O b->H' b=some o
theorem Kp.of {O:Addr->Prop}{H H':Hp}(g:Same H H'):Kp O H H':=fun b o e _=>g b o e
theorem not_mut {O:Addr->Prop}{H:Hp}(m:∀b,O b->MutK (H b)){a:Addr}{o:HO}(e:H a=some o)(n:¬MutK (some o)):¬O a:=fun z=>n (e ▸ m a z)
theorem mut_tup {xs:List V}:¬MutK (some (.tup xs)):=by rintro (⟨_,e⟩ | ⟨_,e⟩ | ⟨_,e⟩ | ⟨_,e⟩) <;> cases e
theorem mut_frz {o:Obj}{u:HO}:¬MutK (some (.frz o u)):=by rintro (⟨_,e⟩ | ⟨_,e⟩ | ⟨_,e⟩ | ⟨_,e⟩) <;> cases e
theorem mut_ext {φ:Heap->Prop}:¬MutK (some (.ext φ)):=by rintro (⟨_,e⟩ | ⟨_,e⟩ | ⟨_,e⟩ | ⟨_,e⟩) <;> cases e
theorem sqT_kp {K:PySem.W.Frag}{O:Addr->Prop}{H H':Hp}{a:Addr}{xs:List V}(m:∀b,O b->MutK (H b))(g:Kp O H H')(h:SqT K H a xs):SqT K H' a xs:=by
 rcases h with (e | ⟨o,e⟩) | h
 ·exact .inl (.inl (g a _ e (not_mut m e mut_tup)))
 ·exact .inl (.inr ⟨o,g a _ e (not_mut m e mut_frz)⟩)
 ·exact .inr h
theorem sqU_kp {K:PySem.W.Frag}{O:Addr->Prop}{H H':Hp}{a:Addr}{xs:List V}(m:∀b,O b->MutK (H b))(g:Kp O H H')(h:SqU K H a xs):SqU K H' a xs:=by
 rcases h with e | h
 ·exact .inl (g a _ e (not_mut m e mut_tup))
 ·exact .inr h
theorem sqU_mono {K:PySem.W.Frag}{H H':Hp}{a:Addr}{xs:List V}(h:SqU K H a xs)(g:Same H H'):SqU K H' a xs:=h.imp (g _ _) id
theorem lstAt_kp {K:PySem.W.Frag}{O:Addr->Prop}{H H':Hp}{a:Addr}{xs:List V}(g:Kp O H H')(h:LstAt K O H a xs):LstAt K O H' a xs:=by
 rcases h with ⟨n,e | ⟨o,e⟩⟩ | h
 ·exact .inl ⟨n,.inl (g a _ e n)⟩
 ·exact .inl ⟨n,.inr ⟨o,g a _ e n⟩⟩
 ·exact .inr h
theorem LstAt.sq {K:PySem.W.Frag}{O:Addr->Prop}{H:Hp}{a:Addr}{xs:List V}(h:LstAt K O H a xs):SqL K H a xs:=h.elim (fun z=>.inl z.2) .inr
section
variable {G:Gx}{O O':Addr->Prop}{H H':Hp}
mutual
theorem DV.kp (m:∀b,O b->MutK (H b))(g:Kp O H H'):∀{v:V} {d:D},DV G O H v d->DV G O H' v d
 |_,_,.non=>.non
 |_,_,.bl b=>.bl b
 |_,_,.int i=>.int i
 |_,_,.str x=>.str x
 |_,_,.adr a=>.adr a
 |_,_,.exc h e=>.exc h (g _ _ e (not_mut m e mut_ext))
 |_,_,.tup h hs=>.tup (sqU_kp m g h) (DVs.kp m g hs)
 |_,_,.lst h hs=>.lst (lstAt_kp g h) (DVs.kp m g hs)
 |_,_,.dct n e a b hs=>.dct n (g _ _ e n) a b (DVs.kp m g hs)
 |_,_,.dcu n e a b hs=>.dcu n (g _ _ e n) a b (DVs.kp m g hs)
 |_,_,.dcf e a b hs=>.dcf (g _ _ e (not_mut m e mut_frz)) a b (DVs.kp m g hs)
 |_,_,.ins n c e a b hs=>.ins n c (g _ _ e n) a b (DVs.kp m g hs)
theorem DVs.kp (m:∀b,O b->MutK (H b))(g:Kp O H H'):∀{vs:List V} {ds:List D},DVs G O H vs ds->DVs G O H' vs ds
 |_,_,.nil=>.nil
 |_,_,.cons h hs=>.cons (DV.kp m g h) (DVs.kp m g hs)
end
mutual
theorem DV.mono (g:Same H H'):∀{v:V} {d:D},DV G O H v d->DV G O H' v d
 |_,_,.non=>.non
 |_,_,.bl b=>.bl b
 |_,_,.int i=>.int i
 |_,_,.str x=>.str x
 |_,_,.adr a=>.adr a
 |_,_,.exc h e=>.exc h (g _ _ e)
 |_,_,.tup h hs=>.tup (sqU_mono h g) (DVs.mono g hs)
 |_,_,.lst h hs=>.lst (lstAt_kp (.of g) h) (DVs.mono g hs)
 |_,_,.dct n e a b hs=>.dct n (g _ _ e) a b (DVs.mono g hs)
 |_,_,.dcu n e a b hs=>.dcu n (g _ _ e) a b (DVs.mono g hs)
 |_,_,.dcf e a b hs=>.dcf (g _ _ e) a b (DVs.mono g hs)
 |_,_,.ins n c e a b hs=>.ins n c (g _ _ e) a b (DVs.mono g hs)
theorem DVs.mono (g:Same H H'):∀{vs:List V} {ds:List D},DVs G O H vs ds->DVs G O H' vs ds
 |_,_,.nil=>.nil
 |_,_,.cons h hs=>.cons (DV.mono g h) (DVs.mono g hs)
end
mutual
theorem DV.anti (s:∀b,O' b->O b\/H b=none):∀{v:V} {d:D},DV G O H v d->DV G O' H v d
 |_,_,.non=>.non
 |_,_,.bl b=>.bl b
 |_,_,.int i=>.int i
 |_,_,.str x=>.str x
 |_,_,.adr a=>.adr a
 |_,_,.exc h e=>.exc h e
 |_,_,.tup h hs=>.tup h (DVs.anti s hs)
 |_,_,.lst h hs=>.lst (h.elim (fun z=>.inl ⟨fun o=>(s _ o).elim z.1 fun n=>by rcases z.2 with e | ⟨_,e⟩ <;> (rw [n] at e; cases e),z.2⟩) .inr) (DVs.anti s hs)
 |_,_,.dct n e a b hs=>.dct (fun o=>(s _ o).elim n fun z=>by rw [z] at e; cases e) e a b (DVs.anti s hs)
 |_,_,.dcu n e a b hs=>.dcu (fun o=>(s _ o).elim n fun z=>by rw [z] at e; cases e) e a b (DVs.anti s hs)
 |_,_,.dcf e a b hs=>.dcf e a b (DVs.anti s hs)
 |_,_,.ins n c e a b hs=>.ins (fun o=>(s _ o).elim n fun z=>by rw [z] at e; cases e) c e a b (DVs.anti s hs)
theorem DVs.anti (s:∀b,O' b->O b\/H b=none):∀{vs:List V} {ds:List D},DVs G O H vs ds->DVs G O' H vs ds
 |_,_,.nil=>.nil
 |_,_,.cons h hs=>.cons (DV.anti s h) (DVs.anti s hs)
end
noncomputable def Ev (O:Addr->Prop)(H:Hp)(O':Addr->Prop)(H':Hp):Prop:=(∀b,O' b->O b\/H b=none)/\Kp O H H'
mutual
theorem DV.go (m:∀b,O b->MutK (H b))(g:Ev O H O' H'):∀{v:V} {d:D},DV G O H v d->DV G O' H' v d
 |_,_,.non=>.non
 |_,_,.bl b=>.bl b
 |_,_,.int i=>.int i
 |_,_,.str x=>.str x
 |_,_,.adr a=>.adr a
 |_,_,.exc h e=>.exc h (g.2 _ _ e (not_mut m e mut_ext))
 |_,_,.tup h hs=>.tup (sqU_kp m g.2 h) (DVs.go m g hs)
 |_,_,.lst h hs=>.lst (h.elim (fun z=>.inl ⟨fun o=>(g.1 _ o).elim z.1 fun n=>by rcases z.2 with e | ⟨_,e⟩ <;> (rw [n] at e; cases e),(lstAt_kp g.2 (.inl z):LstAt G.K O H' _ _).elim (fun y=>y.2) fun y=>z.2.elim (fun e=>.inl (g.2 _ _ e z.1)) fun ⟨o,e⟩=>.inr ⟨o,g.2 _ _ e z.1⟩⟩) .inr) (DVs.go m g hs)
 |_,_,.dct n e a b hs=>.dct (fun o=>(g.1 _ o).elim n fun z=>by rw [z] at e; cases e) (g.2 _ _ e n) a b (DVs.go m g hs)
 |_,_,.dcu n e a b hs=>.dcu (fun o=>(g.1 _ o).elim n fun z=>by rw [z] at e; cases e) (g.2 _ _ e n) a b (DVs.go m g hs)
 |_,_,.dcf e a b hs=>.dcf (g.2 _ _ e (not_mut m e mut_frz)) a b (DVs.go m g hs)
 |_,_,.ins n c e a b hs=>.ins (fun o=>(g.1 _ o).elim n fun z=>by rw [z] at e; cases e) c (g.2 _ _ e n) a b (DVs.go m g hs)
theorem DVs.go (m:∀b,O b->MutK (H b))(g:Ev O H O' H'):∀{vs:List V} {ds:List D},DVs G O H vs ds->DVs G O' H' vs ds
 |_,_,.nil=>.nil
 |_,_,.cons h hs=>.cons (DV.go m g h) (DVs.go m g hs)
end
theorem OV.anti {a:Addr}{d:D}(s:∀b,O' b->O b\/H b=none)(h:OV G O H a d):OV G O' H a d:=by
 cases d with
 |lst ds=>obtain ⟨xs,e,hs⟩:=h; exact ⟨xs,e,hs.anti s⟩
 |dct ks ds=>obtain ⟨k,v,e,a1,a2,hs⟩:=h; exact ⟨k,v,e,a1,a2,hs.anti s⟩
 |dcu ks ds=>obtain ⟨k,v,e,a1,a2,hs⟩:=h; exact ⟨k,v,e,a1,a2,hs.anti s⟩
 |ins c ns ds=>obtain ⟨C,dx,k,v,ec,e,a1,a2,hs⟩:=h; exact ⟨C,dx,k,v,ec,e,a1,a2,hs.anti s⟩
 |_=>exact h.elim
theorem OV.mono {a:Addr}{d:D}(g:Same H H')(h:OV G O H a d):OV G O H' a d:=by
 cases d with
 |lst ds=>obtain ⟨xs,e,hs⟩:=h; exact ⟨xs,g _ _ e,hs.mono g⟩
 |dct ks ds=>obtain ⟨k,v,e,a1,a2,hs⟩:=h; exact ⟨k,v,g _ _ e,a1,a2,hs.mono g⟩
 |dcu ks ds=>obtain ⟨k,v,e,a1,a2,hs⟩:=h; exact ⟨k,v,g _ _ e,a1,a2,hs.mono g⟩
 |ins c ns ds=>obtain ⟨C,dx,k,v,ec,e,a1,a2,hs⟩:=h; exact ⟨C,dx,k,v,ec,g _ _ e,a1,a2,hs.mono g⟩
 |_=>exact h.elim
theorem OV.kp {a:Addr}{d:D}(m:∀b,O b->MutK (H b))(g:Kp O H H')(e':H' a=H a)(h:OV G O H a d):OV G O H' a d:=by
 cases d with
 |lst ds=>obtain ⟨xs,e,hs⟩:=h; exact ⟨xs,e'.trans e,hs.kp m g⟩
 |dct ks ds=>obtain ⟨k,v,e,a1,a2,hs⟩:=h; exact ⟨k,v,e'.trans e,a1,a2,hs.kp m g⟩
 |dcu ks ds=>obtain ⟨k,v,e,a1,a2,hs⟩:=h; exact ⟨k,v,e'.trans e,a1,a2,hs.kp m g⟩
 |ins c ns ds=>obtain ⟨C,dx,k,v,ec,e,a1,a2,hs⟩:=h; exact ⟨C,dx,k,v,ec,e'.trans e,a1,a2,hs.kp m g⟩
 |_=>exact h.elim
theorem OV.mut {a:Addr}{d:D}(h:OV G O H a d):MutK (H a):=by
 cases d with
 |lst ds=>obtain ⟨xs,e,hs⟩:=h; exact .inl ⟨xs,e⟩
 |dct ks ds=>obtain ⟨k,v,e,_⟩:=h; exact .inr (.inl ⟨k,e⟩)
 |dcu ks ds=>obtain ⟨k,v,e,_⟩:=h; exact .inr (.inr (.inl ⟨(_,k),e⟩))
 |ins c ns ds=>obtain ⟨C,dx,k,v,_,e,_⟩:=h; exact .inr (.inr (.inr ⟨(C,dx,k),e⟩))
 |_=>exact h.elim
theorem OV.dv {a:Addr}{d:D}(n:¬O a)(h:OV G O H a d):DV G O H (.ref a) d:=by
 cases d with
 |lst ds=>obtain ⟨xs,e,hs⟩:=h; exact .lst (.inl ⟨n,.inl e⟩) hs
 |dct ks ds=>obtain ⟨k,v,e,a1,a2,hs⟩:=h; exact .dct n e a1 a2 hs
 |dcu ks ds=>obtain ⟨k,v,e,a1,a2,hs⟩:=h; exact .dcu n e a1 a2 hs
 |ins c ns ds=>obtain ⟨C,dx,k,v,ec,e,a1,a2,hs⟩:=h; exact .ins n ec e a1 a2 hs
 |_=>exact h.elim
theorem DW.mono {v:V}{d:D}(g:Same H H')(h:DW G O H v d):DW G O H' v d:=h.elim (fun z=>.inl (z.mono g)) fun ⟨a,e,o,z⟩=>.inr ⟨a,e,o,z.mono g⟩
theorem DWs.mono (g:Same H H'):∀{vs:List V} {ds:List D},DWs G O H vs ds->DWs G O H' vs ds
 |_,_,.nil=>.nil
 |_,_,.cons h hs=>.cons (h.mono g) (DWs.mono g hs)
theorem DW.any {v:V}{d:D}(h:DW G O H v d):DV G (fun _=>False) H v d:=by
 rcases h with h | ⟨a,e,_,h⟩
 ·exact h.anti fun _ z=>z.elim
 ·subst e
  exact (h.anti (O':=fun _=>False) fun _ z=>z.elim).dv id
theorem DWs.any:∀{vs:List V} {ds:List D},DWs G O H vs ds->DVs G (fun _=>False) H vs ds
 |_,_,.nil=>.nil
 |_,_,.cons h hs=>.cons h.any (DWs.any hs)
end
section
variable {G:Gx}{O:Addr->Prop}{H:Hp}{v:V}
theorem dw_non (h:DW G O H v .non):v=.non:=by
 rcases h with h | ⟨_,_,_,h⟩
 ·cases h; rfl
 ·exact h.elim
theorem dw_bl {b:Bool}(h:DW G O H v (.bl b)):v=.bl b:=by
 rcases h with h | ⟨_,_,_,h⟩
 ·cases h; rfl
 ·exact h.elim
theorem dw_int {i:Int}(h:DW G O H v (.int i)):v=.int i:=by
 rcases h with h | ⟨_,_,_,h⟩
 ·cases h; rfl
 ·exact h.elim
theorem dw_str {x:Str}(h:DW G O H v (.str x)):v=.str x:=by
 rcases h with h | ⟨_,_,_,h⟩
 ·cases h; rfl
 ·exact h.elim
theorem dw_tup {ds:List D}(h:DW G O H v (.tup ds)):∃a xs,v=.ref a/\SqT G.K H a xs/\DVs G O H xs ds:=by
 rcases h with h | ⟨_,_,_,h⟩
 ·cases h with
  |tup h hs=>exact ⟨_,_,rfl,h.sq,hs⟩
 ·exact h.elim
theorem dw_tupU {ds:List D}(h:DW G O H v (.tup ds)):∃a xs,v=.ref a/\SqU G.K H a xs/\DVs G O H xs ds:=by
 rcases h with h | ⟨_,_,_,h⟩
 ·cases h with
  |tup h hs=>exact ⟨_,_,rfl,h,hs⟩
 ·exact h.elim
theorem dw_lst {ds:List D}(h:DW G O H v (.lst ds)):∃a xs,v=.ref a/\SqL G.K H a xs/\DVs G O H xs ds:=by
 rcases h with h | ⟨a,e,_,h⟩
 ·cases h with
  |lst h hs=>exact ⟨_,_,rfl,h.sq,hs⟩
 ·obtain ⟨xs,e',hs⟩:=h
  exact ⟨a,xs,e,.inl (.inl e'),hs⟩
theorem dw_dct {ks:List Key}{ds:List D}(h:DW G O H v (.dct ks ds)):∃a kvs vs,v=.ref a/\H a=some (.dK kvs)/\kvs.map (·.1)=ks/\kvs.map (·.2)=vs/\DVs G O H vs ds:=by
 rcases h with h | ⟨a,e,_,h⟩
 ·cases h with
  |dct n e a b hs=>exact ⟨_,_,_,rfl,e,a,b,hs⟩
 ·obtain ⟨k,w,e',a1,a2,hs⟩:=h
  exact ⟨a,k,w,e,e',a1,a2,hs⟩
theorem dvs_len:∀{vs:List V} {ds:List D},DVs G O H vs ds->vs.length=ds.length
 |_,_,.nil=>rfl
 |_,_,.cons _ hs=>by rw [List.length_cons,List.length_cons,dvs_len hs]
theorem dvs_app:∀{vs us:List V} {ds es:List D},DVs G O H vs ds->DVs G O H us es->DVs G O H (vs++us) (ds++es)
 |_,_,_,_,.nil,h=>h
 |_,_,_,_,.cons a t,h=>.cons a (dvs_app t h)
theorem dvs_get:∀{vs:List V} {ds:List D} {i:Nat} {x:V},DVs G O H vs ds->vs[i]? = some x->∃d,ds[i]? = some d/\DV G O H x d
 |_,_,_,_,.nil,e=>by simp at e
 |_,_,0,_,.cons a _,e=>by simp at e; subst e; exact ⟨_,rfl,a⟩
 |_,_,i+1,x,.cons _ t,e=>by
  obtain ⟨d,h1,h2⟩:=dvs_get (i:=i) (x:=x) t (by simpa using e)
  exact ⟨d,by simpa using h1,h2⟩
theorem dvs_at:∀{vs:List V} {ds:List D} {i:Nat} {d:D},DVs G O H vs ds->ds[i]? = some d->∃x,vs[i]? = some x/\DV G O H x d
 |_,_,_,_,.nil,e=>by simp at e
 |_,_,0,_,.cons a _,e=>by simp at e; subst e; exact ⟨_,rfl,a⟩
 |_,_,i+1,d,.cons _ t,e=>by
  obtain ⟨x,h1,h2⟩:=dvs_at (i:=i) (d:=d) t (by simpa using e)
  exact ⟨x,by simpa using h1,h2⟩
theorem dvs_take:∀{vs:List V} {ds:List D} (n:Nat),DVs G O H vs ds->DVs G O H (vs.take n) (ds.take n)
 |_,_,0,_=>by simp only [List.take_zero]; exact .nil
 |_,_,_+1,.nil=>.nil
 |_,_,n+1,.cons a t=>.cons a (dvs_take n t)
theorem dvs_drop:∀{vs:List V} {ds:List D} (n:Nat),DVs G O H vs ds->DVs G O H (vs.drop n) (ds.drop n)
 |_,_,0,h=>h
 |_,_,_+1,.nil=>.nil
 |_,_,n+1,.cons _ t=>dvs_drop n t
noncomputable def flat:D->Bool
 | .non | .bl _ | .int _ | .str _=>true
 |_=>false
theorem DV.flat {O':Addr->Prop}{H':Hp}{d:D}(f:flat d=true)(h:DV G O H v d):DV G O' H' v d:=by
 cases h with
 |non=>exact .non
 |bl b=>exact .bl b
 |int i=>exact .int i
 |str x=>exact .str x
 |_=>cases f
end
inductive Sl where
  |un | fz (d:D) | ow (d:D) | io (d:D) | bw (d:D)
  |hd (w:Bool) (a:Addr) (d:D)
noncomputable abbrev Me:=List Sl
noncomputable abbrev Os:=Nat->Option Addr
noncomputable def Ow (O0:Addr->Prop)(ow:Os):Addr->Prop:=fun b=>O0 b\/∃i,ow i=some b
noncomputable def Op (O:Addr->Prop)(p:Addr):Addr->Prop:=fun b=>O b\/b=p
noncomputable def owS (ow:Os)(i:Nat)(x:Option Addr):Os:=fun j=>if j=i then x else ow j
theorem owS_at {ow:Os}{i:Nat}{x:Option Addr}:owS ow i x i=x:=by unfold owS; rw [if_pos rfl]
theorem owS_ne {ow:Os}{i j:Nat}{x:Option Addr}(h:j≠i):owS ow i x j=ow j:=by unfold owS; rw [if_neg h]
noncomputable def SlOk (G:Gx)(O M0:Addr->Prop)(H0:Hp)(oi:Option Addr)(v:Option (Option V))(H:Hp):Sl->Prop
 | .un=>oi=none
 | .fz d=>oi=none/\∃x,v=some (some x)/\DV G O H x d
 | .ow d=>∃a,oi=some a/\H0 a=none/\v=some (some (.ref a))/\OV G O H a d
 | .io d=>∃a,oi=some a/\M0 a/\v=some (some (.ref a))/\OV G O H a d
 | .bw d=>oi=none/\∃x,v=some (some x)/\DW G O H x d
 | .hd w a d=>oi=some a/\(w=true->H0 a=none)/\(w=false->M0 a)/\OV G O H a d
structure Rel (G:Gx)(O0 M0:Addr->Prop)(H0:Hp)(ow:Os)(σ:L2.St)(H:Hp)(m:Me):Prop where
 len:σ.length=m.length
 keep:Kp M0 H0 H
 m0:∀b,M0 b->H b≠none
 mutk:∀b,Ow O0 ow b->MutK (H b)
 no0:∀i a,ow i=some a->¬O0 a
 inj:∀i j a,ow i=some a->ow j=some a->i=j
 out:∀i,m.length<=i->ow i=none
 slot:∀i s,m[i]? = some s->SlOk G (Ow O0 ow) M0 H0 (ow i) (σ[i]?) H s
structure RelS (G:Gx)(O0 M0:Addr->Prop)(H0:Hp)(ow:Os)(σ:L2.St)(H:Hp)(m:Me):Prop extends Rel G O0 M0 H0 ow σ H m where
 nb:∀(j:Nat) (d:D),m[j]?≠some (Sl.bw d)
structure Go (O0:Addr->Prop)(ow:Os)(H:Hp)(ow':Os)(H':Hp):Prop where
 keep:Kp (Ow O0 ow) H H'
 new:∀i a,ow' i=some a->Ow O0 ow a\/H a=none
 dom:∀b,H b≠none->H' b≠none
theorem Go.refl {O0:Addr->Prop}{ow:Os}{H H':Hp}(g:Same H H'):Go O0 ow H ow H':=
 ⟨.of g,fun i a e=>.inl (.inr ⟨i,e⟩),fun b n z=>by
  cases q:H b with
  |none=>exact n q
  |some o=>rw [g b o q] at z; cases z⟩
theorem Go.trans {O0:Addr->Prop}{ow ow1 ow2:Os}{H H1 H2:Hp}(a:Go O0 ow H ow1 H1)(b:Go O0 ow1 H1 ow2 H2):Go O0 ow H ow2 H2 where
 keep:=fun c o e n=>b.keep c o (a.keep c o e n) fun z=>by
  rcases z with z | ⟨i,z⟩
  ·exact n (.inl z)
  ·rcases a.new i c z with y | y
   ·exact n y
   ·rw [y] at e; cases e
 new:=fun i c e=>by
  rcases b.new i c e with (z | ⟨j,z⟩) | z
  ·exact .inl (.inl z)
  ·exact a.new j c z
  ·refine .inr ?_
   cases q:H c with
   |none=>rfl
   |some o=>exact absurd z (a.dom c (by rw [q]; simp))
 dom:=fun c n=>b.dom c (a.dom c n)
theorem Go.ev {O0:Addr->Prop}{ow ow':Os}{H H':Hp}(g:Go O0 ow H ow' H'):Ev (Ow O0 ow) H (Ow O0 ow') H':=
 ⟨fun b z=>z.elim (fun z=>.inl (.inl z)) fun ⟨i,e⟩=>g.new i b e,g.keep⟩
theorem Ow_none (O:Addr->Prop):Ow O (fun _=>none)=O:=by
 funext b
 exact propext ⟨fun z=>z.elim id fun ⟨_,e⟩=>(by cases e),Or.inl⟩
section
variable {G:Gx}{O0 M0:Addr->Prop}{H0 H H':Hp}{ow:Os}{σ:L2.St}{m:Me}
theorem SlOk.mono {O:Addr->Prop}{oi:Option Addr}{v:Option (Option V)}{s:Sl}(g:Same H H')(h:SlOk G O M0 H0 oi v H s):SlOk G O M0 H0 oi v H' s:=by
 cases s with
 |un=>exact h
 |fz d=>obtain ⟨a,x,e,q⟩:=h; exact ⟨a,x,e,q.mono g⟩
 |ow d=>obtain ⟨a,x,e,f,q⟩:=h; exact ⟨a,x,e,f,q.mono g⟩
 |io d=>obtain ⟨a,x,e,f,q⟩:=h; exact ⟨a,x,e,f,q.mono g⟩
 |bw d=>obtain ⟨a,x,e,q⟩:=h; exact ⟨a,x,e,q.mono g⟩
 |hd w a d=>obtain ⟨x,e,f,q⟩:=h; exact ⟨x,e,f,q.mono g⟩
theorem mutk_mono {b:Addr}(g:Same H H')(h:MutK (H b)):MutK (H' b):=by
 rcases h with ⟨x,e⟩ | ⟨x,e⟩ | ⟨x,e⟩ | ⟨x,e⟩
 ·exact .inl ⟨x,g _ _ e⟩
 ·exact .inr (.inl ⟨x,g _ _ e⟩)
 ·exact .inr (.inr (.inl ⟨x,g _ _ e⟩))
 ·exact .inr (.inr (.inr ⟨x,g _ _ e⟩))
theorem Rel.mono (R:Rel G O0 M0 H0 ow σ H m)(g:Same H H'):Rel G O0 M0 H0 ow σ H' m:=
 ⟨R.len,fun b o e n=>g b o (R.keep b o e n),fun b z q=>R.m0 b z (Same.free g q),fun b z=>mutk_mono g (R.mutk b z),R.no0,R.inj,R.out,fun i s e=>(R.slot i s e).mono g⟩
theorem SlOk.anti {O O':Addr->Prop}{oi:Option Addr}{v:Option (Option V)}{s:Sl}(sub:∀b,O' b->O b\/H b=none)(h:SlOk G O M0 H0 oi v H s)(hb:∀d,s=.bw d->∀b,O b->O' b\/¬O' b):SlOk G O' M0 H0 oi v H s:=by
 cases s with
 |un=>exact h
 |fz d=>obtain ⟨a,x,e,q⟩:=h; exact ⟨a,x,e,q.anti sub⟩
 |ow d=>obtain ⟨a,x,e,f,q⟩:=h; exact ⟨a,x,e,f,q.anti sub⟩
 |io d=>obtain ⟨a,x,e,f,q⟩:=h; exact ⟨a,x,e,f,q.anti sub⟩
 |bw d=>
  obtain ⟨a,x,e,q⟩:=h
  refine ⟨a,x,e,?_⟩
  rcases q with q | ⟨b,e1,o,q⟩
  ·exact .inl (q.anti sub)
  ·rcases hb d rfl b o with w | w
   ·exact .inr ⟨b,e1,w,q.anti sub⟩
   ·subst e1
    exact .inl ((q.anti sub).dv w)
 |hd w a d=>obtain ⟨x,e,f,q⟩:=h; exact ⟨x,e,f,q.anti sub⟩
theorem Ow.sub {i:Nat}{b:Addr}(z:Ow O0 (owS ow i none) b):Ow O0 ow b:=by
 rcases z with z | ⟨j,e⟩
 ·exact .inl z
 ·by_cases q:j=i
  ·subst q; rw [owS_at] at e; cases e
  ·rw [owS_ne q] at e; exact .inr ⟨j,e⟩
theorem get_lt {α:Type}{l:List α}{i:Nat}{x:α}(e:l[i]? = some x):i<l.length:=(List.getElem?_eq_some_iff.mp e).1
theorem Rel.set {i:Nat}{v:V}{d:D}(R:Rel G O0 M0 H0 ow σ H m)(h:DV G (Ow O0 ow) H v d):
  Rel G O0 M0 H0 (owS ow i none) (σ.set i (some v)) H (m.set i (.fz d)):=by
 have sub:∀b,Ow O0 (owS ow i none) b->Ow O0 ow b\/H b=none:=fun b z=>.inl z.sub
 refine ⟨by simp [R.len],R.keep,R.m0,fun b z=>R.mutk b z.sub,fun j a e=>?_,fun j k a e1 e2=>?_,fun j hj=>?_,fun j s e=>?_⟩
 ·by_cases q:j=i
  ·subst q; rw [owS_at] at e; cases e
  ·rw [owS_ne q] at e; exact R.no0 j a e
 ·by_cases q:j=i
  ·subst q; rw [owS_at] at e1; cases e1
  ·by_cases q':k=i
   ·subst q'; rw [owS_at] at e2; cases e2
   ·rw [owS_ne q] at e1; rw [owS_ne q'] at e2; exact R.inj j k a e1 e2
 ·by_cases q:j=i
  ·subst q; exact owS_at
  ·rw [owS_ne q]; exact R.out j (by simpa using hj)
 ·by_cases q:j=i
  ·subst q
   have hj:j<m.length:=by simpa using get_lt e
   rw [List.getElem?_set_self hj] at e
   cases e
   rw [owS_at,List.getElem?_set_self (by rw [R.len]; exact hj)]
   exact ⟨rfl,v,rfl,h.anti sub⟩
  ·rw [List.getElem?_set_ne (Ne.symm q)] at e
   rw [owS_ne q,List.getElem?_set_ne (Ne.symm q)]
   exact (R.slot j s e).anti sub fun _ _ b _=>Classical.em _
theorem Go.set {i:Nat}:Go O0 ow H (owS ow i none) H:=
 ⟨fun _ _ e _=>e,fun j a e=>.inl (by
  by_cases q:j=i
  ·subst q; rw [owS_at] at e; cases e
  ·rw [owS_ne q] at e; exact .inr ⟨j,e⟩),fun _ n=>n⟩
theorem Rel.free0 (R:Rel G O0 M0 H0 ow σ H m){p:Addr}(n:H p=none):H0 p=none:=by
 cases q:H0 p with
 |none=>rfl
 |some o=>
  by_cases z:M0 p
  ·exact absurd n (R.m0 p z)
  ·rw [R.keep p o q z] at n; cases n
theorem Rel.noOw (R:Rel G O0 M0 H0 ow σ H m){p:Addr}(n:H p=none):¬Ow O0 ow p:=fun z=>by
 have:=R.mutk p z
 rw [n] at this
 rcases this with ⟨_,e⟩ | ⟨_,e⟩ | ⟨_,e⟩ | ⟨_,e⟩ <;> cases e
theorem Ow.new {i:Nat}{b p:Addr}(z:Ow O0 (owS ow i (some p)) b):Ow O0 ow b\/b=p:=by
 rcases z with z | ⟨j,e⟩
 ·exact .inl (.inl z)
 ·by_cases q:j=i
  ·subst q; rw [owS_at] at e; cases e; exact .inr rfl
  ·rw [owS_ne q] at e; exact .inl (.inr ⟨j,e⟩)
theorem Rel.own {i:Nat}{p:Addr}{d:D}(R:Rel G O0 M0 H0 ow σ H m)(g:Same H H')(n:H p=none)(n0:H0 p=none)(h:OV G (Op (Ow O0 ow) p) H' p d)(hi:i<m.length):
  Rel G O0 M0 H0 (owS ow i (some p)) (σ.set i (some (.ref p))) H' (m.set i (.ow d)):=by
 have np:=R.noOw n
 have sub:∀b,Ow O0 (owS ow i (some p)) b->Ow O0 ow b\/H b=none:=fun b z=>z.new.elim .inl fun e=>.inr (by rw [e]; exact n)
 refine ⟨by simp [R.len],(R.mono g).keep,(R.mono g).m0,fun b z=>?_,fun j a e=>?_,fun j k a e1 e2=>?_,fun j hj=>?_,fun j s e=>?_⟩
 ·rcases z.new with z | z
  ·exact (R.mono g).mutk b z
  ·rw [z]; exact h.mut
 ·by_cases q:j=i
  ·subst q; rw [owS_at] at e; cases e; exact fun z=>np (.inl z)
  ·rw [owS_ne q] at e; exact R.no0 j a e
 ·by_cases q:j=i
  ·subst q
   rw [owS_at] at e1
   cases e1
   by_cases q':k=j
   ·exact q'.symm
   ·rw [owS_ne q'] at e2; exact absurd (.inr ⟨k,e2⟩) np
  ·rw [owS_ne q] at e1
   by_cases q':k=i
   ·subst q'; rw [owS_at] at e2; cases e2; exact absurd (.inr ⟨j,e1⟩) np
   ·rw [owS_ne q'] at e2; exact R.inj j k a e1 e2
 ·have hj':m.length<=j:=by simpa using hj
  rw [owS_ne (by omega)]
  exact R.out j hj'
 ·by_cases q:j=i
  ·subst q
   rw [List.getElem?_set_self hi] at e
   cases e
   rw [owS_at,List.getElem?_set_self (by rw [R.len]; exact hi)]
   exact ⟨p,rfl,n0,rfl,h.anti fun b z=>.inl (z.new.elim .inl .inr)⟩
  ·rw [List.getElem?_set_ne (Ne.symm q)] at e
   rw [owS_ne q,List.getElem?_set_ne (Ne.symm q)]
   exact ((R.slot j s e).anti sub fun _ _ b _=>Classical.em _).mono g
theorem Go.own {i:Nat}{p:Addr}(g:Same H H')(n:H p=none):Go O0 ow H (owS ow i (some p)) H':=
 ⟨.of g,fun j a e=>by
  by_cases q:j=i
  ·subst q; rw [owS_at] at e; cases e; exact .inr n
  ·rw [owS_ne q] at e; exact .inl (.inr ⟨j,e⟩),(Go.refl (O0:=O0) (ow:=ow) g).dom⟩
theorem nb_set {i:Nat}{s:Sl}(nb:∀(j:Nat) (d:D),m[j]?≠some (Sl.bw d))(hs:∀d,s≠.bw d):∀(j:Nat) (d:D),(m.set i s)[j]?≠some (Sl.bw d):=fun j d e=>by
 by_cases q:j=i
 ·subst q
  have hj:j<m.length:=by simpa using get_lt e
  rw [List.getElem?_set_self hj] at e
  exact hs d (Option.some.inj e)
 ·rw [List.getElem?_set_ne (Ne.symm q)] at e
  exact nb j d e
theorem RelS.mono (R:RelS G O0 M0 H0 ow σ H m)(g:Same H H'):RelS G O0 M0 H0 ow σ H' m:=⟨R.toRel.mono g,R.nb⟩
theorem RelS.set {i:Nat}{v:V}{d:D}(R:RelS G O0 M0 H0 ow σ H m)(h:DV G (Ow O0 ow) H v d):RelS G O0 M0 H0 (owS ow i none) (σ.set i (some v)) H (m.set i (.fz d)):=
 ⟨R.toRel.set h,nb_set R.nb fun _ z=>by cases z⟩
theorem RelS.own {i:Nat}{p:Addr}{d:D}(R:RelS G O0 M0 H0 ow σ H m)(g:Same H H')(n:H p=none)(n0:H0 p=none)(h:OV G (Op (Ow O0 ow) p) H' p d)(hi:i<m.length):
  RelS G O0 M0 H0 (owS ow i (some p)) (σ.set i (some (.ref p))) H' (m.set i (.ow d)):=⟨R.toRel.own g n n0 h hi,nb_set R.nb fun _ z=>by cases z⟩
noncomputable def Sl.let:Sl->Sl
 | .ow d=>.fz d
 |s=>s
noncomputable def Me.let (m:Me):Me:=m.map Sl.let
theorem RelS.let (R:RelS G O0 M0 H0 ow σ H m):∃ow',RelS G O0 M0 H0 ow' σ H m.let/\Go O0 ow H ow' H:=by
 let ow':Os:=fun i=>match m[i]? with
  |some (.io _)=>ow i
  |some (.hd _ _ _)=>ow i
  |_=>none
 have le:∀i a,ow' i=some a->ow i=some a/\∀d,m[i]?≠some (.ow d):=fun i a e=>by
  simp only [ow'] at e
  split at e
  ·rename_i d q; exact ⟨e,fun d z=>by rw [q] at z; cases z⟩
  ·rename_i w b d q; exact ⟨e,fun d z=>by rw [q] at z; cases z⟩
  ·cases e
 have sub:∀b,Ow O0 ow' b->Ow O0 ow b\/H b=none:=fun b z=>.inl (z.elim .inl fun ⟨i,e⟩=>.inr ⟨i,(le i b e).1⟩)
 refine ⟨ow',⟨⟨by simp [Me.let,R.len],R.keep,R.m0,fun b z=>?_,fun i a e=>R.no0 i a (le i a e).1,fun i j a e1 e2=>R.inj i j a (le i a e1).1 (le j a e2).1,fun i hi=>?_,fun i s e=>?_⟩,fun j d e=>?_⟩,fun b o e n=>e,fun i a e=>.inl (.inr ⟨i,(le i a e).1⟩),fun _ n=>n⟩
 ·exact R.mutk b (z.elim .inl fun ⟨i,e⟩=>.inr ⟨i,(le i b e).1⟩)
 ·have hi':m.length<=i:=by simpa [Me.let] using hi
  simp only [ow']
  rw [List.getElem?_eq_none hi']
 ·unfold Me.let at e
  rw [List.getElem?_map] at e
  cases q:m[i]? with
  |none=>rw [q] at e; cases e
  |some s0=>
   rw [q] at e
   cases e
   have z:=R.slot i s0 q
   cases s0 with
   |un=>exact (show ow' i=none by simp only [ow',q])
   |fz d=>obtain ⟨_,x,e,h⟩:=z; exact ⟨(show ow' i=none by simp only [ow',q]),x,e,h.anti sub⟩
   |ow d=>
    obtain ⟨a,e1,e2,e3,h⟩:=z
    refine ⟨(show ow' i=none by simp only [ow',q]),.ref a,e3,(h.anti sub).dv fun w=>?_⟩
    rcases w with w | ⟨j,w⟩
    ·exact R.no0 i a e1 w
    ·obtain ⟨w1,w2⟩:=le j a w
     have:=R.inj i j a e1 w1
     subst this
     exact w2 d q
   |io d=>
    obtain ⟨a,e1,e2,e3,h⟩:=z
    exact ⟨a,(show ow' i=some a by simp only [ow',q]; exact e1),e2,e3,h.anti sub⟩
   |bw d=>exact (R.nb i d q).elim
   |hd w a d=>
    obtain ⟨e1,e2,e3,h⟩:=z
    exact ⟨(show ow' i=some a by simp only [ow',q]; exact e1),e2,e3,h.anti sub⟩
 ·unfold Me.let at e
  rw [List.getElem?_map] at e
  cases q:m[j]? with
  |none=>rw [q] at e; cases e
  |some s0=>
   rw [q] at e
   cases s0 with
   |bw d'=>exact R.nb j d' q
   |_=>cases e
end
open PySem PySem.Spec PyProof.Rows L2 Hd
noncomputable def Pu (G:Gx)(E:XK){α:Type}(r:Res α)(H:Hp)(k:α->Prop):Prop:=match r with
 | .ok a=>k a
 | .exc c=>∀C H',G.mg c=some (.ref C)->Same H H'->E (.ref C) none H'
 | .stuck=>False
theorem Pu.bind {G:Gx}{E:XK}{α β:Type}{r:Res α}{f:α->Res β}{H:Hp}{k:β->Prop}(h:Pu G E (r.bind f) H k):Pu G E r H fun a=>Pu G E (f a) H k:=by
 cases r with
 |ok a=>exact h
 |exc c=>exact h
 |stuck=>exact h
theorem Pu.imp {G:Gx}{E:XK}{α:Type}{r:Res α}{H H':Hp}{k k':α->Prop}(h:Pu G E r H k)(g:Same H H')(hk:∀a,k a->k' a):Pu G E r H' k':=by
 cases r with
 |ok a=>exact hk a h
 |exc c=>exact fun C H1 e g1=>h C H1 e (g.trans g1)
 |stuck=>exact h
theorem Pu.ofO {G:Gx}{E:XK}{α:Type}{r:Option α}{H:Hp}{k:α->Prop}(h:Pu G E (ofO r) H k):∃a,r=some a/\k a:=by
 cases r with
 |some a=>exact ⟨a,rfl,h⟩
 |none=>exact h.elim
noncomputable def tE (G:Gx)(E:XK)(f:Me->Res D):TE:=fun σ H Q=>∃O0 M0 H0 ow m,Rel G O0 M0 H0 ow σ H m/\Pu G E (f m) H fun d=>∀v H',Same H H'->DV G (Ow O0 ow) H' v d->Q v H'
noncomputable def tB (G:Gx)(E:XK)(f:Me->Res D):TE:=fun σ H Q=>∃O0 M0 H0 ow m,Rel G O0 M0 H0 ow σ H m/\Pu G E (f m) H fun d=>∀v H',Same H H'->DW G (Ow O0 ow) H' v d->Q v H'
noncomputable def tN (G:Gx)(E:XK)(f:Me->Res D):TE:=fun σ H Q=>∃O0 M0 H0 ow m,Rel G O0 M0 H0 ow σ H m/\Pu G E (f m) H fun d=>∀p H',Same H H'->H p=none->OV G (Op (Ow O0 ow) p) H' p d->Q (.ref p) H'
noncomputable def tT (G:Gx)(E:XK)(f:Me->Res Bool):TT:=fun σ H Q=>∃O0 M0 H0 ow m,Rel G O0 M0 H0 ow σ H m/\Pu G E (f m) H fun b=>∀H',Same H H'->Q b H'
noncomputable def tAE (G:Gx)(E:XK)(f:Me->Res (List D)):TA:=fun σ H Q=>∃O0 M0 H0 ow m,Rel G O0 M0 H0 ow σ H m/\Pu G E (f m) H fun ds=>∀vs H',Same H H'->DVs G (Ow O0 ow) H' vs ds->Q vs H'
noncomputable def tAB (G:Gx)(E:XK)(f:Me->Res (List D)):TA:=fun σ H Q=>∃O0 M0 H0 ow m,Rel G O0 M0 H0 ow σ H m/\Pu G E (f m) H fun ds=>∀vs H',Same H H'->DWs G (Ow O0 ow) H' vs ds->Q vs H'
noncomputable abbrev FE (X:Cx)(E:XK)(e:Expr)(f:Me->Res D):Prop:=PE X e (tE (gx X) E f)
noncomputable abbrev FB (X:Cx)(E:XK)(e:Expr)(f:Me->Res D):Prop:=PE X e (tB (gx X) E f)
noncomputable abbrev FN (X:Cx)(E:XK)(e:Expr)(f:Me->Res D):Prop:=PE X e (tN (gx X) E f)
noncomputable abbrev FT (X:Cx)(E:XK)(e:Expr)(f:Me->Res Bool):Prop:=PT X e (tT (gx X) E f)
noncomputable abbrev FW (X:Cx)(E:XK)(e:Expr)(f:Me->Res Bool):Prop:=PW X e (tT (gx X) E f)
noncomputable abbrev FAE (X:Cx)(E:XK)(es:List Expr)(f:Me->Res (List D)):Prop:=PA X es (tAE (gx X) E f)
noncomputable abbrev FAB (X:Cx)(E:XK)(es:List Expr)(f:Me->Res (List D)):Prop:=PA X es (tAB (gx X) E f)
theorem pt_weak {X:Cx}{e:Expr}{T T':TT}(h:PT X e T)(k:∀σ H Q,T' σ H Q->T σ H Q):PT X e T':=fun pins s σ H Q I q=>h pins s σ H Q I (k σ H Q q)
theorem pw_weak {X:Cx}{e:Expr}{T T':TT}(h:PW X e T)(k:∀σ H Q,T' σ H Q->T σ H Q):PW X e T':=fun wh pins s σ H Q I q=>h wh pins s σ H Q I (k σ H Q q)
theorem pa_weak {X:Cx}{es:List Expr}{T T':TA}(h:PA X es T)(k:∀σ H Q,T' σ H Q->T σ H Q):PA X es T':=fun pos pins s σ H Q I q=>h pos pins s σ H Q I (k σ H Q q)
section
variable {X:Cx}{E:XK}{e a b c:Expr}{es:List Expr}{f fa fb fc:Me->Res D}{fs:Me->Res (List D)}{ft fu:Me->Res Bool}{pos:Pos}
theorem fb_of (h:FE X E e f):FB X E e f:=pe_weak h fun _ _ _ hE=>xq5 hE fun O0 M0 H0 ow m R q=>⟨O0,M0,H0,ow,m,R,q.imp (Same.refl _) fun _ k v H' g d=>k v H' g (.inl d)⟩
theorem fe_new (h:FN X E e f):FE X E e f:=pe_weak h fun _ _ _ hE=>xq5 hE fun O0 M0 H0 ow m R q=>⟨O0,M0,H0,ow,m,R,q.imp (Same.refl _) fun _ k p H' g n o=>
 k _ H' g ((o.anti fun b z=>.inl (.inl z)).dv (R.noOw n))⟩
noncomputable def fVar (i:Nat):Me->Res D:=fun m=>match m[i]? with
 |some (.fz d)=>.ok d
 |_=>.stuck
noncomputable def fVarB (i:Nat):Me->Res D:=fun m=>match m[i]? with
 |some (.fz d)=>.ok d
 |some (.ow d)=>.ok d
 |some (.io d)=>.ok d
 |some (.bw d)=>.ok d
 |_=>.stuck
theorem fe_var (i:Nat){x:Str}(hN:X.N[i]? = some x:=by rfl)(hv:Vis X.env.scope x:=by first | exact Or.inl rfl | exact Or.inr (Or.inl rfl) | exact Or.inr (Or.inr rfl))(hd:(x == ("__debug__" : Str))=false:=by decide)
  (hcd:(x == ("__classdict__" : Str))=false:=by decide):FE X E (.Name x pos) (fVar i):=pe_weak (pe_var hN hv hd hcd) fun σ H Q hE=>xq5 hE fun O0 M0 H0 ow m R q=>by
 unfold fVar at q
 cases e:m[i]? with
 |none=>rw [e] at q; exact q.elim
 |some s=>
  rw [e] at q
  cases s with
  |fz d=>
   obtain ⟨_,x,h1,h2⟩:=R.slot i _ e
   exact ⟨x,h1,q x H (Same.refl _) h2⟩
  |_=>exact q.elim
theorem fb_var (i:Nat){x:Str}(hN:X.N[i]? = some x:=by rfl)(hv:Vis X.env.scope x:=by first | exact Or.inl rfl | exact Or.inr (Or.inl rfl) | exact Or.inr (Or.inr rfl))(hd:(x == ("__debug__" : Str))=false:=by decide)
  (hcd:(x == ("__classdict__" : Str))=false:=by decide):FB X E (.Name x pos) (fVarB i):=pe_weak (pe_var hN hv hd hcd) fun σ H Q hE=>xq5 hE fun O0 M0 H0 ow m R q=>by
 unfold fVarB at q
 cases e:m[i]? with
 |none=>rw [e] at q; exact q.elim
 |some s=>
  rw [e] at q
  cases s with
  |fz d=>
   obtain ⟨_,x,h1,h2⟩:=R.slot i _ e
   exact ⟨x,h1,q x H (Same.refl _) (.inl h2)⟩
  |bw d=>
   obtain ⟨_,x,h1,h2⟩:=R.slot i _ e
   exact ⟨x,h1,q x H (Same.refl _) h2⟩
  |ow d=>
   obtain ⟨a,h1,h2,h3,h4⟩:=R.slot i _ e
   exact ⟨_,h3,q _ H (Same.refl _) (.inr ⟨a,rfl,.inr ⟨i,h1⟩,h4⟩)⟩
  |io d=>
   obtain ⟨a,h1,h2,h3,h4⟩:=R.slot i _ e
   exact ⟨_,h3,q _ H (Same.refl _) (.inr ⟨a,rfl,.inr ⟨i,h1⟩,h4⟩)⟩
  |un=>exact q.elim
  |hd _ _ _=>exact q.elim
noncomputable def fC (d:D):Me->Res D:=fun _=>.ok d
theorem fe_c {d:D}{v:V}(h:PE X e (tC v))(hd:∀O H,DV (gx X) O H v d):FE X E e (fC d):=pe_weak h fun σ H Q hE=>xq5 hE fun O0 M0 H0 ow m R q=>q v H (Same.refl _) (hd _ _)
theorem fe_int {i j pos}:FE X E (.Constant (.int i) j pos) (fC (.int i)):=fe_c pe_int fun _ _=>.int i
theorem fe_bl {b j pos}:FE X E (.Constant (.bool b) j pos) (fC (.bl b)):=fe_c pe_bl fun _ _=>.bl b
theorem fe_non {j pos}:FE X E (.Constant .none j pos) (fC .non):=fe_c pe_non fun _ _=>.non
theorem fe_str {x j pos}:FE X E (.Constant (.str x) j pos) (fC (.str x)):=fe_c pe_str fun _ _=>.str x
theorem fe_glob {x:Str}{v:V}{u:Value}{d:D}(hg:Gl X x)(hm:X.mg x=some u)(r:RelV v u)(hd:∀O H,DV (gx X) O H v d)(hdb:(x == ("__debug__" : Str))=false:=by decide):FE X E (.Name x pos) (fC d):=fe_c (pe_glob hg hm r hdb) hd
noncomputable def rG (G:Gx)(g:D->D->Option D):R2:=fun x y H Q=>∃O d e r,(∀b,O b->MutK (H b))/\DW G O H x d/\DW G O H y e/\g d e=some r/\∀v H',Same H H'->DV G O H' v r->Q v H'
noncomputable def rGB (G:Gx)(g:D->D->Option Bool):R2:=fun x y H Q=>∃O d e r,(∀b,O b->MutK (H b))/\DW G O H x d/\DW G O H y e/\g d e=some r/\Q (.bl r) H
noncomputable def rG1 (G:Gx)(g:D->Option D):V->Hp->VK->Prop:=fun x H Q=>∃O d r,(∀b,O b->MutK (H b))/\DW G O H x d/\g d=some r/\∀v H',Same H H'->DV G O H' v r->Q v H'
noncomputable def rGC (G:Gx)(g:List D->Option D):List V->Hp->VK->Prop:=fun xs H Q=>∃O ds r,(∀b,O b->MutK (H b))/\DWs G O H xs ds/\g ds=some r/\∀v H',Same H H'->DV G O H' v r->Q v H'
noncomputable def rGCN (G:Gx)(g:List D->Option D):List V->Hp->VK->Prop:=fun xs H Q=>∃O ds r,(∀b,O b->MutK (H b))/\DWs G O H xs ds/\g ds=some r/\∀p H',Same H H'->H p=none->OV G (Op O p) H' p r->Q (.ref p) H'
noncomputable def fBin (g:D->D->Option D)(fa fb:Me->Res D):Me->Res D:=fun m=>(fa m).bind fun x=>(fb m).bind fun y=>ofO (g x y)
noncomputable def fCmp (g:D->D->Option Bool)(fa fb:Me->Res D):Me->Res D:=fun m=>(fa m).bind fun x=>(fb m).bind fun y=>ofO ((g x y).map D.bl)
noncomputable def fCmpT (g:D->D->Option Bool)(fa fb:Me->Res D):Me->Res Bool:=fun m=>(fa m).bind fun x=>(fb m).bind fun y=>ofO (g x y)
noncomputable def fUn (g:D->Option D)(fa:Me->Res D):Me->Res D:=fun m=>(fa m).bind fun x=>ofO (g x)
theorem two {G:Gx}{σ:L2.St}{H:Hp}{Q:VK}{r:R2}{O0 M0:Addr->Prop}{H0:Hp}{ow:Os}{m:Me}{β:Type}{g:D->D->Res β}{K:β->Hp->Prop}(R:Rel G O0 M0 H0 ow σ H m)(h:Pu G E ((fa m).bind fun x=>(fb m).bind fun y=>g x y) H fun z=>K z H)
  (hm:∀z H',K z H->Same H H'->K z H')
  (k:∀x y d e H',Same H H'->DW G (Ow O0 ow) H' x d->DW G (Ow O0 ow) H' y e->Pu G E (g d e) H' (fun z=>K z H')->Rel G O0 M0 H0 ow σ H' m->r x y H' Q):tOp r (tB G E fa) (tB G E fb) σ H Q:=by
 refine ⟨O0,M0,H0,ow,m,R,h.bind.imp (Same.refl _) fun d q x H1 g1 hx=>⟨O0,M0,H0,ow,m,R.mono g1,q.bind.imp g1 fun e q2 y H2 g2 hy=>?_⟩⟩
 exact k x y d e H2 (g1.trans g2) (hx.mono g2) hy (q2.imp (g1.trans g2) fun z kz=>hm z _ kz (g1.trans g2)) (R.mono (g1.trans g2))
theorem fe_bin {g:D->D->Option D}{op:Operator}(ho:OpR X (binaryOp op) (rG (gx X) g))(ha:FB X E a fa)(hb:FB X E b fb):FE X E (.BinOp a op b pos) (fBin g fa fb):=
 pe_weak (pe_op ho ha hb) fun σ H Q hE=>xq5 hE fun O0 M0 H0 ow m R q=>two R (K:=fun z H=>∀v H',Same H H'->DV (gx X) (Ow O0 ow) H' v z->Q v H') q (fun _ _ k g v H' g' d=>k v H' (g.trans g') d) fun x y d e H' g hx hy q' R'=>by
  obtain ⟨r,hr,k⟩:=q'.ofO
  exact ⟨_,d,e,r,R'.mutk,hx,hy,hr,k⟩
theorem fe_ix {g:D->D->Option D}(ho:IxR X (rG (gx X) g))(ha:FB X E a fa)(hb:FB X E b fb)(hs:PlainIx b):FE X E (.Subscript a b pos) (fBin g fa fb):=
 pe_weak (pe_ix ho ha hb hs) fun σ H Q hE=>xq5 hE fun O0 M0 H0 ow m R q=>two R (K:=fun z H=>∀v H',Same H H'->DV (gx X) (Ow O0 ow) H' v z->Q v H') q (fun _ _ k g v H' g' d=>k v H' (g.trans g') d) fun x y d e H' g hx hy q' R'=>by
  obtain ⟨r,hr,k⟩:=q'.ofO
  exact ⟨_,d,e,r,R'.mutk,hx,hy,hr,k⟩
theorem omap {α β:Type}{o:Option α}{f:α->β}{r:β}(h:o.map f=some r):∃a,o=some a/\f a=r:=by
 cases o with
 |none=>cases h
 |some a=>exact ⟨a,rfl,Option.some.inj h⟩
theorem fe_cmp {g:D->D->Option Bool}{op:CmpOp}(ho:OpR X (compareOp op) (rGB (gx X) g))(ha:FB X E a fa)(hb:FB X E b fb)(hm:behindInMarks op b=false):FE X E (.Compare a [op] [b] pos) (fCmp g fa fb):=
 pe_weak (pe_cmpR ho ha hb hm) fun σ H Q hE=>xq5 hE fun O0 M0 H0 ow m R q=>two R (K:=fun z H=>∀v H',Same H H'->DV (gx X) (Ow O0 ow) H' v z->Q v H') q (fun _ _ k g v H' g' d=>k v H' (g.trans g') d) fun x y d e H' g hx hy q' R'=>by
  obtain ⟨r,hr,k⟩:=q'.ofO
  obtain ⟨c,hc,rfl⟩:=omap hr
  exact ⟨_,d,e,c,R'.mutk,hx,hy,hc,k _ _ (Same.refl _) (.bl c)⟩
theorem ft_cmp {g:D->D->Option Bool}{op:CmpOp}(ho:OpR X (compareOp op) (rGB (gx X) g))(ha:FB X E a fa)(hb:FB X E b fb)(hm:behindInMarks op b=false):FT X E (.Compare a [op] [b] pos) (fCmpT g fa fb):=
 pt_weak (pt_cmpR ho ha hb hm) fun σ H Q hE=>xq5 hE fun O0 M0 H0 ow m R q=>two R (K:=fun z H=>∀H',Same H H'->Q z H') q (fun _ _ k g H' g'=>k H' (g.trans g')) fun x y d e H' g hx hy q' R'=>by
  obtain ⟨c,hc,k⟩:=q'.ofO
  exact ⟨_,d,e,c,R'.mutk,hx,hy,hc,c,rfl,k _ (Same.refl _)⟩
theorem fe_un {g:D->Option D}{op:UnaryOp}(ho:UnR X (unaryOp op) (rG1 (gx X) g))(ha:FB X E a fa):FE X E (.UnaryOp op a pos) (fUn g fa):=
 pe_weak (pe_un ho ha) fun σ H Q hE=>xq5 hE fun O0 M0 H0 ow m R q=>⟨O0,M0,H0,ow,m,R,q.bind.imp (Same.refl _) fun d q x H1 g1 hx=>by
  obtain ⟨r,hr,k⟩:=q.ofO
  exact ⟨_,d,r,(R.mono g1).mutk,hx,hr,fun v H' g d=>k v H' (g1.trans g) d⟩⟩
noncomputable def fTv (fa:Me->Res D):Me->Res Bool:=fun m=>(fa m).bind fun x=>match x with
 | .bl b=>.ok b
 |_=>.stuck
theorem ft_val (h:FE X E e f)(he:∀whole,isTrue e X.env whole=(do let v ← whole; standAt e.pos; holding [v] (truthy v)):=by intro _; rfl):FT X E e (fTv f):=
 pt_weak (pt_val h he) fun σ H Q hE=>xq5 hE fun O0 M0 H0 ow m R q=>⟨O0,M0,H0,ow,m,R,q.bind.imp (Same.refl _) fun d q v H' g hv=>by
  cases d with
  |bl b=>cases hv; exact ⟨b,rfl,q H' g⟩
  |_=>exact q.elim⟩
noncomputable def fNotT (ft:Me->Res Bool):Me->Res Bool:=fun m=>(ft m).bind fun c=>.ok (!c)
noncomputable def fAndT (ft fu:Me->Res Bool):Me->Res Bool:=fun m=>(ft m).bind fun c=>if c then fu m else .ok false
noncomputable def fOrT (ft fu:Me->Res Bool):Me->Res Bool:=fun m=>(ft m).bind fun c=>if c then .ok true else fu m
theorem ft_not (h:FT X E a ft):FT X E (.UnaryOp .Not a pos) (fNotT ft):=pt_weak (pt_not h) fun σ H Q hE=>xq5 hE fun O0 M0 H0 ow m R q=>⟨O0,M0,H0,ow,m,R,q.bind.imp (Same.refl _) fun b q H' g=>q H' g⟩
theorem fw_and1 (h:FT X E a ft):FW X E (.BoolOp .And [a] pos) ft:=pw_and1 h
theorem fw_or1 (h:FT X E a ft):FW X E (.BoolOp .Or [a] pos) ft:=pw_or1 h
theorem fw_and (ha:FT X E a ft)(hb:FW X E (.BoolOp .And (b::es) pos) fu):FW X E (.BoolOp .And (a::b::es) pos) (fAndT ft fu):=
 pw_weak (pw_and ha hb) fun σ H Q hE=>xq5 hE fun O0 M0 H0 ow m R q=>⟨O0,M0,H0,ow,m,R,q.bind.imp (Same.refl _) fun b q H' g=>by
  cases b with
  |true=>rw [if_pos rfl] at q ⊢; exact ⟨O0,M0,H0,ow,m,R.mono g,q.imp g fun _ k H1 g1=>k H1 (g.trans g1)⟩
  |false=>rw [if_neg Bool.false_ne_true] at q ⊢; exact q H' g⟩
theorem fw_or (ha:FT X E a ft)(hb:FW X E (.BoolOp .Or (b::es) pos) fu):FW X E (.BoolOp .Or (a::b::es) pos) (fOrT ft fu):=
 pw_weak (pw_or ha hb) fun σ H Q hE=>xq5 hE fun O0 M0 H0 ow m R q=>⟨O0,M0,H0,ow,m,R,q.bind.imp (Same.refl _) fun b q H' g=>by
  cases b with
  |false=>rw [if_neg Bool.false_ne_true] at q ⊢; exact ⟨O0,M0,H0,ow,m,R.mono g,q.imp g fun _ k H1 g1=>k H1 (g.trans g1)⟩
  |true=>rw [if_pos rfl] at q ⊢; exact q H' g⟩
theorem ft_w (h:FW X E e ft):FT X E e ft:=L2.PW.pt h
noncomputable def fAnd (fa fb:Me->Res D):Me->Res D:=fun m=>(fTv fa m).bind fun c=>if c then fb m else .ok (.bl false)
theorem ftv_pu {G:Gx}{O:Addr->Prop}{m:Me}{H:Hp}{k:Bool->Prop}(h:Pu G E (fTv fa m) H k):Pu G E (fa m) H fun d=>∃b,d=.bl b/\k b:=by
 refine h.bind.imp (Same.refl _) fun d q=>?_
 cases d with
 |bl b=>exact ⟨b,rfl,q⟩
 |_=>exact q.elim
theorem fe_one {op}(h:FE X E a fa):FE X E (.BoolOp op [a] pos) fa:=pe_one h
theorem fe_and (ha:FE X E a fa)(hb:FE X E (.BoolOp .And (b::es) pos) fb):FE X E (.BoolOp .And (a::b::es) pos) (fAnd fa fb):=
 pe_weak (pe_and ha hb) fun σ H Q hE=>xq5 hE fun O0 M0 H0 ow m R q=>⟨O0,M0,H0,ow,m,R,(ftv_pu (O:=O0) q.bind).imp (Same.refl _) fun d ⟨b,e,q⟩ v H' g hv=>by
  subst e
  cases hv
  refine ⟨b,rfl,?_⟩
  cases b with
  |true=>rw [if_pos rfl] at q ⊢; exact ⟨O0,M0,H0,ow,m,R.mono g,q.imp g fun _ k v H1 g1=>k v H1 (g.trans g1)⟩
  |false=>rw [if_neg Bool.false_ne_true] at q ⊢; exact q _ H' g (.bl false)⟩
noncomputable def fIf (ft:Me->Res Bool)(fa fb:Me->Res D):Me->Res D:=fun m=>(ft m).bind fun c=>if c then fa m else fb m
theorem fe_if (hc:FT X E c ft)(ha:FE X E a fa)(hb:FE X E b fb):FE X E (.IfExp c a b pos) (fIf ft fa fb):=
 pe_weak (pe_ifExp hc ha hb) fun σ H Q hE=>xq5 hE fun O0 M0 H0 ow m R q=>⟨O0,M0,H0,ow,m,R,q.bind.imp (Same.refl _) fun b q H' g=>by
  cases b with
  |false=>rw [if_neg Bool.false_ne_true] at q ⊢; exact ⟨O0,M0,H0,ow,m,R.mono g,q.imp g fun _ k v H1 g1=>k v H1 (g.trans g1)⟩
  |true=>rw [if_pos rfl] at q ⊢; exact ⟨O0,M0,H0,ow,m,R.mono g,q.imp g fun _ k v H1 g1=>k v H1 (g.trans g1)⟩⟩
noncomputable def fNil:Me->Res (List D):=fun _=>.ok []
noncomputable def fCons (fa:Me->Res D)(fs:Me->Res (List D)):Me->Res (List D):=fun m=>(fa m).bind fun x=>(fs m).bind fun xs=>.ok (x::xs)
theorem fae_nil:FAE X E [] fNil:=pa_weak pa_nil fun σ H Q hE=>xq5 hE fun O0 M0 H0 ow m R q=>q [] H (Same.refl _) .nil
theorem fab_nil:FAB X E [] fNil:=pa_weak pa_nil fun σ H Q hE=>xq5 hE fun O0 M0 H0 ow m R q=>q [] H (Same.refl _) .nil
theorem fae_cons (ha:FE X E e fa)(hr:FAE X E es fs)(hs:starEach (e::es) X.env=(false,eval e X.env)::starEach es X.env:=by rfl):FAE X E (e::es) (fCons fa fs):=
 pa_weak (pa_cons ha hr hs) fun σ H Q hE=>xq5 hE fun O0 M0 H0 ow m R q=>⟨O0,M0,H0,ow,m,R,q.bind.imp (Same.refl _) fun d q v H1 g1 hv=>⟨O0,M0,H0,ow,m,R.mono g1,q.bind.imp g1 fun ds q vs H2 g2 hvs=>q _ H2 (g1.trans g2) (.cons (hv.mono g2) hvs)⟩⟩
theorem fab_cons (ha:FB X E e fa)(hr:FAB X E es fs)(hs:starEach (e::es) X.env=(false,eval e X.env)::starEach es X.env:=by rfl):FAB X E (e::es) (fCons fa fs):=
 pa_weak (pa_cons ha hr hs) fun σ H Q hE=>xq5 hE fun O0 M0 H0 ow m R q=>⟨O0,M0,H0,ow,m,R,q.bind.imp (Same.refl _) fun d q v H1 g1 hv=>⟨O0,M0,H0,ow,m,R.mono g1,q.bind.imp g1 fun ds q vs H2 g2 hvs=>q _ H2 (g1.trans g2) (.cons (hv.mono g2) hvs)⟩⟩
noncomputable def fTup (fs:Me->Res (List D)):Me->Res D:=fun m=>(fs m).bind fun ds=>if ds.length<=sizeLine then .ok (.tup ds) else .stuck
noncomputable def fLst (fs:Me->Res (List D)):Me->Res D:=fun m=>(fs m).bind fun ds=>if ds.length<=sizeLine then .ok (.lst ds) else .stuck
theorem pu_if {G:Gx}{α:Type}{c:Prop}[Decidable c]{r:α}{H:Hp}{k:α->Prop}(h:Pu G E (if c then .ok r else .stuck) H k):c/\k r:=by
 by_cases z:c
 ·rw [if_pos z] at h; exact ⟨z,h⟩
 ·rw [if_neg z] at h; exact h.elim
theorem fe_tup {x1}(h:FAE X E es fs):FE X E (.Tuple es x1 pos) (fTup fs):=pe_weak (pe_tupG h) fun σ H Q hE=>xq5 hE fun O0 M0 H0 ow m R q=>⟨O0,M0,H0,ow,m,R,q.bind.imp (Same.refl _) fun ds q vs H1 g1 hv=>by
 obtain ⟨hz,k⟩:=pu_if q
 exact ⟨by rw [dvs_len hv]; exact hz,fun p H' g e=>k _ H' (g1.trans g) (.tup (SqU.of e) (hv.mono g))⟩⟩
theorem fn_lst (h:FAE X E es fs):FN X E (.List es pos) (fLst fs):=pe_weak (pe_lst (pa_cl h)) fun σ H Q hE=>xq5 hE fun O0 M0 H0 ow m R q=>⟨fun vs H1=>Same H H1/\∃ds,DVs (gx X) (Ow O0 ow) H1 vs ds/\ds.length<=sizeLine/\∀p H',Same H H'->H p=none->OV (gx X) (Op (Ow O0 ow) p) H' p (.lst ds)->Q (.ref p) H',⟨O0,M0,H0,ow,m,R,q.bind.imp (Same.refl _) fun ds q vs H1 g1 hv=>⟨g1,ds,hv,pu_if q⟩⟩,fun vs H1 ⟨g1,ds,hv,hz,k⟩=>
 ⟨by rw [dvs_len hv]; exact hz,fun p hp=>k p _ (g1.trans (same_new hp _)) (g1.free hp) ⟨vs,upd_same,(hv.anti fun b z=>z.elim .inl fun e=>.inr (by rw [e]; exact hp)).mono (same_new hp _)⟩⟩⟩
noncomputable def fCall (g:List D->Option D)(fs:Me->Res (List D)):Me->Res D:=fun m=>(fs m).bind fun ds=>ofO (g ds)
theorem call_go {g:List D->Option D}{σ:L2.St}{H:Hp}{Q:VK}(h:tE (gx X) E (fCall g fs) σ H Q):tCB (rGC (gx X) g) (tAB (gx X) E fs) σ H Q:=by
 obtain ⟨O0,M0,H0,ow,m,R,q⟩:=h
 refine ⟨O0,M0,H0,ow,m,R,q.bind.imp (Same.refl _) fun ds q vs H1 g1 hv=>?_⟩
 obtain ⟨r,hr,k⟩:=q.ofO
 exact ⟨_,ds,r,(R.mono g1).mutk,hv,hr,fun v H' g d=>k v H' (g1.trans g) d⟩
theorem call_goN {g:List D->Option D}{σ:L2.St}{H:Hp}{Q:VK}(h:tN (gx X) E (fCall g fs) σ H Q):tCB (rGCN (gx X) g) (tAB (gx X) E fs) σ H Q:=by
 obtain ⟨O0,M0,H0,ow,m,R,q⟩:=h
 refine ⟨O0,M0,H0,ow,m,R,q.bind.imp (Same.refl _) fun ds q vs H1 g1 hv=>?_⟩
 obtain ⟨r,hr,k⟩:=q.ofO
 exact ⟨_,ds,r,(R.mono g1).mutk,hv,hr,fun p H' g n d=>k p H' (g1.trans g) (g1.free n) d⟩
section
variable {x:Str}{p:Pos}{id T:String}{g:List D->Option D}
theorem fe_callB (hc:CallR X (.builtin id) (rGC (gx X) g))(hg:Gl X x)(hm:X.mg x=none)(hv:bootBuiltins x=some (.builtin id))(ha:FAB X E (e::es) fs)(hn:x≠"__name__":=by decide)(hdb:(x == ("__debug__" : Str))=false:=by decide)
  (he:starEach (e::es) X.env=(false,eval e X.env)::starEach es X.env:=by rfl) (hpl:(backTo pos (starEach es X.env)).any (·.1)=false:=by rfl):FE X E (.Call (.Name x p) (e::es) [] pos) (fCall g fs):=
 pe_weak (pe_callB hc hg hm hv ha hn hdb he hpl) fun _ _ _ h=>call_go h
theorem fn_callTy (hc:CallR X (.type T) (rGCN (gx X) g))(hg:Gl X x)(hm:X.mg x=none)(hv:bootBuiltins x=some (.type T))(ha:FAB X E (e::es) fs)(hn:x≠"__name__":=by decide)(hdb:(x == ("__debug__" : Str))=false:=by decide)
  (he:starEach (e::es) X.env=(false,eval e X.env)::starEach es X.env:=by rfl) (hpl:(backTo pos (starEach es X.env)).any (·.1)=false:=by rfl):FN X E (.Call (.Name x p) (e::es) [] pos) (fCall g fs):=
 pe_weak (pe_callTy hc hg hm hv ha hn hdb he hpl) fun _ _ _ h=>call_goN h
end
theorem pu_if' {G:Gx}{α:Type}{c:Prop}[Decidable c]{r:Res α}{H:Hp}{k:α->Prop}(h:Pu G E (if c then r else .stuck) H k):c/\Pu G E r H k:=by
 by_cases z:c
 ·rw [if_pos z] at h; exact ⟨z,h⟩
 ·rw [if_neg z] at h; exact h.elim
section
variable {o:Expr}{name:Str}{apos cpos:Pos}{T id:String}{g:D->List D->Option D}
end
end
open PySem PySem.Spec PyProof.Rows L2 Hd
inductive Fl where
 |nx | bk | ct | rt (fr:Bool) (d:D)
mutual
noncomputable def flat2:D->Bool
 | .non | .bl _ | .int _ | .str _=>true
 | .tup ds=>flat2s ds
 |_=>false
noncomputable def flat2s:List D->Bool
 |[]=>true
 |d::ds=>flat2 d && flat2s ds
end
section
variable {G:Gx}{O O':Addr->Prop}{H:Hp}
mutual
theorem DV.flat2:∀{v:V} {d:D},DV G O H v d->flat2 d=true->DV G O' H v d
 |_,_,.non,_=>.non
 |_,_,.bl b,_=>.bl b
 |_,_,.int i,_=>.int i
 |_,_,.str x,_=>.str x
 |_,_,.tup h hs,e=>.tup h (DVs.flat2 hs e)
 |_,_,.adr _,e=>by cases e
 |_,_,.exc _ _,e=>by cases e
 |_,_,.lst _ _,e=>by cases e
 |_,_,.dct _ _ _ _ _,e=>by cases e
 |_,_,.dcu _ _ _ _ _,e=>by cases e
 |_,_,.dcf _ _ _ _,e=>by cases e
 |_,_,.ins _ _ _ _ _ _,e=>by cases e
theorem DVs.flat2:∀{vs:List V} {ds:List D},DVs G O H vs ds->flat2s ds=true->DVs G O' H vs ds
 |_,_,.nil,_=>.nil
 |_,_,.cons h hs,e=>by
  have e:=Bool.and_eq_true_iff.mp e
  exact .cons (DV.flat2 h e.1) (DVs.flat2 hs e.2)
end
end
inductive TupI (G:Gx)(H0 H':Hp):List Addr->List V->List D->Prop where
 |nil:TupI G H0 H' [] [] []
 |flat {v:V} {d:D} {vs:List V} {ds:List D} {qs:List Addr}:DV G (fun _=>False) H' v d->flat2 d=true->TupI G H0 H' qs vs ds->TupI G H0 H' qs (v::vs) (d::ds)
 |new {q:Addr} {xs:List V} {es:List D} {vs:List V} {ds:List D} {qs:List Addr}:H0 q=none->H' q=some (.lst xs)->DVs G (fun _=>False) H' xs es->flat2s es=true->q∉qs->TupI G H0 H' qs vs ds->TupI G H0 H' (q::qs) (.ref q::vs) (.lst es::ds)
noncomputable def Fr (G:Gx)(O:Addr->Prop)(H0:Hp)(v:V)(H':Hp)(d:D):Prop:=(∃p,v=.ref p/\H0 p=none/\OV G (Op O p) H' p d)\/∃p xs ds qs,d=.tup ds/\v=.ref p/\SqU G.K H' p xs/\TupI G H0 H' qs xs ds
noncomputable def isTup:D->Bool
 | .tup _=>true
 |_=>false
theorem Fr.lst {G:Gx}{O:Addr->Prop}{H0 H':Hp}{v:V}{d:D}(h:Fr G O H0 v H' d)(ht:isTup d=false):∃p,v=.ref p/\H0 p=none/\OV G (Op O p) H' p d:=by
 rcases h with h | ⟨p,xs,ds,qs,e,_⟩
 ·exact h
 ·rw [e] at ht; cases ht
noncomputable def Ss (G:Gx)(E:XK)(O0 M0:Addr->Prop)(H0:Hp)(ow:Os)(H:Hp)(W:Ends)(r:Res (Fl×Me)):Prop:=match r with
 | .ok (.nx,m')=>∀ow' σ' H',RelS G O0 M0 H0 ow' σ' H' m'->Go O0 ow H ow' H'->W.nx σ' H'
 | .ok (.bk,m')=>∀ow' σ' H',RelS G O0 M0 H0 ow' σ' H' m'->Go O0 ow H ow' H'->W.bk σ' H'
 | .ok (.ct,m')=>∀ow' σ' H',RelS G O0 M0 H0 ow' σ' H' m'->Go O0 ow H ow' H'->W.ct σ' H'
 | .ok (.rt fr d,m')=>∀v ow' σ' H',RelS G O0 M0 H0 ow' σ' H' m'->Go O0 ow H ow' H'->DV G (Ow O0 ow') H' v d->(fr=true->Fr G (Ow O0 ow') H0 v H' d)->W.rt v H'
 | .exc c=>∀C H',G.mg c=some (.ref C)->Kp M0 H0 H'->E (.ref C) none H'
 | .stuck=>False
noncomputable def tS (G:Gx)(E:XK)(g:Me->Res (Fl×Me)):TS:=fun W σ H=>∃O0 M0 H0 ow m,RelS G O0 M0 H0 ow σ H m/\Ss G E O0 M0 H0 ow H W (g m)
noncomputable abbrev FS (X:Cx)(E:XK)(st:Stmt)(g:Me->Res (Fl×Me)):Prop:=PS X st (tS (gx X) E g)
noncomputable abbrev FSs (X:Cx)(E:XK)(st:List Stmt)(g:Me->Res (Fl×Me)):Prop:=PSs X st (tS (gx X) E g)
theorem ps_weak {X:Cx}{st:Stmt}{T T':TS}(h:PS X st T)(k:∀W σ H,T' W σ H->T W σ H):PS X st T':=fun pins s σ H W I q=>h pins s σ H W I (k W σ H q)
theorem pss_weak {X:Cx}{st:List Stmt}{T T':TS}(h:PSs X st T)(k:∀W σ H,T' W σ H->T W σ H):PSs X st T':=fun pins s σ H W I q=>h pins s σ H W I (k W σ H q)
section
variable {G:Gx}{E:XK}{O0 M0:Addr->Prop}{H0 H H':Hp}{ow ow':Os}{σ:L2.St}{m:Me}{W:Ends}{r:Res (Fl×Me)}
theorem Ss.pu {α:Type}{x:Res α}{k:α->Res (Fl×Me)}(R:Rel G O0 M0 H0 ow σ H m)(h:Ss G E O0 M0 H0 ow H W (x.bind k)):Pu G E x H fun a=>Ss G E O0 M0 H0 ow H W (k a):=by
 cases x with
 |ok a=>exact h
 |exc c=>exact fun C H' e g=>h C H' e fun b o e n=>g b o (R.keep b o e n)
 |stuck=>exact h
theorem Ss.go (h:Ss G E O0 M0 H0 ow H W r)(g:Go O0 ow H ow' H'):Ss G E O0 M0 H0 ow' H' W r:=by
 cases r with
 |ok a=>
  obtain ⟨f,m'⟩:=a
  cases f with
  |nx=>exact fun ow1 σ1 H1 R g1=>h ow1 σ1 H1 R (g.trans g1)
  |bk=>exact fun ow1 σ1 H1 R g1=>h ow1 σ1 H1 R (g.trans g1)
  |ct=>exact fun ow1 σ1 H1 R g1=>h ow1 σ1 H1 R (g.trans g1)
  |rt fr d=>exact fun v ow1 σ1 H1 R g1=>h v ow1 σ1 H1 R (g.trans g1)
 |exc c=>exact h
 |stuck=>exact h
theorem Ss.ofO {α:Type}{x:Option α}{k:α->Res (Fl×Me)}(h:Ss G E O0 M0 H0 ow H W ((ofO x).bind k)):∃a,x=some a/\Ss G E O0 M0 H0 ow H W (k a):=by
 cases x with
 |some a=>exact ⟨a,rfl,h⟩
 |none=>exact h.elim
end
noncomputable def gNx:Me->Res (Fl×Me):=fun m=>.ok (.nx,m)
noncomputable def gSeq (g k:Me->Res (Fl×Me)):Me->Res (Fl×Me):=fun m=>match g m with
 | .ok (.nx,m')=>k m'
 |r=>r
noncomputable def gSet (i:Nat)(f:Me->Res D):Me->Res (Fl×Me):=fun m=>(f m).bind fun d=>.ok (.nx,m.set i (.fz d))
noncomputable def gOwn (i:Nat)(f:Me->Res D):Me->Res (Fl×Me):=fun m=>(f m).bind fun d=>if i<m.length then .ok (.nx,m.set i (.ow d)) else .stuck
noncomputable def gEx (f:Me->Res D):Me->Res (Fl×Me):=fun m=>(f m).bind fun _=>.ok (.nx,m)
noncomputable def gRet (f:Me->Res D):Me->Res (Fl×Me):=fun m=>(f m.let).bind fun d=>.ok (.rt false d,m.let)
noncomputable def gRetN (f:Me->Res D):Me->Res (Fl×Me):=fun m=>(f m.let).bind fun d=>.ok (.rt true d,m.let)
noncomputable def gRetV (i:Nat):Me->Res (Fl×Me):=fun m=>match m[i]? with
 |some (.ow d)=>.ok (.rt true d,m.let)
 |some (.fz d)=>.ok (.rt false d,m.let)
 |_=>.stuck
noncomputable def gIf (t:Me->Res Bool)(g k:Me->Res (Fl×Me)):Me->Res (Fl×Me):=fun m=>(t m).bind fun c=>if c then g m else k m
noncomputable def gLet (i:Nat)(k:Me->Res (Fl×Me)):Me->Res (Fl×Me):=fun m=>match m[i]? with
 |some (.ow d)=>k (m.set i (.fz d))
 |_=>k m
section
variable {X:Cx}{E:XK}{e c:Expr}{es:List Expr}{st:Stmt}{rest sa sb:List Stmt}{f:Me->Res D}{ft:Me->Res Bool}{g k ga gb:Me->Res (Fl×Me)}{pos pos':Pos}{i:Nat}{x:Str}
theorem fss_nil:FSs X E [] gNx:=pss_weak pss_nil fun W σ H hE=>xq5 hE fun O0 M0 H0 ow m R q=>q ow σ H R (Go.refl (Same.refl _))
theorem seq_go {G:Gx}{W:Ends}{σ:L2.St}{H:Hp}(h:tS G E (gSeq g k) W σ H):tSeq (tS G E g) (tS G E k) W σ H:=by
 obtain ⟨O0,M0,H0,ow,m,R,q⟩:=h
 refine ⟨O0,M0,H0,ow,m,R,?_⟩
 unfold gSeq at q
 cases z:g m with
 |ok a=>
  obtain ⟨f,m'⟩:=a
  rw [z] at q
  cases f with
  |nx=>exact fun ow' σ' H' R' g'=>⟨O0,M0,H0,ow',m',R',Ss.go q g'⟩
  |bk=>exact q
  |ct=>exact q
  |rt fr d=>exact q
 |exc c=>rw [z] at q; exact q
 |stuck=>rw [z] at q; exact q
theorem fss_cons (h1:FS X E st g)(h2:FSs X E rest k):FSs X E (st::rest) (gSeq g k):=pss_weak (pss_cons h1 h2) fun W σ H h=>seq_go h
theorem fss_one (h1:FS X E st g):FSs X E [st] g:=pss_one h1
theorem fss_let (i:Nat)(h:FSs X E rest k):FSs X E rest (gLet i k):=pss_weak h fun W σ H hE=>xq5 hE fun O0 M0 H0 ow m R q=>by
 unfold gLet at q
 cases z:m[i]? with
 |none=>rw [z] at q; exact ⟨O0,M0,H0,ow,m,R,q⟩
 |some s=>
  rw [z] at q
  cases s with
  |ow d=>
   obtain ⟨a,h1,h2,h3,h4⟩:=R.slot i _ z
   have na:¬Ow O0 (owS ow i none) a:=fun w=>by
    rcases w with w | ⟨j,w⟩
    ·exact R.no0 i a h1 w
    ·by_cases e:j=i
     ·subst e; rw [owS_at] at w; cases w
     ·rw [owS_ne e] at w; exact e (R.inj j i a w h1)
   have sub:∀b,Ow O0 (owS ow i none) b->Ow O0 ow b\/H b=none:=fun b z=>.inl z.sub
   have hi:=get_lt z
   have R2:RelS (gx X) O0 M0 H0 (owS ow i none) σ H (m.set i (.fz d)):=by
    refine ⟨⟨by simp [R.len],R.keep,R.m0,fun b z=>R.mutk b z.sub,fun j b e=>?_,fun j k b e1 e2=>?_,fun j hj=>?_,fun j s e=>?_⟩,nb_set R.nb fun _ z=>by cases z⟩
    ·by_cases q:j=i
     ·subst q; rw [owS_at] at e; cases e
     ·rw [owS_ne q] at e; exact R.no0 j b e
    ·by_cases q:j=i
     ·subst q; rw [owS_at] at e1; cases e1
     ·by_cases q':k=i
      ·subst q'; rw [owS_at] at e2; cases e2
      ·rw [owS_ne q] at e1; rw [owS_ne q'] at e2; exact R.inj j k b e1 e2
    ·by_cases q:j=i
     ·subst q; exact owS_at
     ·rw [owS_ne q]; exact R.out j (by simpa using hj)
    ·by_cases q:j=i
     ·subst q
      rw [List.getElem?_set_self hi] at e
      cases e
      rw [owS_at]
      exact ⟨rfl,.ref a,h3,(h4.anti sub).dv na⟩
     ·rw [List.getElem?_set_ne (Ne.symm q)] at e
      rw [owS_ne q]
      exact (R.slot j s e).anti sub fun _ _ b _=>Classical.em _
   exact ⟨O0,M0,H0,_,_,R2,Ss.go q Go.set⟩
  |_=>exact ⟨O0,M0,H0,ow,m,R,q⟩
theorem set_go {G:Gx}{W:Ends}{σ:L2.St}{H:Hp}(h:tS G E (gSet i f) W σ H):tAsg (tE G E f) (gName i) W σ H:=by
 obtain ⟨O0,M0,H0,ow,m,R,q⟩:=h
 refine ⟨O0,M0,H0,ow,m,R.toRel,(Ss.pu R.toRel q).imp (Same.refl _) fun d q v H' g' hv=>?_⟩
 exact q _ _ _ ((R.mono g').set hv) ((Go.refl g').trans Go.set)
theorem own_go {G:Gx}{W:Ends}{σ:L2.St}{H:Hp}(h:tS G E (gOwn i f) W σ H):tAsg (tN G E f) (gName i) W σ H:=by
 obtain ⟨O0,M0,H0,ow,m,R,q⟩:=h
 refine ⟨O0,M0,H0,ow,m,R.toRel,(Ss.pu R.toRel q).imp (Same.refl _) fun d q p H' g' n hv=>?_⟩
 by_cases hi:i<m.length
 ·rw [if_pos hi] at q
  exact q _ _ _ (R.own g' n (R.toRel.free0 n) hv hi) (Go.own g' n)
 ·rw [if_neg hi] at q
  exact q.elim
theorem fs_set (hN:X.N.Nodup)(hi:X.N[i]? = some x)(hx:Loc X.env.scope x)(he:FE X E e f)(hs:swapsWith e (some (.Name x pos')) pos.line X.env=pure false:=by rfl)
  (hf:X.fn x=true\/X.env.scope.names.lookup x=some .local:=by first | exact .inl rfl | exact .inr rfl | assumption):FS X E (.Assign [.Name x pos'] e pos) (gSet i f):=ps_weak (ps_set hN hi hx he hs hf) fun _ _ _ h=>set_go h
theorem fs_own (hN:X.N.Nodup)(hi:X.N[i]? = some x)(hx:Loc X.env.scope x)(he:FN X E e f)(hs:swapsWith e (some (.Name x pos')) pos.line X.env=pure false:=by rfl)
  (hf:X.fn x=true\/X.env.scope.names.lookup x=some .local:=by first | exact .inl rfl | exact .inr rfl | assumption):FS X E (.Assign [.Name x pos'] e pos) (gOwn i f):=ps_weak (ps_set hN hi hx he hs hf) fun _ _ _ h=>own_go h
theorem fs_expr (he:FE X E e f)(hs:swapsWith e none pos.line X.env=pure false:=by rfl):FS X E (.Expr e pos) (gEx f):=ps_weak (ps_expr he hs) fun W σ H hE=>xq5 hE fun O0 M0 H0 ow m R q=>
 ⟨O0,M0,H0,ow,m,R.toRel,(Ss.pu R.toRel q).imp (Same.refl _) fun d q v H' g' hv=>q _ _ _ (R.mono g') (Go.refl g')⟩
theorem fs_ret (he:FE X E e f):FS X E (.Return (some e) pos) (gRet f):=ps_weak (ps_ret he) fun W σ H hE=>xq5 hE fun O0 M0 H0 ow m R q=>by
 obtain ⟨ow',R',g1⟩:=R.let
 exact ⟨O0,M0,H0,ow',m.let,R'.toRel,(Ss.pu R'.toRel (Ss.go q g1)).imp (Same.refl _) fun d q v H' g' hv=>q v ow' σ H' (R'.mono g') (Go.refl g') hv (fun z=>by cases z)⟩
theorem fs_retN (he:FN X E e f):FS X E (.Return (some e) pos) (gRetN f):=ps_weak (ps_ret he) fun W σ H hE=>xq5 hE fun O0 M0 H0 ow m R q=>by
 obtain ⟨ow',R',g1⟩:=R.let
 exact ⟨O0,M0,H0,ow',m.let,R'.toRel,(Ss.pu R'.toRel (Ss.go q g1)).imp (Same.refl _) fun d q p H' g' n hv=>
  q _ ow' σ H' (R'.mono g') (Go.refl g') ((hv.anti fun b z=>.inl (.inl z)).dv (R'.toRel.noOw n)) fun _=>.inl ⟨p,rfl,R'.toRel.free0 n,hv⟩⟩
theorem fs_retV (i:Nat)(hN:X.N[i]? = some x:=by rfl)(hv:Vis X.env.scope x:=by first | exact Or.inl rfl | exact Or.inr (Or.inl rfl) | exact Or.inr (Or.inr rfl))(hd:(x == ("__debug__" : Str))=false:=by decide)
  (hcd:(x == ("__classdict__" : Str))=false:=by decide):FS X E (.Return (some (.Name x pos')) pos) (gRetV i):=ps_weak (ps_ret (pe_var hN hv hd hcd)) fun W σ H hE=>xq5 hE fun O0 M0 H0 ow m R q=>by
 obtain ⟨ow',R',g1⟩:=R.let
 unfold gRetV at q
 cases z:m[i]? with
 |none=>rw [z] at q; exact q.elim
 |some s=>
  rw [z] at q
  have zl:m.let[i]? = some s.let:=by unfold Me.let; rw [List.getElem?_map,z]; rfl
  cases s with
  |fz d=>
   obtain ⟨_,v,e,hv⟩:=R'.slot i _ zl
   exact ⟨v,e,q v ow' σ H R' g1 hv fun z=>by cases z⟩
  |ow d=>
   obtain ⟨_,v,e,hv⟩:=R'.slot i _ zl
   obtain ⟨a,h1,h2,h3,h4⟩:=R.slot i _ z
   rw [h3] at e
   cases e
   refine ⟨_,h3,q _ ow' σ H R' g1 hv fun _=>.inl ⟨a,rfl,h2,h4.anti fun b w=>.inl ?_⟩⟩
   rcases w with w | w
   ·rcases w with w | ⟨j,w⟩
    ·exact .inl w
    ·rcases g1.new j b w with w' | w'
     ·exact w'
     ·have:=R'.mutk b (.inr ⟨j,w⟩)
      rw [w'] at this
      rcases this with ⟨_,e⟩ | ⟨_,e⟩ | ⟨_,e⟩ | ⟨_,e⟩ <;> cases e
   ·rw [w]; exact .inr ⟨i,h1⟩
  |_=>exact q.elim
theorem fs_if (hc:FT X E c ft)(ha:FSs X E sa ga)(hb:FSs X E sb gb):FS X E (.If c sa sb pos) (gIf ft ga gb):=ps_weak (ps_if hc ha hb) fun W σ H hE=>xq5 hE fun O0 M0 H0 ow m R q=>
 ⟨O0,M0,H0,ow,m,R.toRel,(Ss.pu R.toRel q).imp (Same.refl _) fun b q H' g'=>by
  cases b with
  |true=>rw [if_pos rfl] at q ⊢; exact ⟨O0,M0,H0,ow,m,R.mono g',Ss.go q (Go.refl g')⟩
  |false=>rw [if_neg Bool.false_ne_true] at q ⊢; exact ⟨O0,M0,H0,ow,m,R.mono g',Ss.go q (Go.refl g')⟩⟩
noncomputable def wh (t:Me->Res Bool)(b:Me->Res (Fl×Me)):Nat->Me->Option (Res (Fl×Me))
 |0,_=>none
 |n+1,m=>match t m with
  | .ok true=>match b m with
   | .ok (.nx,m')=>wh t b n m'
   | .ok (.ct,m')=>wh t b n m'
   | .ok (.bk,m')=>some (.ok (.nx,m'))
   | .ok (.rt fr d,m')=>some (.ok (.rt fr d,m'))
   | .exc c=>some (.exc c)
   | .stuck=>some .stuck
  | .ok false=>some (.ok (.nx,m))
  | .exc c=>some (.exc c)
  | .stuck=>some .stuck
theorem wh_more {t:Me->Res Bool}{b:Me->Res (Fl×Me)}:∀{n:Nat} {m:Me} {r:Res (Fl×Me)},wh t b n m=some r->wh t b (n+1) m=some r
 |0,_,_,h=>by cases h
 |n+1,m,r,h=>by
  have ih:=@wh_more t b n
  unfold wh at h ⊢
  split
  ·rename_i e
   rw [e] at h
   split
   ·rename_i m' e2; rw [e2] at h; exact ih h
   ·rename_i m' e2; rw [e2] at h; exact ih h
   ·rename_i m' e2; rw [e2] at h; exact h
   ·rename_i fr d m' e2; rw [e2] at h; exact h
   ·rename_i c e2; rw [e2] at h; exact h
   ·rename_i e2; rw [e2] at h; exact h
  ·rename_i e; rw [e] at h; exact h
  ·rename_i e; rw [e] at h; exact h
  ·rename_i e; rw [e] at h; exact h
theorem wh_add {t:Me->Res Bool}{b:Me->Res (Fl×Me)}{n:Nat}{m:Me}{r:Res (Fl×Me)}(h:wh t b n m=some r):∀k,wh t b (n+k) m=some r
 |0=>h
 |k+1=>wh_more (wh_add h k)
open Classical in
noncomputable def gWhile (t:Me->Res Bool)(b:Me->Res (Fl×Me)):Me->Res (Fl×Me):=fun m=>
 if h:∃n r,wh t b n m=some r then Classical.choose (Classical.choose_spec h) else .stuck
theorem gWhile_ex {t:Me->Res Bool}{b:Me->Res (Fl×Me)}{m:Me}(h:gWhile t b m≠.stuck):∃n,wh t b n m=some (gWhile t b m):=by
 unfold gWhile at h ⊢
 split at h
 ·rename_i q
  rw [dif_pos q]
  exact ⟨_,Classical.choose_spec (Classical.choose_spec q)⟩
 ·exact absurd rfl h
theorem gWhile_eq {t:Me->Res Bool}{b:Me->Res (Fl×Me)}{m:Me}{r:Res (Fl×Me)}(n:Nat)(h:wh t b n m=some r):gWhile t b m=r:=by
 unfold gWhile
 have q:∃n r,wh t b n m=some r:=⟨n,r,h⟩
 rw [dif_pos q]
 have z:=Classical.choose_spec (Classical.choose_spec q)
 have a:=wh_add z n
 have b':=wh_add h (Classical.choose q)
 rw [Nat.add_comm] at b'
 rw [a] at b'
 exact Option.some.inj b'
theorem fs_while {body:List Stmt}(hp:PassesOwn (model X.prog X.w) X.A X.env X.xe)(hc:FT X E c ft)(hb:FSs X E body g):FS X E (.While c body [] pos) (gWhile ft g):=ps_weak (ps_while hp hc hb) fun W σ H hE=>xq5 hE fun O0 M0 H0 ow m R q=>by
 obtain ⟨n,hn⟩:=gWhile_ex (t:=ft) (b:=g) (m:=m) (fun z=>by rw [z] at q; exact q)
 generalize gWhile ft g m=r at *
 refine ⟨fun n σ' H'=>∃ow' m',RelS (gx X) O0 M0 H0 ow' σ' H' m'/\Go O0 ow H ow' H'/\wh ft g n m'=some r,⟨n,ow,m,R,Go.refl (Same.refl _),hn⟩,?_⟩
 rintro n σ1 H1 ⟨ow1,m1,R1,g1,h1⟩
 cases n with
 |zero=>cases h1
 |succ n=>
  refine ⟨O0,M0,H0,ow1,m1,R1.toRel,?_⟩
  unfold wh at h1
  cases e:ft m1 with
  |exc c=>
   rw [e] at h1
   cases h1
   exact fun C H' e g'=>q C H' e fun b o e n=>g' b o (R1.keep b o e n)
  |stuck=>rw [e] at h1; cases h1; exact q.elim
  |ok t=>
   rw [e] at h1
   intro H2 g2
   have R2:=R1.mono g2
   have G2:=g1.trans (Go.refl g2)
   cases t with
   |false=>
    cases h1
    rw [if_neg Bool.false_ne_true]
    exact q _ _ _ R2 G2
   |true=>
    rw [if_pos rfl]
    have h1:(match g m1 with
     | .ok (.nx,m')=>wh ft g n m'
     | .ok (.ct,m')=>wh ft g n m'
     | .ok (.bk,m')=>some (.ok (.nx,m'))
     | .ok (.rt fr d,m')=>some (.ok (.rt fr d,m'))
     | .exc c=>some (.exc c)
     | .stuck=>some .stuck)=some r:=h1
    refine ⟨fun σ' H'=>∃ow' m',RelS (gx X) O0 M0 H0 ow' σ' H' m'/\Go O0 ow H ow' H'/\wh ft g n m'=some r,fun σ' H' z=>⟨n,Nat.lt_succ_self _,z⟩,O0,M0,H0,ow1,m1,R2,?_⟩
    cases e2:g m1 with
    |exc c=>rw [e2] at h1; cases h1; exact q
    |stuck=>rw [e2] at h1; cases h1; exact q
    |ok a=>
     obtain ⟨f2,m2⟩:=a
     rw [e2] at h1
     cases f2 with
     |nx=>exact fun ow' σ' H' R' g'=>⟨ow',m2,R',G2.trans g',h1⟩
     |ct=>exact fun ow' σ' H' R' g'=>⟨ow',m2,R',G2.trans g',h1⟩
     |bk=>cases h1; exact fun ow' σ' H' R' g'=>q ow' σ' H' R' (G2.trans g')
     |rt fr d=>cases h1; exact fun v ow' σ' H' R' g'=>q v ow' σ' H' R' (G2.trans g')
end
open PySem PySem.Spec PyProof.Rows L2 Hd
noncomputable def NbP (m m':Me):Prop:=(∀(j:Nat) (d:D),m[j]?≠some (Sl.bw d))->∀(j:Nat) (d:D),m'[j]?≠some (Sl.bw d)
noncomputable def tG (G:Gx)(k:Nat)(h:D->Me->Option Me):TG:=fun v σ H Q=>∃O0 M0 H0 ow m d m',Rel G O0 M0 H0 ow σ H m/\DV G (Ow O0 ow) H v d/\h d m=some m'/\
 ∀ow' σ',Rel G O0 M0 H0 ow' σ' H m'->Go O0 ow H ow' H->NbP m m'->σ'.drop k=σ.drop k->Q σ' H
noncomputable def tGs (G:Gx)(k:Nat)(h:List D->Me->Option Me):TGs:=fun vs σ H Q=>∃O0 M0 H0 ow m ds m',Rel G O0 M0 H0 ow σ H m/\DVs G (Ow O0 ow) H vs ds/\h ds m=some m'/\
 ∀ow' σ',Rel G O0 M0 H0 ow' σ' H m'->Go O0 ow H ow' H->NbP m m'->σ'.drop k=σ.drop k->Q σ' H
noncomputable abbrev FG (X:Cx)(k:Nat)(tg:Expr)(h:D->Me->Option Me):Prop:=PG X tg (tG (gx X) k h)
noncomputable abbrev FGs (X:Cx)(k:Nat)(tgs:List Expr)(h:List D->Me->Option Me):Prop:=PGs X tgs (tGs (gx X) k h)
theorem pg_weak {X:Cx}{e:Expr}{T T':TG}(h:PG X e T)(k:∀v σ H Q,T' v σ H Q->T v σ H Q):PG X e T':=fun pins s σ H v u Q I r q=>h pins s σ H v u Q I r (k v σ H Q q)
theorem pgs_weak {X:Cx}{es:List Expr}{T T':TGs}(h:PGs X es T)(k:∀v σ H Q,T' v σ H Q->T v σ H Q):PGs X es T':=fun pins s σ H v u Q I r q=>h pins s σ H v u Q I r (k v σ H Q q)
noncomputable def hName (i:Nat):D->Me->Option Me:=fun d m=>some (m.set i (.fz d))
noncomputable def hNil:List D->Me->Option Me
 |[],m=>some m
 |_,_=>none
noncomputable def hCons (h:D->Me->Option Me)(hs:List D->Me->Option Me):List D->Me->Option Me
 |d::ds,m=>(h d m).bind fun m'=>hs ds m'
 |_,_=>none
noncomputable def hTup (n:Nat)(hs:List D->Me->Option Me):D->Me->Option Me
 | .tup ds,m=>if ds.length=n then hs ds m else none
 |_,_=>none
section
variable {X:Cx}{pos:Pos}{k:Nat}{e:Expr}{es:List Expr}{h:D->Me->Option Me}{hs:List D->Me->Option Me}
theorem fg_name {i:Nat}{x:Str}(hN:X.N.Nodup)(hi:X.N[i]? = some x)(hx:Loc X.env.scope x)(hk:i<k:=by decide)(hf:X.fn x=true\/X.env.scope.names.lookup x=some .local:=by first | exact .inl rfl | exact .inr rfl | assumption):FG X k (.Name x pos) (hName i):=
 pg_weak (pg_name hN hi hx hf) fun v σ H Q hE=>xq7 hE fun O0 M0 H0 ow m d m' R hv e q=>by
  cases e
  refine q _ _ (R.set hv) Go.set (fun nb=>nb_set nb fun _ z=>by cases z) ?_
  rw [List.drop_set,if_pos (by omega)]
theorem fgs_nil:FGs X k [] hNil:=pgs_weak pgs_nil fun vs σ H Q hE=>xq7 hE fun O0 M0 H0 ow m ds m' R hv e q=>by
 cases hv with
 |nil=>cases e; exact ⟨rfl,q _ _ R (Go.refl (Same.refl _)) id rfl⟩
 |cons a t=>cases e
theorem fgs_cons (h1:FG X k e h)(h2:FGs X k es hs)(hst:(assignEach (e::es) X.env).map (·.2)=assign e X.env::(assignEach es X.env).map (·.2):=by rfl):FGs X k (e::es) (hCons h hs):=
 pgs_weak (pgs_cons h1 h2 hst) fun vs σ H Q hE=>xq7 hE fun O0 M0 H0 ow m ds m' R hv e q=>by
  cases hv with
  |nil=>cases e
  | @cons v vs' d ds' a t=>
   have e':(h d m).bind (fun m'=>hs ds' m')=some m':=e
   cases e1:h d m with
   |none=>rw [e1] at e'; cases e'
   |some m1=>
    rw [e1] at e'
    exact ⟨v,vs',rfl,O0,M0,H0,ow,m,d,m1,R,a,e1,fun ow' σ' R' g' nb hd=>⟨O0,M0,H0,ow',m1,ds',m',R',t.go R.mutk g'.ev,e',fun ow2 σ2 R2 g2 nb2 hd2=>q ow2 σ2 R2 (g'.trans g2) (fun z=>nb2 (nb z)) (hd2.trans hd)⟩⟩
theorem fg_tup {j n:Nat}(hc:X.calm=true)(h:FGs X k es hs)(hn:(assignEach es X.env).length=n:=by rfl)(hst:(assignEach es X.env).findIdx? (·.1)=none:=by rfl):FG X k (.Tuple es j pos) (hTup n hs):=
 pg_weak (pg_tup hc h hn hst) fun v σ H Q hE=>xq7 hE fun O0 M0 H0 ow m d m' R hv e q=>by
  cases d with
  |tup ds=>
   obtain ⟨a,xs,rfl,hx,hd⟩:=dw_tup (.inl hv)
   have e':(if ds.length=n then hs ds m else none)=some m':=e
   by_cases z:ds.length=n
   ·rw [if_pos z] at e'
    exact ⟨a,xs,rfl,hx,by rw [dvs_len hd]; exact z,O0,M0,H0,ow,m,ds,m',R,hd,e',q⟩
   ·rw [if_neg z] at e'; cases e'
  |_=>cases e
end
noncomputable def ItOk (G:Gx)(J:It)(ds:List D)(P:(Addr->Prop)->Hp->Prop):Prop:=∀O H,P O H->
 (∀i,i<ds.length->J.go i H)/\(∀i x H',i<ds.length->J.yld i H x H'->Same H H'/\∃d,ds[i]? = some d/\DV G O H' x d)/\J.stop ds.length H
noncomputable def tI (G:Gx)(E:XK)(f:Me->Res (List D)):TI:=fun σ H R=>∃O0 M0 H0 ow m,Rel G O0 M0 H0 ow σ H m/\Pu G E (f m) H fun ds=>∀J H',Same H H'->ItOk G J ds (fun O H2=>Ev (Ow O0 ow) H' O H2)->R J H'
noncomputable def tIw (G:Gx)(E:XK)(f:Me->Res (List D)):TI:=fun σ H R=>∃O0 M0 H0 ow m,Rel G O0 M0 H0 ow σ H m/\Pu G E (f m) H fun ds=>∀J H',Same H H'->ItOk G J ds (fun O H2=>(∀b,O b->Ow O0 ow b\/H' b=none)/\Same H' H2)->R J H'
noncomputable abbrev FI (X:Cx)(E:XK)(tg e:Expr)(f:Me->Res (List D)):Prop:=PI X tg e (tI (gx X) E f)
noncomputable abbrev FIw (X:Cx)(E:XK)(tg e:Expr)(f:Me->Res (List D)):Prop:=PI X tg e (tIw (gx X) E f)
theorem pi_weak {X:Cx}{tg e:Expr}{T T':TI}(h:PI X tg e T)(k:∀σ H R,T' σ H R->T σ H R):PI X tg e T':=fun pins s σ H R I q=>h pins s σ H R I (k σ H R q)
noncomputable def fItL (f:Me->Res D):Me->Res (List D):=fun m=>(f m).bind fun d=>match d with
 | .lst ds=>.ok ds
 |_=>.stuck
noncomputable def fItT (f:Me->Res D):Me->Res (List D):=fun m=>(f m).bind fun d=>match d with
 | .tup ds=>.ok ds
 |_=>.stuck
noncomputable def fItR1 (f:Me->Res (List D)):Me->Res (List D):=fun m=>(f m).bind fun d=>match d with
 |[.int j]=>if -(2 ^ 62)<=j/\j<2 ^ 62 then .ok ((List.range j.toNat).map fun (i:Nat)=>D.int i) else .stuck
 |_=>.stuck
theorem it_list {G:Gx}{O:Addr->Prop}{H:Hp}{a:Addr}{xs:List V}{ds:List D}(m:∀b,O b->MutK (H b))(hl:LstAt G.K O H a xs)(hd:DVs G O H xs ds):ItOk G (Itl G.K a) ds (fun O' H2=>Ev O H O' H2):=by
 intro O' H2 ev
 have hq:SqL G.K H2 a xs:=(lstAt_kp ev.2 hl).sq
 have hd2:=hd.go m ev
 have hlen:=dvs_len hd
 refine ⟨fun i hi=>⟨xs,xs[i]'(by omega),hq,by simp⟩,fun i x H' hi y=>?_,xs,hq,by omega⟩
 obtain ⟨e,y⟩:=y
 subst e
 obtain ⟨d,h1,h2⟩:=dvs_get hd2 (y xs hq)
 exact ⟨Same.refl _,d,h1,h2⟩
theorem it_listw {G:Gx}{O:Addr->Prop}{H:Hp}{a:Addr}{xs:List V}{ds:List D}(m:∀b,O b->MutK (H b))(hl:SqL G.K H a xs)(hd:DVs G O H xs ds):ItOk G (Itl G.K a) ds (fun O' H2=>(∀b,O' b->O b\/H b=none)/\Same H H2):=by
 intro O' H2 ⟨sub,g⟩
 have hq:SqL G.K H2 a xs:=sqL_mono hl g
 have hd2:=hd.go m ⟨sub,.of g⟩
 have hlen:=dvs_len hd
 refine ⟨fun i hi=>⟨xs,xs[i]'(by omega),hq,by simp⟩,fun i x H' hi y=>?_,xs,hq,by omega⟩
 obtain ⟨e,y⟩:=y
 subst e
 obtain ⟨d,h1,h2⟩:=dvs_get hd2 (y xs hq)
 exact ⟨Same.refl _,d,h1,h2⟩
theorem it_tup {G:Gx}{O:Addr->Prop}{H:Hp}{a:Addr}{xs:List V}{ds:List D}(m:∀b,O b->MutK (H b))(hl:SqT G.K H a xs)(hd:DVs G O H xs ds):ItOk G (Itt G.K a) ds (fun O' H2=>Ev O H O' H2):=by
 intro O' H2 ev
 have hq:SqT G.K H2 a xs:=sqT_kp m ev.2 hl
 have hd2:=hd.go m ev
 have hlen:=dvs_len hd
 refine ⟨fun i hi=>⟨xs,xs[i]'(by omega),hq,by simp⟩,fun i x H' hi y=>?_,xs,hq,by omega⟩
 obtain ⟨e,y⟩:=y
 subst e
 obtain ⟨d,h1,h2⟩:=dvs_get hd2 (y xs hq)
 exact ⟨Same.refl _,d,h1,h2⟩
theorem ItOk.weak {G:Gx}{J:It}{ds:List D}{O:Addr->Prop}{H:Hp}(h:ItOk G J ds (fun O' H2=>Ev O H O' H2)):ItOk G J ds (fun O' H2=>(∀b,O' b->O b\/H b=none)/\Same H H2):=
 fun O' H2 ⟨s,g⟩=>h O' H2 ⟨s,.of g⟩
theorem it_range {G:Gx}{lo:Int}{n:Nat}{P:(Addr->Prop)->Hp->Prop}:ItOk G (Itr lo n) ((List.range n).map fun (k:Nat)=>D.int (lo+k)) P:=by
 intro O H _
 refine ⟨fun i hi=>(show i<n by simpa using hi),fun i x H' hi y=>?_,by show n<=_; simp⟩
 obtain ⟨e,y⟩:=y
 subst e y
 have hi':i<n:=by simpa using hi
 exact ⟨Same.refl _,_,by simp [List.getElem?_map,List.getElem?_range hi'],.int _⟩
section
variable {X:Cx}{E:XK}{tg e a b:Expr}{f:Me->Res D}{fs:Me->Res (List D)}{p pos:Pos}
theorem fi_list (h:FE X E e f):FI X E tg e (fItL f):=pi_weak (pi_list h) fun σ H R hE=>xq5 hE fun O0 M0 H0 ow m Re q=>⟨O0,M0,H0,ow,m,Re,q.bind.imp (Same.refl _) fun d q v H' g hv=>by
 cases d with
 |lst ds=>
  cases hv with
  |lst hl hd=>exact ⟨_,rfl,⟨_,hl.sq⟩,q _ H' g (it_list (Re.mono g).mutk hl hd)⟩
 |_=>exact q.elim⟩
theorem fi_tup (h:FE X E e f):FI X E tg e (fItT f):=pi_weak (pi_tup h) fun σ H R hE=>xq5 hE fun O0 M0 H0 ow m Re q=>⟨O0,M0,H0,ow,m,Re,q.bind.imp (Same.refl _) fun d q v H' g hv=>by
 cases d with
 |tup ds=>
  cases hv with
  |tup hl hd=>exact ⟨_,rfl,⟨_,hl.sq⟩,q _ H' g (it_tup (Re.mono g).mutk hl.sq hd)⟩
 |_=>exact q.elim⟩
theorem fiw_list (h:FB X E e f):FIw X E tg e (fItL f):=pi_weak (pi_list h) fun σ H R hE=>xq5 hE fun O0 M0 H0 ow m Re q=>⟨O0,M0,H0,ow,m,Re,q.bind.imp (Same.refl _) fun d q v H' g hv=>by
 cases d with
 |lst ds=>
  obtain ⟨a,xs,rfl,hl,hd⟩:=dw_lst hv
  exact ⟨a,rfl,⟨_,hl⟩,q _ H' g (it_listw (Re.mono g).mutk hl hd)⟩
 |_=>exact q.elim⟩
theorem fiw_of {fl:Me->Res (List D)}(h:FI X E tg e fl):FIw X E tg e fl:=pi_weak h fun σ H R hE=>xq5 hE fun O0 M0 H0 ow m Re q=>⟨O0,M0,H0,ow,m,Re,q.imp (Same.refl _) fun ds q J H' g hi=>q J H' g hi.weak⟩
theorem fi_range1 (hg:Gl X "range")(hm:X.mg "range" = none)(ha:FAB X E [a] fs)(hs:starEach [a] X.env=[(false,eval a X.env)]:=by rfl):FI X E tg (.Call (.Name "range" p) [a] [] pos) (fItR1 fs):=
 pi_weak (pi_range1 hg hm ha hs) fun σ H R hE=>xq5 hE fun O0 M0 H0 ow m Re q=>⟨O0,M0,H0,ow,m,Re,q.bind.imp (Same.refl _) fun ds q vs H' g hv=>by
  cases hv with
  |nil=>exact q.elim
  | @cons v vs d ds h1 h2=>
   cases h2 with
   |cons _ _=>cases d <;> exact q.elim
   |nil=>
    cases d with
    |int j=>
     cases dw_int h1
     obtain ⟨⟨z1,z2⟩,k⟩:=pu_if q
     refine ⟨j,rfl,z1,z2,k _ H' g ?_⟩
     have:=it_range (G:=gx X) (lo:=0) (n:=j.toNat) (P:=fun O H2=>Ev (Ow O0 ow) H' O H2)
     simpa using this
    |_=>exact q.elim⟩
end
noncomputable def loopL (h:D->Me->Option Me)(g:Me->Res (Fl×Me)):List D->Me->Res (Fl×Me)
 |[],m=>.ok (.nx,m)
 |d::ds,m=>match h d m with
  |none=>.stuck
  |some m1=>match g m1 with
   | .ok (.nx,m2)=>loopL h g ds m2
   | .ok (.ct,m2)=>loopL h g ds m2
   | .ok (.bk,m2)=>.ok (.nx,m2)
   | .ok (.rt fr v,m2)=>.ok (.rt fr v,m2)
   | .exc c=>.exc c
   | .stuck=>.stuck
noncomputable def gFor (fi:Me->Res (List D))(h:D->Me->Option Me)(g:Me->Res (Fl×Me)):Me->Res (Fl×Me):=fun m=>(fi m).bind fun ds=>loopL h g ds m
theorem fs_for {X:Cx}{E:XK}{tg iter:Expr}{body:List Stmt}{fi:Me->Res (List D)}{k:Nat}{h:D->Me->Option Me}{g:Me->Res (Fl×Me)}{pos:Pos}(hp:PassesOwn (model X.prog X.w) X.A X.env X.xe)(hc:X.calm=true)(hi:FI X E tg iter fi)(hg:FG X k tg h)(hb:FSs X E body g)
  (hs:∀x,foldedSetIterable iter X.env x=pure x:=by intro _; rfl):FS X E (.For tg iter body [] pos) (gFor fi h g):=ps_weak (ps_for hp hc hi hg hb hs) fun W σ H hE=>xq5 hE fun O0 M0 H0 ow m R q=>
 ⟨O0,M0,H0,ow,m,R.toRel,(Ss.pu R.toRel q).imp (Same.refl _) fun ds q J H1 g1 it=>by
  have R1:=R.mono g1
  have q1:=Ss.go q (Go.refl g1)
  generalize hr:loopL h g ds m=r at *
  refine ⟨fun i n σ' H'=>∃ow' m',RelS (gx X) O0 M0 H0 ow' σ' H' m'/\Go O0 ow H1 ow' H'/\n=ds.length - i/\i<=ds.length/\loopL h g (ds.drop i) m'=r,⟨_,ow,m,R1,Go.refl (Same.refl _),rfl,Nat.zero_le _,hr⟩,?_⟩
  rintro i n σ2 H2 ⟨ow2,m2,R2,g2,rfl,hi,e2⟩
  obtain ⟨i1,i2,i3⟩:=it _ H2 g2.ev
  by_cases hlt:i<ds.length
  ·refine .inr ⟨i1 i hlt,fun σ' H'=>∃ow' m',RelS (gx X) O0 M0 H0 ow' σ' H' m'/\Go O0 ow H1 ow' H'/\loopL h g (ds.drop (i+1)) m'=r,fun σ' H' ⟨ow',m',R',g',e'⟩=>⟨ds.length - (i+1),by omega,ow',m',R',g',rfl,hlt,e'⟩,fun x H3 y=>?_⟩
   obtain ⟨s3,d,hd,dv⟩:=i2 i x H3 hlt y
   have ed:ds.drop i=d::ds.drop (i+1):=by
    rw [List.drop_eq_getElem_cons hlt]
    rw [List.getElem?_eq_getElem hlt] at hd
    cases hd
    rfl
   rw [ed] at e2
   unfold loopL at e2
   cases eh:h d m2 with
   |none=>rw [eh] at e2; subst e2; exact q1.elim
   |some m3=>
    rw [eh] at e2
    refine ⟨O0,M0,H0,ow2,m2,d,m3,(R2.mono s3).toRel,dv,eh,fun ow' σ' R' g' nb _=>?_⟩
    have G3:=(g2.trans (Go.refl s3)).trans g'
    refine ⟨O0,M0,H0,ow',m3,⟨R',nb R2.nb⟩,?_⟩
    cases eg:g m3 with
    |exc c=>simp only [eg] at e2; subst e2; exact q1
    |stuck=>simp only [eg] at e2; subst e2; exact q1
    |ok a=>
     obtain ⟨f4,m4⟩:=a
     simp only [eg] at e2
     cases f4 with
     |nx=>exact fun ow4 σ4 H4 R4 g4=>⟨ow4,m4,R4,G3.trans g4,e2⟩
     |ct=>exact fun ow4 σ4 H4 R4 g4=>⟨ow4,m4,R4,G3.trans g4,e2⟩
     |bk=>subst e2; exact fun ow4 σ4 H4 R4 g4=>q1 ow4 σ4 H4 R4 (G3.trans g4)
     |rt fr v=>subst e2; exact fun v ow4 σ4 H4 R4 g4=>q1 v ow4 σ4 H4 R4 (G3.trans g4)
  ·have e:i=ds.length:=by omega
   subst e
   rw [List.drop_length] at e2
   unfold loopL at e2
   subst e2
   exact .inl ⟨i3,q1 ow2 σ2 H2 R2 g2⟩⟩
open PySem PySem.Spec PyProof.Rows L2 Hd
noncomputable def Sl.bor:Sl->Sl
 | .ow d=>.bw d
 | .io d=>.bw d
 | .hd _ _ _=>.un
 |s=>s
noncomputable def cMe (k:Nat)(cap:List Nat)(m:Me):Me:=List.replicate k .un++cap.map fun j=>(m.getD j .un).bor
noncomputable def compL (h:D->Me->Option Me)(ft:Me->Res Bool)(fe:Me->Res D)(m0:Me):List D->Res (List D)
 |[]=>.ok []
 |d::ds=>match h d m0 with
  |none=>.stuck
  |some m1=>match ft m1 with
   | .ok true=>match fe m1 with
    | .ok y=>match compL h ft fe m0 ds with
     | .ok ys=>.ok (y::ys)
     |_=>.stuck
    |_=>.stuck
   | .ok false=>compL h ft fe m0 ds
   |_=>.stuck
noncomputable def fComp (k:Nat)(cap:List Nat)(fi:Me->Res (List D))(h:D->Me->Option Me)(ft:Me->Res Bool)(fe:Me->Res D):Me->Res D:=fun m=>(fi m).bind fun ds=>
 if ds.length<=sizeLine then match compL h ft fe (cMe k cap m) ds with
  | .ok ys=>.ok (.lst ys)
  |_=>.stuck
 else .stuck
noncomputable abbrev FIfs (X:Cx)(E:XK)(ifs:List Expr)(f:Me->Res Bool):Prop:=PIfs X ifs (tT (gx X) E f)
noncomputable def fAll:Me->Res Bool:=fun _=>.ok true
theorem fifs_nil {X:Cx}{E:XK}:FIfs X E [] fAll:=fun pins s σ H Q I hE=>xq5 hE fun O0 M0 H0 ow m R q=>ifs_nil pins s σ H Q I (q H (Same.refl _))
section
variable {X:Cx}{E:XK}{k:Nat}{cap:List Nat}{fi:Me->Res (List D)}{h:D->Me->Option Me}{ft:Me->Res Bool}{fe:Me->Res D}
theorem comp_rel {G:Gx}{O0 M0:Addr->Prop}{H0 H H2:Hp}{ow:Os}{σ:L2.St}{m:Me}{l:Addr}{zs:List V}(R:Rel G O0 M0 H0 ow σ H m)(g:Same H H2)(hl:H l=none)(hz:H2 l=some (.lst zs)):
  Rel G (Op (Ow O0 ow) l) (fun _=>False) (fun _=>none) (fun _=>none) (cSt k cap σ) H2 (cMe k cap m):=by
 have sub:∀b,Ow (Op (Ow O0 ow) l) (fun _=>none) b->Ow O0 ow b\/H b=none:=fun b z=>by
  rw [Ow_none] at z
  exact z.elim .inl fun e=>.inr (by rw [e]; exact hl)
 have sup:∀b,Ow O0 ow b->Ow (Op (Ow O0 ow) l) (fun _=>none) b:=fun b z=>.inl (.inl z)
 refine ⟨by simp [cSt,cMe],fun b o e _=>(by cases e),fun b z=>z.elim,fun b z=>?_,fun i a e=>(by cases e),fun i j a e=>(by cases e),fun _ _=>rfl,fun i s e=>?_⟩
 ·rw [Ow_none] at z
  rcases z with z | z
  ·exact mutk_mono g (R.mutk b z)
  ·rw [z,hz]; exact .inl ⟨zs,rfl⟩
 ·unfold cMe at e
  by_cases hi:i<k
  ·rw [List.getElem?_append_left (by simpa using hi),List.getElem?_replicate,if_pos hi] at e
   cases e
   rfl
  ·rw [List.getElem?_append_right (by simp; omega),List.length_replicate,List.getElem?_map] at e
   have eσ:(cSt k cap σ)[i]? = (cap[i - k]?).map fun j=>(σ[j]?).join:=by
    unfold cSt
    rw [List.getElem?_append_right (by simp; omega),List.length_replicate,List.getElem?_map]
   cases ec:cap[i - k]? with
   |none=>rw [ec] at e; cases e
   |some j=>
    rw [ec] at e eσ
    rw [eσ]
    cases ej:m[j]? with
    |none=>
     have:m.getD j .un=.un:=by simp [List.getD,ej]
     rw [Option.map_some,this] at e
     cases e
     rfl
    |some s0=>
     have:m.getD j .un=s0:=by simp [List.getD,ej]
     rw [Option.map_some,this] at e
     cases e
     have z:=R.slot j s0 ej
     cases s0 with
     |un=>rfl
     |fz d=>
      obtain ⟨_,x,e1,hv⟩:=z
      exact ⟨rfl,x,by rw [Option.map_some,e1]; rfl,(hv.anti sub).mono g⟩
     |ow d=>
      obtain ⟨a,h1,h2,h3,h4⟩:=z
      exact ⟨rfl,.ref a,by rw [Option.map_some,h3]; rfl,.inr ⟨a,rfl,sup a (.inr ⟨j,h1⟩),(h4.anti sub).mono g⟩⟩
     |io d=>
      obtain ⟨a,h1,h2,h3,h4⟩:=z
      exact ⟨rfl,.ref a,by rw [Option.map_some,h3]; rfl,.inr ⟨a,rfl,sup a (.inr ⟨j,h1⟩),(h4.anti sub).mono g⟩⟩
     |bw d=>
      obtain ⟨_,x,e1,hv⟩:=z
      refine ⟨rfl,x,by rw [Option.map_some,e1]; rfl,?_⟩
      rcases hv with hv | ⟨a,e2,o,hv⟩
      ·exact .inl ((hv.anti sub).mono g)
      ·exact .inr ⟨a,e2,sup a o,(hv.anti sub).mono g⟩
     |hd w a d=>rfl
theorem comp_go {σ:L2.St}{H:Hp}{Q:VK}(hq:tN (gx X) E (fComp k cap fi h ft fe) σ H Q):tComp k cap (tIw (gx X) E fi) (tG (gx X) k h) (tT (gx X) E0 ft) (tE (gx X) E0 fe) σ H Q:=by
 obtain ⟨O0,M0,H0,ow,m,R,q⟩:=hq
 refine ⟨O0,M0,H0,ow,m,R,q.bind.imp (Same.refl _) fun ds q J H1 g1 it l hl=>?_⟩
 obtain ⟨hz,q⟩:=pu_if' q
 cases hc:compL h ft fe (cMe k cap m) ds with
 |exc c=>rw [hc] at q; exact q.elim
 |stuck=>rw [hc] at q; exact q.elim
 |ok ys=>
  rw [hc] at q
  have hlH:H l=none:=g1.free hl
  have mk1:∀b,Op (Ow O0 ow) l b->Ow O0 ow b\/H1 b=none:=fun b z=>z.elim .inl fun e=>.inr (by rw [e]; exact hl)
  refine ⟨fun i n zs H'=>n=ds.length - i/\i<=ds.length/\zs.length<=i/\Same H1 H'/\H' l=some (.lst zs)/\∃es rest,DVs (gx X) (Op (Ow O0 ow) l) H' zs es/\compL h ft fe (cMe k cap m) (ds.drop i)=.ok rest/\es++rest=ys,
   ⟨ds.length,by simp,Nat.zero_le _,Nat.le_refl _,same_new hl _,upd_same,[],ys,.nil,hc,rfl⟩,?_⟩
  rintro i n zs H' ⟨rfl,hi,hzi,g2,hH,es,rest,hes,hcr,hys⟩
  obtain ⟨i1,i2,i3⟩:=it (Op (Ow O0 ow) l) H' ⟨mk1,g2⟩
  by_cases hlt:i<ds.length
  ·refine .inr ⟨i1 i hlt,fun x H2 y=>?_⟩
   obtain ⟨g3,d,hd,dv⟩:=i2 i x H2 hlt y
   have ed:ds.drop i=d::ds.drop (i+1):=by
    rw [List.drop_eq_getElem_cons hlt]
    rw [List.getElem?_eq_getElem hlt] at hd
    cases hd
    rfl
   rw [ed] at hcr
   unfold compL at hcr
   cases eh:h d (cMe k cap m) with
   |none=>rw [eh] at hcr; cases hcr
   |some m1=>
    rw [eh] at hcr
    have G2:Same H H2:=(g1.trans g2).trans g3
    have R2:=comp_rel (k:=k) (cap:=cap) (l:=l) (zs:=zs) R G2 hlH (g3 _ _ hH)
    refine ⟨_,_,_,_,_,d,m1,R2,by rw [Ow_none]; exact dv,eh,fun ow' σ' R' g' nb hdr=>⟨hdr,_,_,_,ow',m1,R',?_⟩⟩
    simp only [] at hcr
    cases et:ft m1 with
    |exc c=>rw [et] at hcr; cases hcr
    |stuck=>rw [et] at hcr; cases hcr
    |ok t=>
     rw [et] at hcr
     intro H3 g4
     cases t with
     |false=>
      rw [if_neg Bool.false_ne_true]
      exact ⟨ds.length - (i+1),by omega,rfl,hlt,by omega,(g2.trans g3).trans g4,g4 _ _ (g3 _ _ hH),es,rest,hes.mono (g3.trans g4),hcr,hys⟩
     |true=>
      rw [if_pos rfl]
      refine ⟨_,_,_,ow',m1,R'.mono g4,?_⟩
      simp only [] at hcr
      cases ee:fe m1 with
      |exc c=>rw [ee] at hcr; cases hcr
      |stuck=>rw [ee] at hcr; cases hcr
      |ok y'=>
       rw [ee] at hcr
       intro v H5 g5 hv
       simp only [] at hcr
       cases er:compL h ft fe (cMe k cap m) (ds.drop (i+1)) with
       |exc c=>rw [er] at hcr; cases hcr
       |stuck=>rw [er] at hcr; cases hcr
       |ok rest'=>
        rw [er] at hcr
        cases hcr
        have G5:Same H' H5:=(g3.trans g4).trans g5
        have mk5:∀b,Op (Ow O0 ow) l b->MutK (H5 b):=fun b z=>by
         rcases z with z | z
         ·exact mutk_mono (((g1.trans g2).trans G5)) (R.mutk b z)
         ·rw [z,G5 _ _ hH]; exact .inl ⟨zs,rfl⟩
        have kp5:Kp (Op (Ow O0 ow) l) H5 (upd H5 l (.lst (zs++[v]))):=fun b o e n=>by
         rw [upd_ne (show b≠l from fun z=>n (.inr z))]
         exact e
        refine ⟨G5 _ _ hH,by omega,ds.length - (i+1),by omega,rfl,hlt,by rw [List.length_append,List.length_singleton]; omega,?_,upd_same,es++[y'],rest',?_,er,by rw [List.append_assoc]; exact hys⟩
        ·exact sb_same ((sb_of (g2.trans G5)).trans sb_upd) hl
        ·exact dvs_app ((hes.mono G5).kp mk5 kp5) (.cons ((hv.anti fun b z=>.inl (.inl z)).kp mk5 kp5) .nil)
  ·have e:i=ds.length:=by omega
   subst e
   rw [List.drop_length] at hcr
   cases hcr
   rw [List.append_nil] at hys
   subst hys
   exact .inl ⟨i3,q l H' (g1.trans g2) hlH ⟨zs,hH,hes⟩⟩
section
variable {tg iter elt:Expr}{ifs:List Expr}{scope:Scope}{pos:Pos}
theorem fn_comp (sc:Scope)(N' caps:List Str)(k:Nat)(cap:List Nat)(hcalm:X.calm=true)(S:CSc sc scope caps)(hcap:Paired (fun j x=>X.N[j]? = some x) cap caps)
  (hi:FIw X E tg iter fi) (hg:∀cl C sE HE fp pins,FG (compCx X N' scope cl C sE HE fp pins) k tg h) (ht:∀cl C sE HE fp pins,FIfs (compCx X N' scope cl C sE HE fp pins) E0 ifs ft) (he:∀cl C sE HE fp pins,FE (compCx X N' scope cl C sE HE fp pins) E0 elt fe)
  (hsc:X.env.scope=sc:=by rfl) (hN:N'.drop k=caps:=by rfl) (hk:k<=N'.length:=by decide) (hs:∀x,foldedSetIterable iter X.env x=pure x:=by intro _; rfl):
  FN X E (.ListComp elt [⟨tg,iter,ifs,0⟩] scope pos) (fComp k cap fi h ft fe):=pe_weak (pe_comp sc N' caps k cap hcalm S hcap hi hg ht he hsc hN hk hs) fun _ _ _ q=>comp_go q
variable {i:Nat}{y:Str}{py spos:Pos}
theorem fs_setComp (sc:Scope)(N' caps:List Str)(k:Nat)(cap:List Nat)(hnd:X.N.Nodup)(hi':X.N[i]? = some y)(hy:Loc X.env.scope y)(hcalm:X.calm=true)(S:CSc sc scope caps)(hcap:Paired (fun j x=>X.N[j]? = some x) cap caps)
  (hi:FIw X E tg iter fi) (hg:∀cl C sE HE fp pins,FG (compCx X N' scope cl C sE HE fp pins) k tg h) (ht:∀cl C sE HE fp pins,FIfs (compCx X N' scope cl C sE HE fp pins) E0 ifs ft) (he:∀cl C sE HE fp pins,FE (compCx X N' scope cl C sE HE fp pins) E0 elt fe)
  (hsw:swapsWith (.ListComp elt [⟨tg,iter,ifs,0⟩] scope pos) (some (.Name y py)) spos.line X.env=pure true:=by rfl)
  (hsc:X.env.scope=sc:=by rfl) (hN:N'.drop k=caps:=by rfl) (hk:k<=N'.length:=by decide) (hs:∀x,foldedSetIterable iter X.env x=pure x:=by intro _; rfl)
  (hf:X.fn y=true\/X.env.scope.names.lookup y=some .local:=by first | exact .inl rfl | exact .inr rfl | assumption):
  FS X E (.Assign [.Name y py] (.ListComp elt [⟨tg,iter,ifs,0⟩] scope pos) spos) (gSet i (fComp k cap fi h ft fe)):=
 ps_weak (ps_setComp sc N' caps k cap hnd hi' hy hcalm S hcap hi hg ht he hsw hsc hN hk hs hf) fun W σ H q=>by
  refine comp_go (h:=h) (ft:=ft) (fe:=fe) (Q:=fun x H1=>gName i x σ H1 W.nx) ?_
  obtain ⟨O0,M0,H0,ow,m,R,q⟩:=set_go q
  exact ⟨O0,M0,H0,ow,m,R,q.imp (Same.refl _) fun _ k p H' g n o=>k _ H' g ((o.anti fun b z=>.inl (.inl z)).dv (R.noOw n))⟩
theorem fs_ownComp (sc:Scope)(N' caps:List Str)(k:Nat)(cap:List Nat)(hnd:X.N.Nodup)(hi':X.N[i]? = some y)(hy:Loc X.env.scope y)(hcalm:X.calm=true)(S:CSc sc scope caps)(hcap:Paired (fun j x=>X.N[j]? = some x) cap caps)
  (hi:FIw X E tg iter fi) (hg:∀cl C sE HE fp pins,FG (compCx X N' scope cl C sE HE fp pins) k tg h) (ht:∀cl C sE HE fp pins,FIfs (compCx X N' scope cl C sE HE fp pins) E0 ifs ft) (he:∀cl C sE HE fp pins,FE (compCx X N' scope cl C sE HE fp pins) E0 elt fe)
  (hsw:swapsWith (.ListComp elt [⟨tg,iter,ifs,0⟩] scope pos) (some (.Name y py)) spos.line X.env=pure true:=by rfl)
  (hsc:X.env.scope=sc:=by rfl) (hN:N'.drop k=caps:=by rfl) (hk:k<=N'.length:=by decide) (hs:∀x,foldedSetIterable iter X.env x=pure x:=by intro _; rfl)
  (hf:X.fn y=true\/X.env.scope.names.lookup y=some .local:=by first | exact .inl rfl | exact .inr rfl | assumption):
  FS X E (.Assign [.Name y py] (.ListComp elt [⟨tg,iter,ifs,0⟩] scope pos) spos) (gOwn i (fComp k cap fi h ft fe)):=
 ps_weak (ps_setComp sc N' caps k cap hnd hi' hy hcalm S hcap hi hg ht he hsw hsc hN hk hs hf) fun W σ H q=>comp_go (Q:=fun x H1=>gName i x σ H1 W.nx) (own_go q)
end
end
noncomputable def spF (G:Gx)(Φ:List D->Res (Bool×D)):Sp:=fun vs H Q E=>∃O ds,(∀b,O b->MutK (H b))/\DVs G O H vs ds/\Pu G E (Φ ds) H fun r=>∀v H',Same H H'->DV G O H' v r.2->(r.1=true->Fr G O H v H' r.2)->Q v H'
noncomputable def runF (N n:Nat)(g:Me->Res (Fl×Me)):List D->Res (Bool×D):=fun ds=>if ds.length=n then match g (ds.map Sl.fz++List.replicate (N - n) Sl.un) with
  | .ok (.rt fr d,_)=>.ok (fr,d)
  | .ok (.nx,_)=>.ok (false,.non)
  | .exc c=>.exc c
  |_=>.stuck
 else .stuck
noncomputable abbrev FF (P:Program)(w:World)(K:PySem.W.Frag)(mg:Str->Option Value)(base:Heap)(k:Nat)(x:Str)(ps:List Str)(Φ:List D->Res (Bool×D)):Prop:=Hd.Fn P w K mg base k x ps (spF ⟨K,mg⟩ Φ)
theorem start_rel {G:Gx}{O:Addr->Prop}{H:Hp}{N:List Str}{vs:List V}{ds:List D}{n:Nat}(hm:∀b,O b->MutK (H b))(hd:DVs G O H vs ds)(hn:ds.length=n):
  RelS G O (fun _=>False) H (fun _=>none) (L2.start N vs) H (ds.map Sl.fz++List.replicate (N.length - n) Sl.un):=by
 have hl:=dvs_len hd
 refine ⟨⟨by simp [L2.start,hl,hn],fun b o e _=>e,fun b z=>z.elim,fun b z=>by rw [Ow_none] at z; exact hm b z,fun i a e=>(by cases e),fun i j a e=>(by cases e),fun _ _=>rfl,fun i s e=>?_⟩,fun j d e=>?_⟩
 ·by_cases hi:i<ds.length
  ·rw [List.getElem?_append_left (by simpa using hi),List.getElem?_map] at e
   cases ed:ds[i]? with
   |none=>rw [ed] at e; cases e
   |some d=>
    rw [ed] at e
    cases e
    obtain ⟨x,hx,dx⟩:=dvs_at hd ed
    refine ⟨rfl,x,?_,by rw [Ow_none]; exact dx⟩
    unfold L2.start
    rw [List.getElem?_append_left (by simpa [hl] using hi),List.getElem?_map,hx]
    rfl
  ·rw [List.getElem?_append_right (by simp; omega),List.getElem?_replicate] at e
   split at e
   ·cases e; rfl
   ·cases e
 ·by_cases hi:j<ds.length
  ·rw [List.getElem?_append_left (by simpa using hi),List.getElem?_map] at e
   cases ed:ds[j]? with
   |none=>rw [ed] at e; cases e
   |some d=>rw [ed] at e; cases e
  ·rw [List.getElem?_append_right (by simp; omega),List.getElem?_replicate] at e
   split at e <;> cases e
section
variable {P:Program}{w:World}{K:PySem.W.Frag}{mg:Str->Option Value}{base:Heap}
theorem fun_okF {x qual:Str}{st:Stmt}{f:Addr}{fd:FuncData}{N ps:List Str}{k:Nat}{g:Me->Res (Fl×Me)}(Fu:Fun K x qual st f fd)(S:FnScope N ps (defScope st))
  (hbody:∀(cdv:Value) (A:Around) (outer:List Env) (s:Shared) (H:Hp) (E:XK),Room k (A.deeper (envOfC qual (defScope st) s.heap.objs.size f cdv))->
   FSs (cxOf (CX1 P w) P w K mg base N qual (defScope st) f cdv A outer s H E) E (defBody st) g):FnOk P w K mg base (CX1 P w) (k+1) f fd ps (spF ⟨K,mg⟩ (runF N.length ps.length g)):=by
 refine fun_okx Fu S (fun vs H Q E h=>?_) (fun cdv A outer s H vs Q E hr h=>?_)
 ·obtain ⟨O,ds,_,hd,q⟩:=h
  rw [dvs_len hd]
  unfold runF at q
  exact (pu_if' q).1
 ·obtain ⟨O,ds,hm,hd,q⟩:=h
  unfold runF at q
  obtain ⟨hn,q⟩:=pu_if' q
  refine ⟨_,hbody cdv A outer s H E hr,O,fun _=>False,H,fun _=>none,_,start_rel hm hd hn,?_⟩
  have sm:∀{ow' σ' H' m'},RelS (⟨K,mg⟩:Gx) O (fun _=>False) H ow' σ' H' m'->Same H H':=fun R b o e=>R.keep b o e id
  cases z:g (ds.map Sl.fz++List.replicate (N.length - ps.length) Sl.un) with
  |exc c=>rw [z] at q; exact fun C H' e kp=>q C H' e fun b o e=>kp b o e id
  |stuck=>rw [z] at q; exact q.elim
  |ok a=>
   obtain ⟨fl,m'⟩:=a
   rw [z] at q
   cases fl with
   |bk=>exact q.elim
   |ct=>exact q.elim
   |nx=>exact fun ow' σ' H' R' _=>q _ H' (sm R') .non fun z=>by cases z
   |rt fr d=>
    intro v ow' σ' H' R' _ hv hf
    refine q v H' (sm R') (hv.anti fun b z=>.inl (.inl z)) fun z=>?_
    rcases hf z with ⟨p,e1,e2,e3⟩ | t
    ·exact .inl ⟨p,e1,e2,e3.anti fun b z=>.inl (z.elim (fun y=>.inl (.inl y)) .inr)⟩
    ·exact .inr t
end
noncomputable def fFn (Φ:List D->Res (Bool×D))(fs:Me->Res (List D)):Me->Res D:=fun m=>(fs m).bind fun ds=>(Φ ds).bind fun r=>.ok r.2
section
variable {X:Cx}{E:XK}{j k:Nat}{x:Str}{ps:List Str}{Φ:List D->Res (Bool×D)}{p pos:Pos}{e:Expr}{es:List Expr}{fs:Me->Res (List D)}
theorem fe_fn (Fh:FF X.prog X.w X.K X.mg X.base k x ps Φ)(hr:Room j X.A)(hx:Passes (CX1 X.prog X.w) X E)(ha:FAE X E (e::es) fs)(hk:k<=j:=by decide)(hg:Gl X x:=by rfl)
  (hdb:(x == ("__debug__" : Str))=false:=by decide) (he:starEach (e::es) X.env=(false,eval e X.env)::starEach es X.env:=by rfl) (hpl:(backTo pos (starEach es X.env)).any (·.1)=false:=by rfl):
  FE X E (.Call (.Name x p) (e::es) [] pos) (fFn Φ fs):=by
 obtain ⟨f,fd,G,b,kp,m⟩:=Fh.ex
 refine pe_weak (pe_call G (hr.mono hk) hg m kp b .nil hx ha hdb he hpl) fun σ H Q hE=>xq5 hE fun O0 M0 H0 ow m R q=>⟨O0,M0,H0,ow,m,R,q.bind.imp (Same.refl _) fun ds q vs H1 g1 hv=>?_⟩
 show spF _ _ (vs++[]) _ _ _
 rw [List.append_nil]
 exact ⟨_,ds,(R.mono g1).mutk,hv,q.bind.imp g1 fun r q v H' g2 hv' _=>q v H' (g1.trans g2) hv'⟩
end
open PySem PySem.Spec PyProof.Rows L2 Hd
noncomputable def Bg (i:Int):Prop:=i.natAbs<lmM
noncomputable instance (i:Int):Decidable (Bg i):=inferInstanceAs (Decidable (_<_))
noncomputable def Bq (i:Int):Prop:=i.natAbs<lmD
noncomputable instance (i:Int):Decidable (Bq i):=inferInstanceAs (Decidable (_<_))
theorem bg_is {i:Int}(h:i.natAbs<2 ^ 60000):Bg i:=by unfold Bg; rw [lmM_is]; exact h
theorem bq_is {i:Int}(h:i.natAbs<2 ^ 8900):Bq i:=by unfold Bq; rw [lmD_is]; exact h
noncomputable def dvI (i j:Int):Int:=if 0<j then i / j else i.fdiv j
noncomputable def mdI (i j:Int):Int:=if 0<j then i % j else i.fmod j
noncomputable def gAdd:D->D->Option D
 | .int i,.int j=>some (.int (i+j))
 | .str a,.str b=>if a.length+b.length<=sizeLine then some (.str (a++b)) else none
 | .lst a,.lst b=>if a.length+b.length<=sizeLine then some (.lst (a++b)) else none
 | .tup a,.tup b=>if a.length+b.length<=sizeLine then some (.tup (a++b)) else none
 |_,_=>none
noncomputable def gSub:D->D->Option D
 | .int i,.int j=>some (.int (i - j))
 |_,_=>none
noncomputable def gMul:D->D->Option D
 | .int i,.int j=>if Bg i/\Bg j then some (.int (i * j)) else none
 |_,_=>none
noncomputable def gDiv:D->D->Option D
 | .int i,.int j=>if j≠0/\Bq j then some (.int (dvI i j)) else none
 |_,_=>none
noncomputable def gMod:D->D->Option D
 | .int i,.int j=>if j≠0 then some (.int (mdI i j)) else none
 |_,_=>none
noncomputable def gPow:D->D->Option D
 | .int i,.int j=>if 0<=j/\j<=1000000/\i.natAbs<2 ^ 64 then some (.int (i ^ j.toNat)) else none
 |_,_=>none
noncomputable def gNeg:D->Option D
 | .int i=>some (.int (-i))
 |_=>none
section
variable {X:Cx}
theorem oif {c:Prop}[Decidable c]{α:Type}{a r:α}(h:(if c then some a else none)=some r):c/\a=r:=by
 by_cases z:c
 ·rw [if_pos z] at h; exact ⟨z,Option.some.inj h⟩
 ·rw [if_neg z] at h; cases h
theorem fin_str {pins:List (Addr×Obj)}{σ:L2.St}{H:Hp}{s:Shared}{Q:VK}{O:Addr->Prop}{i:Str}{t:Tok}{tk:Nat}(I:Inv X pins σ H s)(q:∀v H',Same H H'->DV (gx X) O H' v (.str i)->Q v H'):EP X pins σ Q (.str i t) { s with toks:=tk }:=
 ⟨.str i,H,I.tok _,⟨t,rfl⟩,q _ _ (Same.refl _) (.str i)⟩
theorem fin_lst {pins:List (Addr×Obj)}{σ:L2.St}{H:Hp}{s:Shared}{Q:VK}{O:Addr->Prop}{xs:List V}{ds:List D}{its:List Value}{h':Heap}{tk:Nat}(I:Inv X pins σ H s)(m:∀b,O b->MutK (H b))(hd:DVs (gx X) O H xs ds)(r:Vals xs its)(hz:xs.length<=sizeLine)
  (kp:∀b o,s.heap.get? b=some o->h'.get? b=some o) (e:∃n,h'.get? s.heap.objs.size=some { cls:=.type "list",data:=.seq its.toArray n }) (q:∀p H',Same H H'->H p=none->OV (gx X) (Op O p) H' p (.lst ds)->Q (.ref p) H'):EP X pins σ Q (.ref s.heap.objs.size) { s with heap:=h',toks:=tk }:=by
 have hf:H s.heap.objs.size=none:=I.hok.fresh (Nat.le_refl _)
 obtain ⟨n,e⟩:=e
 refine ⟨.ref s.heap.objs.size,upd H s.heap.objs.size (.lst xs),I.laid kp (Nat.le_refl _) ⟨hz,its,n,r,e⟩,rfl,q _ _ (same_new hf _) hf ⟨xs,upd_same,?_⟩⟩
 exact (hd.anti fun b z=>z.elim .inl fun e=>.inr (by rw [e]; exact hf)).mono (same_new hf _)
theorem new_dv {G:Gx}{O:Addr->Prop}{H:Hp}{r:D}{Q:VK}(m:∀b,O b->MutK (H b))(q:∀v H',Same H H'->DV G O H' v r->Q v H'):∀p H',Same H H'->H p=none->OV G (Op O p) H' p r->Q (.ref p) H':=fun p H' g n o=>
 q _ H' g ((o.anti fun b z=>.inl (.inl z)).dv fun z=>by
  have:=m p z
  rw [n] at this
  rcases this with ⟨_,e⟩ | ⟨_,e⟩ | ⟨_,e⟩ | ⟨_,e⟩ <;> cases e)
noncomputable def rCatN (G:Gx):R2:=fun x y H Q=>∃O ds es,(∀b,O b->MutK (H b))/\DW G O H x (.lst ds)/\DW G O H y (.lst es)/\ds.length+es.length<=sizeLine/\∀p H',Same H H'->H p=none->OV G (Op O p) H' p (.lst (ds++es))->Q (.ref p) H'
theorem op_catN:OpR X (binaryOp .Add) (rCatN (gx X)):=by
 intro pins s σ H x y v u Q I rx ry h
 obtain ⟨O,ds,es,m,hx,hy,hz,q⟩:=h
 obtain ⟨a,xs,rfl,ha,hd⟩:=dw_lst hx
 obtain ⟨b,ys,rfl,hb,he⟩:=dw_lst hy
 cases rx
 cases ry
 obtain ⟨its,r1,p1,_⟩:=I.list ha
 obtain ⟨its2,r2,p2,_⟩:=I.list hb
 have l1:=dvs_len hd
 have l2:=dvs_len he
 have k1:=r1.length
 have k2:=r2.length
 obtain ⟨⟨cls,dd,data,sl⟩,ho,hc,n,hdt⟩:=id p1.isList
 obtain ⟨⟨cls2,dd2,data2,sl2⟩,ho2,hc2,n2,hd2⟩:=id p2.isList
 simp only at hc hdt hc2 hd2
 subst hc hdt hc2 hd2
 refine concat_meets ⟨_,ho,rfl⟩ ⟨_,ho2,rfl⟩ noFill_list_add seq_list_add PySem.F.slot_list_add PySem.F.entry_list_add (PySem.F.args_list_add_2 _ _) (list_addW a b its.toArray its2.toArray n n2 dd dd2 sl sl2 (by simp; omega)) ⟨ho,ho2,?_⟩
 rw [show its.toArray++its2.toArray=(its++its2).toArray by simp]
 exact fin_lst (tk:=s.toks) I m (dvs_app hd he) (r1.append r2) (by rw [List.length_append]; omega) (fun b o e=>Heap.get?_push_of_some _ e) ⟨0,Heap.get?_push_size _ rfl⟩ q
theorem op_catTu:OpR X (binaryOp .Add) (fun x y H Q=>∃O ds es,DW (gx X) O H x (.tup ds)/\DW (gx X) O H y (.tup es)/\ds.length+es.length<=sizeLine/\∀v H',Same H H'->DV (gx X) O H' v (.tup (ds++es))->Q v H'):=by
 intro pins s σ H x y v u Q I rx ry h
 obtain ⟨O,ds,es,hx,hy,hz,q⟩:=h
 obtain ⟨a,xs,rfl,ha,hd⟩:=dw_tupU hx
 obtain ⟨b,ys,rfl,hb,he⟩:=dw_tupU hy
 have l1:=dvs_len hd
 have l2:=dvs_len he
 by_cases hx0:xs=[]
 ·subst hx0
  cases hd
  cases rx
  cases ry
  obtain ⟨its,r1,p1,_⟩:=I.tuple ha.sq
  obtain ⟨its2,r2,p2,_⟩:=I.tuple hb.sq
  cases r1
  obtain ⟨⟨cls,dd,data,sl⟩,ho,hc,n,hdt⟩:=id p1
  obtain ⟨⟨cls2,dd2,data2,sl2⟩,ho2,hc2,n2,hd2⟩:=id p2
  simp only at hc hdt hc2 hd2
  subst hc hdt hc2 hd2
  exact concat_meets ⟨_,ho,rfl⟩ ⟨_,ho2,rfl⟩ noFill_tuple_add seq_tuple_add PySem.F.slot_tuple_add PySem.F.entry_tuple_add (PySem.F.args_tuple_add_2 _ _)
   (tuple_addW0 a b ([]:List Value).toArray its2.toArray n n2 dd dd2 sl sl2 (by rfl)) ⟨ho,ho2,⟨.ref b,H,I,rfl,q _ _ (Same.refl _) (.tup hb he)⟩⟩
 ·refine op_catT pins s σ H _ _ v u Q I rx ry ⟨a,b,xs,ys,rfl,rfl,ha.sq,hb.sq,hx0,by omega,fun z=>?_,fun z p hp=>?_⟩
  ·subst z
   cases he
   exact q _ _ (Same.refl _) (by rw [List.append_nil]; exact .tup ha hd)
  ·exact q _ _ (same_new hp _) (.tup (SqU.of upd_same) ((dvs_app hd he).mono (same_new hp _)))
theorem op_gAdd:OpR X (binaryOp .Add) (rG (gx X) gAdd):=by
 intro pins s σ H x y v u Q I rx ry h
 obtain ⟨O,d,e,r,m,hx,hy,hr,q⟩:=h
 match d,e,hr with
 | .int i,.int j,hr=>
  cases hr
  exact op_add pins s σ H x y v u Q I rx ry ⟨i,j,dw_int hx,dw_int hy,q _ _ (Same.refl _) (.int _)⟩
 | .str i,.str j,hr=>
  obtain ⟨z,rfl⟩:=oif hr
  exact op_add_str pins s σ H x y v u Q I rx ry ⟨i,j,dw_str hx,dw_str hy,z,q _ _ (Same.refl _) (.str _)⟩
 | .lst ds,.lst es,hr=>
  obtain ⟨z,rfl⟩:=oif hr
  exact op_catN pins s σ H x y v u Q I rx ry ⟨O,ds,es,m,hx,hy,z,new_dv m q⟩
 | .tup ds,.tup es,hr=>
  obtain ⟨z,rfl⟩:=oif hr
  exact op_catTu pins s σ H x y v u Q I rx ry ⟨O,ds,es,hx,hy,z,q⟩
theorem op_gSub:OpR X (binaryOp .Sub) (rG (gx X) gSub):=by
 intro pins s σ H x y v u Q I rx ry h
 obtain ⟨O,d,e,r,m,hx,hy,hr,q⟩:=h
 match d,e,hr with
 | .int i,.int j,hr=>
  cases hr
  exact op_sub pins s σ H x y v u Q I rx ry ⟨i,j,dw_int hx,dw_int hy,q _ _ (Same.refl _) (.int _)⟩
theorem op_gMul:OpR X (binaryOp .Mult) (rG (gx X) gMul):=by
 intro pins s σ H x y v u Q I rx ry h
 obtain ⟨O,d,e,r,m,hx,hy,hr,q⟩:=h
 match d,e,hr with
 | .int i,.int j,hr=>
  obtain ⟨z,rfl⟩:=oif hr
  exact op_mulB pins s σ H x y v u Q I rx ry ⟨i,j,dw_int hx,dw_int hy,z,q _ _ (Same.refl _) (.int _)⟩
theorem op_gDiv:OpR X (binaryOp .FloorDiv) (rG (gx X) gDiv):=by
 intro pins s σ H x y v u Q I rx ry h
 obtain ⟨O,d,e,r,m,hx,hy,hr,q⟩:=h
 match d,e,hr with
 | .int i,.int j,hr=>
  obtain ⟨z,rfl⟩:=oif hr
  refine op_fdivB pins s σ H x y v u Q I rx ry ⟨i,j,dw_int hx,dw_int hy,z,?_⟩
  have e:i.fdiv j=dvI i j:=by
   unfold dvI
   split
   ·rw [Int.fdiv_eq_ediv_of_nonneg i (by omega)]
   ·rfl
  show Q (.int (i.fdiv j)) H
  rw [e]
  exact q _ _ (Same.refl _) (.int _)
theorem op_gMod:OpR X (binaryOp .Mod) (rG (gx X) gMod):=by
 intro pins s σ H x y v u Q I rx ry h
 obtain ⟨O,d,e,r,m,hx,hy,hr,q⟩:=h
 match d,e,hr with
 | .int i,.int j,hr=>
  obtain ⟨z,rfl⟩:=oif hr
  refine op_modN pins s σ H x y v u Q I rx ry ⟨i,j,dw_int hx,dw_int hy,z,?_⟩
  have e:i.fmod j=mdI i j:=by
   unfold mdI
   split
   ·rw [Int.fmod_eq_emod_of_nonneg i (by omega)]
   ·rfl
  show Q (.int (i.fmod j)) H
  rw [e]
  exact q _ _ (Same.refl _) (.int _)
theorem op_gPow:OpR X (binaryOp .Pow) (rG (gx X) gPow):=by
 intro pins s σ H x y v u Q I rx ry h
 obtain ⟨O,d,e,r,m,hx,hy,hr,q⟩:=h
 match d,e,hr with
 | .int i,.int j,hr=>
  obtain ⟨z,rfl⟩:=oif hr
  exact op_pow pins s σ H x y v u Q I rx ry ⟨i,j,dw_int hx,dw_int hy,z,q _ _ (Same.refl _) (.int _)⟩
theorem un_gNeg:UnR X (unaryOp .USub) (rG1 (gx X) gNeg):=by
 intro pins s σ H x v Q I rx h
 obtain ⟨O,d,r,m,hx,hr,q⟩:=h
 match d,hr with
 | .int i,hr=>
  cases hr
  exact un_neg pins s σ H x v Q I rx ⟨i,dw_int hx,q _ _ (Same.refl _) (.int _)⟩
mutual
noncomputable def toPy:D->Option PyData
 | .non=>some .none
 | .bl b=>some (.bool b)
 | .int i=>some (.int i)
 | .str x=>some (.str x)
 | .tup xs=>(toPys xs).map .tuple
 | .lst xs=>(toPys xs).map .list
 | .exc _=>none
 | .dct _ _=>none
 | .dcu _ _=>none
 | .adr _=>none
 | .ins _ _ _=>none
 | .dcf _ _=>none
noncomputable def toPys:List D->Option (List PyData)
 |[]=>some []
 |d::ds=>(toPy d).bind fun p=>(toPys ds).map fun ps=>p::ps
end
mutual
theorem toPy_dv {G:Gx}{O:Addr->Prop}{H:Hp}:∀{v:V} {d:D} {p:PyData},DV G O H v d->toPy d=some p->Hd.DV G.K H v p
 |_,_,_,.non,e=>by cases e; exact .non
 |_,_,_,.bl b,e=>by cases e; exact .bl b
 |_,_,_,.int i,e=>by cases e; exact .int i
 |_,_,_,.str x,e=>by cases e; exact .str x
 |_,_,_,.exc _ _,e=>by cases e
 |_,_,_,.tup h hs,e=>by
  obtain ⟨ps,e1,rfl⟩:=omap (by simpa [toPy] using e)
  exact .tup h.sq (toPys_dv hs e1)
 |_,_,_,.lst h hs,e=>by
  obtain ⟨ps,e1,rfl⟩:=omap (by simpa [toPy] using e)
  exact .lst h.sq (toPys_dv hs e1)
 |_,_,_,.dct _ _ _ _ _,e=>by cases e
 |_,_,_,.dcu _ _ _ _ _,e=>by cases e
 |_,_,_,.adr _,e=>by cases e
 |_,_,_,.ins _ _ _ _ _ _,e=>by cases e
 |_,_,_,.dcf _ _ _ _,e=>by cases e
theorem toPys_dv {G:Gx}{O:Addr->Prop}{H:Hp}:∀{vs:List V} {ds:List D} {ps:List PyData},DVs G O H vs ds->toPys ds=some ps->Hd.DVs G.K H vs ps
 |_,_,_,.nil,e=>by cases e; exact .nil
 |_,_,_,.cons (d:=d) (ds:=ds) h hs,e=>by
  unfold toPys at e
  cases e1:toPy d with
  |none=>rw [e1] at e; cases e
  |some p=>
   rw [e1] at e
   obtain ⟨ps,e2,rfl⟩:=omap e
   exact .cons (toPy_dv h e1) (toPys_dv hs e2)
end
theorem toPy_dw {G:Gx}{O:Addr->Prop}{H:Hp}{v:V}{d:D}{p:PyData}(h:DW G O H v d)(e:toPy d=some p):Hd.DV G.K H v p:=toPy_dv h.any e
noncomputable def eqDeep (d e:D):Option Bool:=match toPy d,toPy e with
 |some p,some q=>if SeqAt.shaped p=true/\SeqAt.shaped q=true then some (PyData.eqv p q) else none
 |_,_=>none
noncomputable def gEq:D->D->Option Bool
 | .int i,.int j=>some (decide (i=j))
 | .str i,.str j=>some (decide (i=j))
 | .bl i,.bl j=>some (decide (i=j))
 | .non,.non=>some true
 |d,e=>eqDeep d e
noncomputable def gNe (d e:D):Option Bool:=(gEq d e).map (!·)
theorem eqDeep_is {d e:D}{b:Bool}(h:eqDeep d e=some b):∃p q,toPy d=some p/\toPy e=some q/\SeqAt.shaped p=true/\SeqAt.shaped q=true/\PyData.eqv p q=b:=by
 unfold eqDeep at h
 cases e1:toPy d with
 |none=>rw [e1] at h; cases h
 |some p=>
  cases e2:toPy e with
  |none=>rw [e1,e2] at h; cases h
  |some q=>
   rw [e1,e2] at h
   obtain ⟨⟨z1,z2⟩,rfl⟩:=oif h
   exact ⟨p,q,rfl,rfl,z1,z2,rfl⟩
theorem gEq_cases {d e:D}{b:Bool}(h:gEq d e=some b):(∃i j,d=.int i/\e=.int j/\b=decide (i=j))\/(∃i j,d=.str i/\e=.str j/\b=decide (i=j))\/(∃i j,d=.bl i/\e=.bl j/\b=decide (i=j))\/(d=.non/\e=.non/\b=true)\/eqDeep d e=some b:=by
 unfold gEq at h
 split at h
 ·cases h; exact .inl ⟨_,_,rfl,rfl,rfl⟩
 ·cases h; exact .inr (.inl ⟨_,_,rfl,rfl,rfl⟩)
 ·cases h; exact .inr (.inr (.inl ⟨_,_,rfl,rfl,rfl⟩))
 ·cases h; exact .inr (.inr (.inr (.inl ⟨rfl,rfl,rfl⟩)))
 ·exact .inr (.inr (.inr (.inr h)))
theorem op_gEq (hu:X.A.units+64<cLine):OpR X (compareOp .Eq) (rGB (gx X) gEq):=by
 intro pins s σ H x y v u Q I rx ry h
 obtain ⟨O,d,e,r,m,hx,hy,hr,q⟩:=h
 rcases gEq_cases hr with ⟨i,j,rfl,rfl,rfl⟩ | ⟨i,j,rfl,rfl,rfl⟩ | ⟨i,j,rfl,rfl,rfl⟩ | ⟨rfl,rfl,rfl⟩ | h
 ·cases dw_int hx; cases dw_int hy
  exact op_eq pins s σ H _ _ v u Q I rx ry ⟨rfl,by simpa using q⟩
 ·cases dw_str hx; cases dw_str hy
  exact op_eq pins s σ H _ _ v u Q I rx ry ⟨rfl,by simpa using q⟩
 ·cases dw_bl hx; cases dw_bl hy
  exact op_eq pins s σ H _ _ v u Q I rx ry ⟨rfl,by simpa using q⟩
 ·cases dw_non hx; cases dw_non hy
  exact op_eq pins s σ H _ _ v u Q I rx ry ⟨rfl,by simpa using q⟩
 ·obtain ⟨p,p',e1,e2,z1,z2,rfl⟩:=eqDeep_is h
  exact op_eqD hu pins s σ H x y v u Q I rx ry ⟨p,p',toPy_dw hx e1,toPy_dw hy e2,z1,z2,q⟩
theorem op_gNe (hu:X.A.units+64<cLine):OpR X (compareOp .NotEq) (rGB (gx X) gNe):=by
 intro pins s σ H x y v u Q I rx ry h
 obtain ⟨O,d,e,r,m,hx,hy,hr,q⟩:=h
 obtain ⟨c,hc,rfl⟩:=omap hr
 rcases gEq_cases hc with ⟨i,j,rfl,rfl,rfl⟩ | ⟨i,j,rfl,rfl,rfl⟩ | ⟨i,j,rfl,rfl,rfl⟩ | ⟨rfl,rfl,rfl⟩ | h
 ·cases dw_int hx; cases dw_int hy
  exact op_ne pins s σ H _ _ v u Q I rx ry ⟨rfl,by simpa using q⟩
 ·cases dw_str hx; cases dw_str hy
  exact op_ne pins s σ H _ _ v u Q I rx ry ⟨rfl,by simpa using q⟩
 ·cases dw_bl hx; cases dw_bl hy
  exact op_ne pins s σ H _ _ v u Q I rx ry ⟨rfl,by simpa using q⟩
 ·cases dw_non hx; cases dw_non hy
  exact op_ne pins s σ H _ _ v u Q I rx ry ⟨rfl,by simpa using q⟩
 ·obtain ⟨p,p',e1,e2,z1,z2,rfl⟩:=eqDeep_is h
  exact op_neD hu pins s σ H x y v u Q I rx ry ⟨p,p',toPy_dw hx e1,toPy_dw hy e2,z1,z2,q⟩
noncomputable def intL:List D->Option (List Int)
 |[]=>some []
 | .int i::ds=>(intL ds).map (i::·)
 |_::_=>none
theorem intL_dv {G:Gx}{O:Addr->Prop}{H:Hp}:∀{vs:List V} {ds:List D} {ns:List Int},DVs G O H vs ds->intL ds=some ns->vs=ns.map V.int
 |_,_,_,.nil,e=>by cases e; rfl
 |_,_,_,.cons (d:=d) h hs,e=>by
  cases d with
  |int i=>
   obtain ⟨ns,e1,rfl⟩:=omap (by simpa [intL] using e)
   cases h
   rw [intL_dv hs e1]
   rfl
  |_=>cases e
noncomputable def gLt:D->D->Option Bool
 | .int i,.int j=>some (decide (i<j))
 | .tup a,.tup b=>match intL a,intL b with
  |some ns,some ms=>some (HT.lexLt ns ms)
  |_,_=>none
 |_,_=>none
noncomputable def gLe:D->D->Option Bool
 | .int i,.int j=>some (decide (i<=j))
 |_,_=>none
noncomputable def gGt:D->D->Option Bool
 | .int i,.int j=>some (decide (j<i))
 |_,_=>none
theorem op_gLt (hu:X.A.units+64<cLine):OpR X (compareOp .Lt) (rGB (gx X) gLt):=by
 intro pins s σ H x y v u Q I rx ry h
 obtain ⟨O,d,e,r,m,hx,hy,hr,q⟩:=h
 match d,e,hr with
 | .int i,.int j,hr=>cases hr; exact op_lt pins s σ H x y v u Q I rx ry ⟨i,j,dw_int hx,dw_int hy,q⟩
 | .tup a,.tup b,hr=>
  unfold gLt at hr
  cases e1:intL a with
  |none=>simp only [e1] at hr; cases hr
  |some ns=>
   cases e2:intL b with
   |none=>simp only [e1,e2] at hr; cases hr
   |some ms=>
    simp only [e1,e2] at hr
    cases hr
    obtain ⟨p,xs,rfl,hp,hd⟩:=dw_tup hx
    obtain ⟨p',ys,rfl,hp',hd'⟩:=dw_tup hy
    exact op_ltT (by omega) pins s σ H _ _ v u Q I rx ry ⟨p,p',ns,ms,rfl,rfl,by rw [← intL_dv hd e1]; exact hp,by rw [← intL_dv hd' e2]; exact hp',q⟩
theorem op_gLe:OpR X (compareOp .LtE) (rGB (gx X) gLe):=by
 intro pins s σ H x y v u Q I rx ry h
 obtain ⟨O,d,e,r,m,hx,hy,hr,q⟩:=h
 match d,e,hr with
 | .int i,.int j,hr=>cases hr; exact op_le pins s σ H x y v u Q I rx ry ⟨i,j,dw_int hx,dw_int hy,q⟩
theorem op_gGt:OpR X (compareOp .Gt) (rGB (gx X) gGt):=by
 intro pins s σ H x y v u Q I rx ry h
 obtain ⟨O,d,e,r,m,hx,hy,hr,q⟩:=h
 match d,e,hr with
 | .int i,.int j,hr=>cases hr; exact op_gt pins s σ H x y v u Q I rx ry ⟨i,j,dw_int hx,dw_int hy,q⟩
noncomputable def isNon:D->Bool
 | .non=>true
 |_=>false
noncomputable def gIs:D->D->Option Bool
 |d,.non=>some (isNon d)
 | .bl i,.bl j=>some (decide (i=j))
 |_,_=>none
noncomputable def gIsnt (d e:D):Option Bool:=(gIs d e).map (!·)
theorem dv_non {G:Gx}{O:Addr->Prop}{H:Hp}{v:V}{d:D}(h:DW G O H v d):decide (v=V.non)=isNon d:=by
 rcases h with h | ⟨a,rfl,_,h⟩
 ·cases h <;> rfl
 ·cases d <;> first | rfl | exact h.elim
theorem op_gIs:OpR X (compareOp .Is) (rGB (gx X) gIs):=by
 intro pins s σ H x y v u Q I rx ry h
 obtain ⟨O,d,e,r,m,hx,hy,hr,q⟩:=h
 unfold gIs at hr
 split at hr
 ·cases hr
  exact op_isN pins s σ H x y v u Q I rx ry ⟨dw_non hy,by rw [dv_non hx]; exact q⟩
 ·cases hr
  cases dw_bl hx; cases dw_bl hy
  exact op_isB pins s σ H _ _ v u Q I rx ry ⟨_,_,rfl,rfl,q⟩
 ·cases hr
theorem op_gIsnt:OpR X (compareOp .IsNot) (rGB (gx X) gIsnt):=by
 intro pins s σ H x y v u Q I rx ry h
 obtain ⟨O,d,e,r,m,hx,hy,hr,q⟩:=h
 obtain ⟨c,hc,rfl⟩:=omap hr
 unfold gIs at hc
 split at hc
 ·cases hc
  exact op_notN pins s σ H x y v u Q I rx ry ⟨dw_non hy,by rw [dv_non hx]; exact q⟩
 ·cases hc
  cases dw_bl hx; cases dw_bl hy
  exact op_isnotB pins s σ H _ _ v u Q I rx ry ⟨_,_,rfl,rfl,q⟩
 ·cases hc
end
open PySem PySem.Spec PyProof.Rows L2 Hd
section
variable {X:Cx}{E:XK}{e a b:Expr}{es:List Expr}{f fa:Me->Res D}{fs:Me->Res (List D)}{pos p:Pos}
noncomputable def gIx:D->D->Option D
 | .lst ds,.int i=>atI ds i
 | .tup ds,.int i=>atI ds i
 | .str z,.int i=>if z.length<=sizeLine then (atI z.cps.toList i).map fun c=>.str ⟨#[c]⟩ else none
 |_,_=>none
theorem atI_dvs {G:Gx}{O:Addr->Prop}{H:Hp}{xs:List V}{ds:List D}{i:Int}{d:D}(h:DVs G O H xs ds)(e:atI ds i=some d):∃x,atI xs i=some x/\DV G O H x d:=by
 unfold atI at e ⊢
 rw [dvs_len h]
 cases q:ixN ds.length i with
 |none=>rw [q] at e; cases e
 |some j=>rw [q] at e; exact dvs_at h e
theorem ix_g:IxR X (rG (gx X) gIx):=by
 intro value slice pins s σ H x y v u Q I rx ry h hs
 obtain ⟨O,d,e,r,m,hx,hy,hr,q⟩:=h
 match d,e,hr with
 | .lst ds,.int i,hr=>
  cases dw_int hy
  obtain ⟨p,xs,rfl,hp,hd⟩:=dw_lst hx
  obtain ⟨z,hz,dz⟩:=atI_dvs hd hr
  exact ix_list value slice pins s σ H _ _ v u Q I rx ry ⟨p,xs,i,z,rfl,rfl,hp,hz,q _ _ (Same.refl _) dz⟩ hs
 | .tup ds,.int i,hr=>
  cases dw_int hy
  obtain ⟨p,xs,rfl,hp,hd⟩:=dw_tup hx
  obtain ⟨z,hz,dz⟩:=atI_dvs hd hr
  exact ix_tup value slice pins s σ H _ _ v u Q I rx ry ⟨p,xs,i,z,rfl,rfl,hp,hz,q _ _ (Same.refl _) dz⟩ hs
 | .str z,.int i,hr=>
  cases dw_int hy
  cases dw_str hx
  have hr':(if z.length<=sizeLine then (atI z.cps.toList i).map fun c=>D.str ⟨#[c]⟩ else none)=some r:=hr
  by_cases hz:z.length<=sizeLine
  ·rw [if_pos hz] at hr'
   obtain ⟨c,hc,rfl⟩:=omap hr'
   exact ix_str value slice pins s σ H _ _ v u Q I rx ry ⟨z,i,c,rfl,rfl,hz,hc,q _ _ (Same.refl _) (.str _)⟩ hs
  ·rw [if_neg hz] at hr'; cases hr'
noncomputable def tO (G:Gx)(E:XK)(f:Me->Res (Option Int)):TO:=fun σ H Q=>∃O0 M0 H0 ow m,Rel G O0 M0 H0 ow σ H m/\Pu G E (f m) H fun o=>∀H',Same H H'->Q o H'
noncomputable abbrev FO (X:Cx)(E:XK)(e:Option Expr)(f:Me->Res (Option Int)):Prop:=PO X e (tO (gx X) E f)
theorem po_weak {e:Option Expr}{T T':TO}(h:PO X e T)(k:∀σ H Q,T' σ H Q->T σ H Q):PO X e T':=fun pins s σ H Q I q=>h pins s σ H Q I (k σ H Q q)
noncomputable def fO0:Me->Res (Option Int):=fun _=>.ok none
noncomputable def fO1 (f:Me->Res D):Me->Res (Option Int):=fun m=>(f m).bind fun d=>match d with
 | .int i=>.ok (some i)
 |_=>.stuck
theorem fo_none:FO X E none fO0:=po_weak po_none fun σ H Q hE=>xq5 hE fun O0 M0 H0 ow m R q=>q H (Same.refl _)
theorem fo_some (h:FB X E e f):FO X E (some e) (fO1 f):=po_weak (po_some h) fun σ H Q hE=>xq5 hE fun O0 M0 H0 ow m R q=>⟨O0,M0,H0,ow,m,R,q.bind.imp (Same.refl _) fun d q v H' g hv=>by
 cases d with
 |int i=>cases dw_int hv; exact ⟨i,rfl,q H' g⟩
 |_=>exact q.elim⟩
noncomputable def cut {α:Type}(xs:List α)(lo hi:Option Int):List α:=(xs.drop (HT.sIx xs.length 0 lo)).take (HT.sIx xs.length xs.length hi - HT.sIx xs.length 0 lo)
noncomputable def gSl:D->Option Int->Option Int->Option D
 | .lst ds,lo,hi=>some (.lst (cut ds lo hi))
 | .tup ds,lo,hi=>if HT.sIx ds.length 0 lo=0/\HT.sIx ds.length ds.length hi=ds.length then none else some (.tup (cut ds lo hi))
 | .str z,lo,hi=>if z.length<=sizeLine then some (.str (Txt.slice z lo hi)) else none
 |_,_,_=>none
noncomputable def rSl (G:Gx):V->Option Int->Option Int->Hp->VK->Prop:=fun x lo hi H Q=>∃O d r,(∀b,O b->MutK (H b))/\DW G O H x d/\gSl d lo hi=some r/\∀v H',Same H H'->DV G O H' v r->Q v H'
noncomputable def gSlL:D->Option Int->Option Int->Option D
 | .lst ds,lo,hi=>some (.lst (cut ds lo hi))
 |_,_,_=>none
noncomputable def rSlN (G:Gx):V->Option Int->Option Int->Hp->VK->Prop:=fun x lo hi H Q=>∃O d r,(∀b,O b->MutK (H b))/\DW G O H x d/\gSlL d lo hi=some r/\∀p H',Same H H'->H p=none->OV G (Op O p) H' p r->Q (.ref p) H'
theorem cut_dvs {G:Gx}{O:Addr->Prop}{H:Hp}{xs:List V}{ds:List D}{lo hi:Option Int}(h:DVs G O H xs ds):DVs G O H (cutV xs lo hi) (cut ds lo hi):=by
 unfold cutV cut
 rw [dvs_len h]
 exact dvs_take _ (dvs_drop _ h)
theorem sl_gN:SlR X (rSlN (gx X)):=by
 intro pins s σ H x v vl vu lo hi sl Q I rx hs pl pu h
 obtain ⟨O,d,r,m,hx,hr,q⟩:=h
 match d,hr with
 | .lst ds,hr=>
  cases hr
  obtain ⟨p,xs,rfl,hp,hd⟩:=dw_lst hx
  exact sl_list pins s σ H _ v vl vu lo hi sl Q I rx hs pl pu ⟨p,xs,rfl,hp,fun p hp'=>q p _ (same_new hp' _) hp' ⟨_,upd_same,((cut_dvs hd).anti fun b z=>z.elim .inl fun e=>.inr (by rw [e]; exact hp')).mono (same_new hp' _)⟩⟩
theorem partOf {u:Value}{o:Option Int}(h:IsPart u o):∃l:Option (Int×Tok),u=partValue l/\l.map (·.1)=o:=by
 cases h with
 |none=>exact ⟨none,rfl,rfl⟩
 |int i t=>exact ⟨some (i,t),rfl,rfl⟩
theorem sl_g:SlR X (rSl (gx X)):=by
 intro pins s σ H x v vl vu lo hi sl Q I rx hs pl pu h
 obtain ⟨O,d,r,m,hx,hr,q⟩:=h
 match d,hr with
 | .lst ds,hr=>exact sl_gN pins s σ H x v vl vu lo hi sl Q I rx hs pl pu ⟨O,.lst ds,r,m,hx,hr,new_dv m q⟩
 | .tup ds,hr=>
  obtain ⟨p,xs,rfl,hp,hd⟩:=dw_tup hx
  have hr':(if HT.sIx ds.length 0 lo=0/\HT.sIx ds.length ds.length hi=ds.length then none else some (D.tup (cut ds lo hi)))=some r:=hr
  by_cases z:HT.sIx ds.length 0 lo=0/\HT.sIx ds.length ds.length hi=ds.length
  ·rw [if_pos z] at hr'; cases hr'
  ·rw [if_neg z] at hr'
   cases hr'
   exact sl_tup pins s σ H _ v vl vu lo hi sl Q I rx hs pl pu ⟨p,xs,rfl,hp,by rw [dvs_len hd]; exact z,fun p hp'=>q _ _ (same_new hp' _) (.tup (SqU.of upd_same) ((cut_dvs hd).mono (same_new hp' _)))⟩
 | .str z,hr=>
  cases dw_str hx
  obtain ⟨t,rfl⟩:=rx
  obtain ⟨hz,rfl⟩:=oif hr
  obtain ⟨l,rfl,rfl⟩:=partOf pl
  obtain ⟨u,rfl,rfl⟩:=partOf pu
  refine ⟨"str",_,PySem.F.slot_str_getitem.lookup,typeIs_str _ _ _,wpAny_getItem_str_slice (l:=l) (u:=u) (st:=none) hs rfl (post_val_or_str ⟨Nat.le_trans (Txt.slice_le z _ _) hz,fun t' k=>fin_str (tk:=k) I q⟩)⟩
noncomputable def fSl (f:Me->Res D)(lo hi:Me->Res (Option Int)):Me->Res D:=fun m=>(f m).bind fun d=>(lo m).bind fun l=>(hi m).bind fun u=>ofO (gSl d l u)
variable {lo hi:Option Expr}{fl fh:Me->Res (Option Int)}{p2:Pos}
theorem fe_slice (he:FB X E e f)(hl:FO X E lo fl)(hu:FO X E hi fh):FE X E (.Subscript e (.Slice lo hi none p2) pos) (fSl f fl fh):=
 pe_weak (pe_slice sl_g he hl hu) fun σ H Q hE=>xq5 hE fun O0 M0 H0 ow m R q=>⟨O0,M0,H0,ow,m,R,q.bind.imp (Same.refl _) fun d q v H1 g1 hv=>⟨O0,M0,H0,ow,m,R.mono g1,q.bind.imp g1 fun l q H2 g2=>⟨O0,M0,H0,ow,m,R.mono (g1.trans g2),q.bind.imp (g1.trans g2) fun u q H3 g3=>by
  obtain ⟨r,hr,k⟩:=q.ofO
  exact ⟨_,d,r,(R.mono ((g1.trans g2).trans g3)).mutk,hv.mono (g2.trans g3),hr,fun v H' g d=>k v H' (((g1.trans g2).trans g3).trans g) d⟩⟩⟩⟩
noncomputable def gCatL:D->D->Option D
 | .lst a,.lst b=>if a.length+b.length<=sizeLine then some (.lst (a++b)) else none
 |_,_=>none
theorem fn_cat {fb:Me->Res D}(ha:FB X E a fa)(hb:FB X E b fb):FN X E (.BinOp a .Add b pos) (fBin gCatL fa fb):=
 pe_weak (pe_op op_catN ha hb) fun σ H Q hE=>xq5 hE fun O0 M0 H0 ow m R q=>two R (K:=fun z H1=>Same H H1/\∀p H',Same H1 H'->H1 p=none->OV (gx X) (Op (Ow O0 ow) p) H' p z->Q (.ref p) H') (q.imp (Same.refl _) fun _ k=>⟨Same.refl _,k⟩) (fun _ _ k g=>⟨k.1.trans g,fun p H' g' n d=>k.2 p H' (g.trans g') (g.free n) d⟩) fun x y d e H' g hx hy q' R'=>by
  obtain ⟨r,hr,k⟩:=q'.ofO
  match d,e,hr with
  | .lst ds,.lst es,hr=>
   obtain ⟨z,rfl⟩:=oif hr
   exact ⟨_,ds,es,R'.mutk,hx,hy,z,k.2⟩
noncomputable def gLen:List D->Option D
 |[.lst ds]=>some (.int ds.length)
 |[.tup ds]=>some (.int ds.length)
 |[.str z]=>if z.length<=sizeLine then some (.int z.length) else none
 |[.dct ks _]=>some (.int ks.length)
 |_=>none
theorem dws1 {G:Gx}{O:Addr->Prop}{H:Hp}{vs:List V}{d:D}(h:DWs G O H vs [d]):∃v,vs=[v]/\DW G O H v d:=by
 match h with
 | .cons a .nil=>exact ⟨_,rfl,a⟩
theorem call_gLen:CallR X (.builtin "len") (rGC (gx X) gLen):=by
 intro pins s σ H xs us Q I r h
 obtain ⟨O,ds,d,m,hx,hr,q⟩:=h
 match ds,hr with
 |[.lst ds],hr=>
  cases hr
  obtain ⟨v,rfl,hv⟩:=dws1 hx
  obtain ⟨p,xs,rfl,hp,hd⟩:=dw_lst hv
  exact call_len_seq pins s σ H _ us Q I r ⟨p,xs,rfl,.inl hp,by rw [dvs_len hd]; exact q _ _ (Same.refl _) (.int _)⟩
 |[.tup ds],hr=>
  cases hr
  obtain ⟨v,rfl,hv⟩:=dws1 hx
  obtain ⟨p,xs,rfl,hp,hd⟩:=dw_tup hv
  exact call_len_seq pins s σ H _ us Q I r ⟨p,xs,rfl,.inr hp,by rw [dvs_len hd]; exact q _ _ (Same.refl _) (.int _)⟩
 |[.str z],hr=>
  obtain ⟨hz,rfl⟩:=oif hr
  obtain ⟨v,rfl,hv⟩:=dws1 hx
  cases dw_str hv
  exact call_len_str pins s σ H _ us Q I r ⟨z,rfl,hz,q _ _ (Same.refl _) (.int _)⟩
 |[.dct ks vs],hr=>
  cases hr
  obtain ⟨v,rfl,hv⟩:=dws1 hx
  obtain ⟨p,kvs,ws,rfl,hp,e1,e2,hd⟩:=dw_dct hv
  exact call_lenD pins s σ H _ us Q I r ⟨p,kvs,rfl,hp,by rw [show kvs.length=ks.length by rw [← e1,List.length_map]]; exact q _ _ (Same.refl _) (.int _)⟩
noncomputable def gAbs:List D->Option D
 |[.int i]=>some (.int (if i<0 then -i else i))
 |_=>none
theorem call_gAbs:CallR X (.builtin "abs") (rGC (gx X) gAbs):=by
 intro pins s σ H xs us Q I r h
 obtain ⟨O,ds,d,m,hx,hr,q⟩:=h
 match ds,hr with
 |[.int i],hr=>
  cases hr
  obtain ⟨v,rfl,hv⟩:=dws1 hx
  cases dw_int hv
  exact call_abs pins s σ H _ us Q I r ⟨i,rfl,q _ _ (Same.refl _) (.int _)⟩
noncomputable def gTuple:List D->Option D
 |[.lst ds]=>some (.tup ds)
 |[.tup ds]=>some (.tup ds)
 |_=>none
noncomputable def gList:List D->Option D
 |[.lst ds]=>some (.lst ds)
 |[.tup ds]=>some (.lst ds)
 |_=>none
theorem call_gList:CallR X (.type "list") (rGCN (gx X) gList):=by
 intro pins s σ H xs us Q I r h
 obtain ⟨O,ds,d,m,hx,hr,q⟩:=h
 have go:∀{p:Addr} {ys:List V} {ds:List D},(SqL X.K H p ys\/SqT X.K H p ys)->DVs (gx X) O H ys ds->(∀p H',Same H H'->H p=none->OV (gx X) (Op O p) H' p (.lst ds)->Q (.ref p) H')->Vals [V.ref p] us->wpAny (model X.prog X.w) X.A (call (.type "list") us) (EP X pins σ Q) X.xe s:=
  fun hp hd q r=>call_list_of pins s σ H _ us Q I r ⟨_,_,rfl,hp,fun l hl=>q _ _ (same_new hl _) hl ⟨_,upd_same,(hd.anti fun b z=>z.elim .inl fun e=>.inr (by rw [e]; exact hl)).mono (same_new hl _)⟩⟩
 match ds,hr with
 |[.lst ds],hr=>
  cases hr
  obtain ⟨v,rfl,hv⟩:=dws1 hx
  obtain ⟨p,xs,rfl,hp,hd⟩:=dw_lst hv
  exact go (.inl hp) hd q r
 |[.tup ds],hr=>
  cases hr
  obtain ⟨v,rfl,hv⟩:=dws1 hx
  obtain ⟨p,xs,rfl,hp,hd⟩:=dw_tup hv
  exact go (.inr hp) hd q r
noncomputable def kindD:D->String
 | .non=>"NoneType"
 | .bl _=>"bool"
 | .int _=>"int"
 | .str _=>"str"
 | .tup _=>"tuple"
 | .lst _=>"list"
 | .dct _ _=>"dict"
 | .dcu _ _=>"dict"
 | .exc _=>""
 | .dcf _ _=>""
 | .adr _=>""
 | .ins _ _ _=>""
noncomputable def subT (t T:String):Bool:=t == T || (t == "bool" && T == "int")
noncomputable def kinds:List String:=["NoneType", "bool", "int", "str", "tuple", "list", "dict"]
theorem kit_eqT {K:PySem.W.Frag}{t:String}:PySem.W.kitOne K (.type t) (.type t)=some true:=by unfold PySem.W.kitOne; rw [if_pos (by simp)]
theorem kit_all {K:PySem.W.Frag}:∀t∈kinds,∀T∈kinds,PySem.W.kitOne K (.type t) (.type T)=some (subT t T):=by
 intro t ht T hT
 simp only [kinds,List.mem_cons,List.not_mem_nil,or_false] at ht hT
 rcases ht with rfl | rfl | rfl | rfl | rfl | rfl | rfl <;> rcases hT with rfl | rfl | rfl | rfl | rfl | rfl | rfl <;> first | exact kit_eqT | kernel_rfl
theorem kindD_ty {G:Gx}{O:Addr->Prop}{H:Hp}{v:V}{d:D}(h:DW G O H v d)(n:kindD d≠""):kindD d∈kinds/\TyK G.K H v (.type (kindD d)):=by
 have z:=h.any
 cases z with
 |non=>exact ⟨by simp [kindD,kinds],.of .non⟩
 |bl b=>exact ⟨by simp [kindD,kinds],.of (.bl b)⟩
 |int b=>exact ⟨by simp [kindD,kinds],.of (.int b)⟩
 |str b=>exact ⟨by simp [kindD,kinds],.of (.str b)⟩
 |exc _ _=>exact absurd rfl n
 |dcf _ _ _ _=>exact absurd rfl n
 |adr _=>exact absurd rfl n
 |ins _ _ _ _ _ _=>exact absurd rfl n
 |tup hq _=>exact ⟨by simp [kindD,kinds],.tup hq.sq⟩
 |lst hq _=>exact ⟨by simp [kindD,kinds],.lst hq.sq⟩
 |dct _ e _ _ _=>exact ⟨by simp [kindD,kinds],.of (.dK e)⟩
 |dcu _ e _ _ _=>exact ⟨by simp [kindD,kinds],.of (.dT e)⟩
noncomputable def fIsi (T:String)(f:Me->Res D):Me->Res D:=fun m=>(f m).bind fun d=>if kindD d = "" then .stuck else .ok (.bl (subT (kindD d) T))
theorem fe_isi {x y:Str}{py:Pos}{T:String}(ha:FB X E a fa)(hg:Gl X "isinstance")(hm:X.mg "isinstance" = none)(hv:bootBuiltins "isinstance" = some (.builtin "isinstance"))(hgy:Gl X y)(hmy:X.mg y=none)(hvy:bootBuiltins y=some (.type T))(hT:T∈kinds:=by decide)
  (hny:y≠"__name__":=by decide) (hdy:(y == ("__debug__" : Str))=false:=by decide)
  (he:starEach [a,.Name y py] X.env=(false,eval a X.env)::starEach [.Name y py] X.env:=by rfl) (he2:starEach [.Name y py] X.env=(false,eval (.Name y py) X.env)::starEach [] X.env:=by rfl) (hpl:(backTo pos (starEach [.Name y py] X.env)).any (·.1)=false:=by rfl):
  FE X E (.Call (.Name "isinstance" p) [a,.Name y py] [] pos) (fIsi T fa):=
 pe_weak (pe_callB call_isiK hg hm hv (pa_cons ha (pa_cons (pe_bltn (v:=.ty T) hgy hmy hvy rfl hny hdy) pa_nil he2) he) (by decide) (by decide) he hpl) fun σ H Q hE=>xq5 hE fun O0 M0 H0 ow m R q=>⟨O0,M0,H0,ow,m,R,q.bind.imp (Same.refl _) fun d q v H' g hv=>by
  by_cases n:kindD d = ""
  ·rw [if_pos n] at q; exact q.elim
  ·rw [if_neg n] at q
   obtain ⟨k1,k2⟩:=kindD_ty hv n
   exact ⟨v,.ty T,_,_,_,rfl,rfl,k2,kit_all _ k1 T hT,q _ _ g (.bl _)⟩⟩
end
open PySem PySem.Spec PyProof.Rows L2 Hd
section
variable {G:Gx}{O0 M0:Addr->Prop}{H0 H H':Hp}{ow:Os}{σ:L2.St}{m:Me}
theorem RelS.chg {i:Nat}{a:Addr}{d d':D}{s':Sl}(R:RelS G O0 M0 H0 ow σ H m)(ho:ow i=some a)(g:Kp (· = a) H H')(h:OV G (Ow O0 ow) H' a d')
  (hs:(m[i]? = some (.ow d)/\s'=.ow d')\/(m[i]? = some (.io d)/\s'=.io d')):RelS G O0 M0 H0 ow σ H' (m.set i s'):=by
 have oa:Ow O0 ow a:=.inr ⟨i,ho⟩
 have kp:Kp (Ow O0 ow) H H':=fun b u e n=>g b u e fun z=>n (z ▸ oa)
 have hi:i<m.length:=by rcases hs with ⟨e,_⟩ | ⟨e,_⟩ <;> exact get_lt e
 have ne:∀b o,H b=some o->b≠a->H' b=H b:=fun b o e n=>by rw [e]; exact g b o e n
 refine ⟨⟨by simp [R.len],fun b u e n=>?_,fun b z=>?_,fun b z=>?_,R.no0,R.inj,fun j hj=>R.out j (by simpa using hj),fun j s e=>?_⟩,nb_set R.nb fun _ z=>by rcases hs with ⟨_,w⟩ | ⟨_,w⟩ <;> (rw [w] at z; cases z)⟩
 ·refine g b u (R.keep b u e n) fun z=>?_
  subst z
  rcases hs with ⟨q,_⟩ | ⟨q,_⟩
  ·obtain ⟨a',e1,e2,_⟩:=R.slot i _ q
   rw [ho] at e1; cases e1
   rw [e2] at e; cases e
  ·obtain ⟨a',e1,e2,_⟩:=R.slot i _ q
   rw [ho] at e1; cases e1
   exact n e2
 ·by_cases q:b=a
  ·rw [q]
   have:=h.mut
   intro w
   rw [w] at this
   rcases this with ⟨_,e⟩ | ⟨_,e⟩ | ⟨_,e⟩ | ⟨_,e⟩ <;> cases e
  ·cases w:H b with
   |none=>exact absurd w (R.m0 b z)
   |some o=>rw [g b o w q]; simp
 ·by_cases q:b=a
  ·rw [q]; exact h.mut
  ·have:=R.mutk b z
   rcases this with ⟨_,e⟩ | ⟨_,e⟩ | ⟨_,e⟩ | ⟨_,e⟩
   ·rw [ne b _ e q]; exact .inl ⟨_,e⟩
   ·rw [ne b _ e q]; exact .inr (.inl ⟨_,e⟩)
   ·rw [ne b _ e q]; exact .inr (.inr (.inl ⟨_,e⟩))
   ·rw [ne b _ e q]; exact .inr (.inr (.inr ⟨_,e⟩))
 ·by_cases q:j=i
  ·subst q
   rw [List.getElem?_set_self hi] at e
   cases e
   rcases hs with ⟨q,rfl⟩ | ⟨q,rfl⟩
   ·obtain ⟨a',e1,e2,e3,_⟩:=R.slot j _ q
    rw [ho] at e1; cases e1
    exact ⟨a,ho,e2,e3,h⟩
   ·obtain ⟨a',e1,e2,e3,_⟩:=R.slot j _ q
    rw [ho] at e1; cases e1
    exact ⟨a,ho,e2,e3,h⟩
  ·rw [List.getElem?_set_ne (Ne.symm q)] at e
   have z:=R.slot j s e
   have other:∀{b:Addr} {d:D},ow j=some b->OV G (Ow O0 ow) H b d->OV G (Ow O0 ow) H' b d:=fun {b d} e1 h1=>by
    have nb:b≠a:=fun w=>q (R.inj j i b e1 (w ▸ ho))
    rcases h1.mut with ⟨_,e⟩ | ⟨_,e⟩ | ⟨_,e⟩ | ⟨_,e⟩ <;> exact h1.kp R.mutk kp (ne b _ e nb)
   cases s with
   |un=>exact z
   |fz d=>obtain ⟨b,x,e,q⟩:=z; exact ⟨b,x,e,q.kp R.mutk kp⟩
   |ow d=>obtain ⟨b,x,e,f,q'⟩:=z; exact ⟨b,x,e,f,other x q'⟩
   |io d=>obtain ⟨b,x,e,f,q'⟩:=z; exact ⟨b,x,e,f,other x q'⟩
   |bw d=>exact (R.nb j d e).elim
   |hd w b d=>obtain ⟨x,e,f,q'⟩:=z; exact ⟨x,e,f,other x q'⟩
theorem Go.chg {i:Nat}{a:Addr}{d:D}(ho:ow i=some a)(g:Kp (· = a) H H')(h:OV G (Ow O0 ow) H' a d):Go O0 ow H ow H':=
 ⟨fun b u e n=>g b u e fun z=>n (z ▸ .inr ⟨i,ho⟩),fun j b e=>.inl (.inr ⟨j,e⟩),fun b n=>by
  by_cases q:b=a
  ·rw [q]
   have:=h.mut
   intro w
   rw [w] at this
   rcases this with ⟨_,e⟩ | ⟨_,e⟩ | ⟨_,e⟩ | ⟨_,e⟩ <;> cases e
  ·cases w:H b with
   |none=>exact absurd w n
   |some o=>rw [g b o w q]; simp⟩
theorem kp_upd {a:Addr}{o:HO}:Kp (· = a) H (L2.upd H a o):=fun b u e n=>by rw [L2.upd_ne n]; exact e
noncomputable def ownL (m:Me)(i:Nat):Option (Bool×List D):=match m[i]? with
 |some (.ow (.lst ds))=>some (true,ds)
 |some (.io (.lst ds))=>some (false,ds)
 |_=>none
noncomputable def putL (m:Me)(i:Nat)(k:Bool)(ds:List D):Me:=m.set i (if k then .ow (.lst ds) else .io (.lst ds))
theorem ownL_is (R:Rel G O0 M0 H0 ow σ H m){i:Nat}{k:Bool}{ds:List D}(e:ownL m i=some (k,ds)):∃a xs,ow i=some a/\σ[i]? = some (some (.ref a))/\H a=some (.lst xs)/\DVs G (Ow O0 ow) H xs ds/\((m[i]? = some (.ow (.lst ds))/\k=true)\/(m[i]? = some (.io (.lst ds))/\k=false)):=by
 unfold ownL at e
 split at e
 ·rename_i q
  cases e
  obtain ⟨a,e1,e2,e3,xs,e4,e5⟩:=R.slot i _ q
  exact ⟨a,xs,e1,e3,e4,e5,.inl ⟨q,rfl⟩⟩
 ·rename_i q
  cases e
  obtain ⟨a,e1,e2,e3,xs,e4,e5⟩:=R.slot i _ q
  exact ⟨a,xs,e1,e3,e4,e5,.inr ⟨q,rfl⟩⟩
 ·cases e
theorem RelS.put {i:Nat}{k:Bool}{a:Addr}{ds es:List D}{ys:List V}(R:RelS G O0 M0 H0 ow σ H m)(ho:ow i=some a)(hm:(m[i]? = some (.ow (.lst ds))/\k=true)\/(m[i]? = some (.io (.lst ds))/\k=false))(hd:DVs G (Ow O0 ow) H ys es):
  RelS G O0 M0 H0 ow σ (L2.upd H a (.lst ys)) (putL m i k es)/\Go O0 ow H ow (L2.upd H a (.lst ys)):=by
 have oa:Ow O0 ow a:=.inr ⟨i,ho⟩
 have kp:Kp (Ow O0 ow) H (L2.upd H a (.lst ys)):=fun b u e n=>kp_upd b u e fun z=>n (z ▸ oa)
 have ov:OV G (Ow O0 ow) (L2.upd H a (.lst ys)) a (.lst es):=⟨ys,L2.upd_same,hd.kp R.mutk kp⟩
 refine ⟨R.chg (d:=.lst ds) (d':=.lst es) ho kp_upd ov ?_,Go.chg ho kp_upd ov⟩
 rcases hm with ⟨e,rfl⟩ | ⟨e,rfl⟩
 ·exact .inl ⟨e,rfl⟩
 ·exact .inr ⟨e,rfl⟩
end
section
variable {X:Cx}{E:XK}{e:Expr}{es:List Expr}{f:Me->Res D}{fs:Me->Res (List D)}{pos apos cpos np:Pos}{i j:Nat}{x y:Str}
noncomputable def gAppend (i:Nat)(f:Me->Res D):Me->Res (Fl×Me):=fun m=>(ofO (ownL m i)).bind fun o=>(f m).bind fun d=>if o.2.length<sizeLine then .ok (.nx,putL m i o.1 (o.2++[d])) else .stuck
theorem fs_append (i:Nat)(he:FE X E e f)(hN:X.N[i]? = some x:=by rfl)(hv:Vis X.env.scope x:=by first | exact Or.inl rfl | exact Or.inr (Or.inl rfl) | exact Or.inr (Or.inr rfl))(hd:(x == ("__debug__" : Str))=false:=by decide)(hcd:(x == ("__classdict__" : Str))=false:=by decide)
  (hbase:attributeBase (.Name x np) "append" X.env (eval (.Name x np) X.env)=eval (.Name x np) X.env:=by rfl)
  (hfew:((backTo cpos (starEach [e] X.env)).all (fun x=>!x.1) && (backToKw cpos (keywordEach [] X.env)).all (fun x=>x.1.isSome) && decide ([e].length+([]:List Keyword).length+(if ([]:List Keyword).isEmpty then 0 else 1)<30))=true:=by rfl)
  (hline:(apos.endLine == cpos.line)=true:=by rfl) (hs:starEach [e] X.env=(false,eval e X.env)::starEach [] X.env:=by rfl) (hplain:(backTo cpos (starEach [] X.env)).any (·.1)=false:=by rfl)
  (hsw:swapsWith (.Call (.Attribute (.Name x np) "append" apos) [e] [] cpos) none pos.line X.env=pure false:=by rfl):
  FS X E (.Expr (.Call (.Attribute (.Name x np) "append" apos) [e] [] cpos) pos) (gAppend i f):=
 ps_weak (ps_expr (pe_bm PySem.F.plainAttrs_list PySem.F.slot_list_append PySem.F.type_list_append mt_append (pe_var hN hv hd hcd) (pa_cons he pa_nil hs) hbase hfew hline hs hplain) hsw) fun W σ H hE=>xq5 hE fun O0 M0 H0 ow m R q=>by
  obtain ⟨o,ho,q⟩:=Ss.ofO q
  obtain ⟨k,ds⟩:=o
  obtain ⟨a,xs,e1,e2,e3,e4,e5⟩:=ownL_is R.toRel ho
  refine ⟨_,e2,.inl ⟨rfl,xs,SqL.of e3⟩,O0,M0,H0,ow,m,R.toRel,(Ss.pu R.toRel q).imp (Same.refl _) fun d q v H1 g1 hv=>?_⟩
  have R1:=R.mono g1
  by_cases hz:ds.length<sizeLine
  ·rw [if_pos hz] at q
   obtain ⟨R2,g2⟩:=R1.put (es:=ds++[d]) (ys:=xs++[v]) e1 e5 (dvs_app (e4.mono g1) (.cons hv .nil))
   exact ⟨a,xs,v,rfl,rfl,g1 _ _ e3,by rw [dvs_len e4]; exact hz,q _ _ _ R2 ((Go.refl g1).trans g2)⟩
  ·rw [if_neg hz] at q; exact q.elim
noncomputable def gSetIx (i:Nat)(fk fv:Me->Res D):Me->Res (Fl×Me):=fun m=>(fv m).bind fun d=>(ofO (ownL m i)).bind fun o=>(fk m).bind fun k=>match k with
 | .int n=>(ofO (ixN o.2.length n)).bind fun j=>.ok (.nx,putL m i o.1 (o.2.set j d))
 |_=>.stuck
end
open PySem PySem.Spec PyProof.Rows L2 Hd
noncomputable def Xs (G:Gx)(E:XK){α:Type}(O0 M0:Addr->Prop)(H0:Hp)(ow:Os)(σ:L2.St)(H:Hp)(r:Res (α×Me))(k:α->Hp->Prop):Prop:=match r with
 | .ok (a,m')=>∀H',RelS G O0 M0 H0 ow σ H' m'->Go O0 ow H ow H'->k a H'
 | .exc c=>∀C H',G.mg c=some (.ref C)->Kp M0 H0 H'->E (.ref C) none H'
 | .stuck=>False
noncomputable def tX (G:Gx)(E:XK)(f:Me->Res (D×Me)):TE:=fun σ H Q=>∃O0 M0 H0 ow m,RelS G O0 M0 H0 ow σ H m/\Xs G E O0 M0 H0 ow σ H (f m) fun d H'=>∀v,DV G (Ow O0 ow) H' v d->Q v H'
noncomputable abbrev FX (X:Cx)(E:XK)(e:Expr)(f:Me->Res (D×Me)):Prop:=PE X e (tX (gx X) E f)
section
variable {G:Gx}{E:XK}{O0 M0:Addr->Prop}{H0 H H1:Hp}{ow:Os}{σ:L2.St}{m:Me}
theorem Xs.imp {α:Type}{r:Res (α×Me)}{k k':α->Hp->Prop}(h:Xs G E O0 M0 H0 ow σ H r k)(g:Go O0 ow H ow H1)(hk:∀a H' m',RelS G O0 M0 H0 ow σ H' m'->Go O0 ow H1 ow H'->r=.ok (a,m')->k a H'->k' a H'):Xs G E O0 M0 H0 ow σ H1 r k':=by
 cases r with
 |ok a=>obtain ⟨a,m'⟩:=a; exact fun H' R g'=>hk a H' m' R g' rfl (h H' R (g.trans g'))
 |exc c=>exact h
 |stuck=>exact h
theorem Xs.pu {α β:Type}{r:Res α}{f:α->Res (β×Me)}{k:β->Hp->Prop}(R:Rel G O0 M0 H0 ow σ H m)(h:Xs G E O0 M0 H0 ow σ H (r.bind f) k):Pu G E r H fun a=>Xs G E O0 M0 H0 ow σ H (f a) k:=by
 cases r with
 |ok a=>exact h
 |exc c=>exact fun C H' e g=>h C H' e fun b o e n=>g b o (R.keep b o e n)
 |stuck=>exact h
end
section
variable {X:Cx}{E:XK}{e:Expr}{es:List Expr}{f:Me->Res D}{fa:Me->Res (D×Me)}{fs:Me->Res (List D×Me)}{pos:Pos}{i:Nat}{x:Str}
noncomputable def gSetX (i:Nat)(f:Me->Res (D×Me)):Me->Res (Fl×Me):=fun m=>(f m).bind fun p=>.ok (.nx,p.2.set i (.fz p.1))
theorem Xs.ss {G:Gx}{O0 M0:Addr->Prop}{H0 H:Hp}{ow:Os}{σ:L2.St}{W:Ends}{r:Res (D×Me)}{k:D->Me->Res (Fl×Me)}(h:Ss G E O0 M0 H0 ow H W (r.bind fun p=>k p.1 p.2)):
  Xs G E O0 M0 H0 ow σ H r fun d H'=>∀m',r=.ok (d,m')->RelS G O0 M0 H0 ow σ H' m'->Ss G E O0 M0 H0 ow H' W (k d m'):=by
 cases r with
 |ok a=>
  obtain ⟨d,m1⟩:=a
  intro H' R g m' e R'
  cases e
  exact Ss.go h g
 |exc c=>exact h
 |stuck=>exact h
theorem fs_setX {pos':Pos}(hN:X.N.Nodup)(hi:X.N[i]? = some x)(hx:Loc X.env.scope x)(he:FX X E e fa)(hs:swapsWith e (some (.Name x pos')) pos.line X.env=pure false:=by rfl)
  (hf:X.fn x=true\/X.env.scope.names.lookup x=some .local:=by first | exact .inl rfl | exact .inr rfl | assumption):FS X E (.Assign [.Name x pos'] e pos) (gSetX i fa):=ps_weak (ps_set hN hi hx he hs hf) fun W σ H hE=>xq5 hE fun O0 M0 H0 ow m R q=>by
 refine ⟨O0,M0,H0,ow,m,R,(Xs.ss (k:=fun d m'=>.ok (.nx,m'.set i (.fz d))) q).imp (Go.refl (Same.refl _)) fun d H1 m1 R1 g1 e1 q v hv=>?_⟩
 exact q m1 e1 R1 _ _ _ (R1.set hv) Go.set
end
section
variable {P:Program}{w:World}{K:PySem.W.Frag}{mg:Str->Option Value}{base:Heap}
end
open PySem PySem.Spec PyProof.Rows L2 Hd
noncomputable def Sl.cap:Sl->Sl
 | .ow d=>.io d
 | .hd _ a d=>.hd false a d
 |s=>s
section
variable {G:Gx}{O0 M0:Addr->Prop}{H0 H H':Hp}{ow:Os}{σ:L2.St}{m:Me}
theorem RelS.more {l:Addr}{o:HO}(R:RelS G O0 M0 H0 ow σ H m)(hl:H l=none)(ho:MutK (some o)):RelS G (Op O0 l) M0 H0 ow σ (L2.upd H l o) m:=by
 have nl:=R.noOw hl
 have sub:∀b,Ow (Op O0 l) ow b->Ow O0 ow b\/b=l:=fun b z=>z.elim (fun y=>y.elim (fun w=>.inl (.inl w)) .inr) fun y=>.inl (.inr y)
 have sub':∀b,Ow (Op O0 l) ow b->Ow O0 ow b\/H b=none:=fun b z=>(sub b z).elim .inl fun e=>.inr (by rw [e]; exact hl)
 have g:Same H (L2.upd H l o):=same_new hl _
 have R':=R.toRel.mono g
 refine ⟨⟨R.len,R'.keep,R'.m0,fun b z=>?_,fun i a e z=>?_,R.inj,R.out,fun i s e=>?_⟩,R.nb⟩
 ·rcases sub b z with z | z
  ·exact R'.mutk b z
  ·rw [z,L2.upd_same]; exact ho
 ·rcases z with z | z
  ·exact R.no0 i a e z
  ·exact nl (z ▸ .inr ⟨i,e⟩)
 ·exact ((R.slot i s e).anti sub' fun _ _ b _=>Classical.em _).mono g
theorem RelS.less {l:Addr}(R:RelS G (Op O0 l) M0 H0 ow σ H m):RelS G O0 M0 H0 ow σ H m:=by
 have sub:∀b,Ow O0 ow b->Ow (Op O0 l) ow b:=fun b z=>z.elim (fun y=>.inl (.inl y)) .inr
 exact ⟨⟨R.len,R.keep,R.m0,fun b z=>R.mutk b (sub b z),fun i a e z=>R.no0 i a e (.inl z),R.inj,R.out,fun i s e=>(R.slot i s e).anti (fun b z=>.inl (sub b z)) fun _ _ b _=>Classical.em _⟩,R.nb⟩
end
section
variable {G:Gx}{O0 M0:Addr->Prop}{H0 H H':Hp}{ow:Os}{σ:L2.St}{m:Me}{k:Nat}{cap:List Nat}
end
open PySem PySem.Spec PyProof.Rows L2 Hd
section
variable {X:Cx}{E:XK}{k:Nat}{cap:List Nat}{fi:Me->Res (List D)}{h:D->Me->Option Me}{fe:Me->Res (D×Me)}
theorem Op_Ow {O0:Addr->Prop}{ow:Os}{l b:Addr}(z:Ow (Op O0 l) ow b):Ow O0 ow b\/b=l:=z.elim (fun y=>y.elim (fun w=>.inl (.inl w)) .inr) fun y=>.inl (.inr y)
end
section
variable {X:Cx}{E:XK}{e:Expr}{f:Me->Res D}{fu:Me->Res Unit}{x:Str}{np cpos pos:Pos}{C:Addr}{bmB:List Value}{B newId initId:String}
end
section
variable {X:Cx}{j k:Nat}{x y:Str}{ps:List Str}{Φ:List D->Res (Bool×D)}{p pos cpos pos':Pos}{e:Expr}{es:List Expr}{fs:Me->Res (List D)}{i:Nat}
end
theorem Rel.more {G:Gx}{O0 M0:Addr->Prop}{H0 H H1:Hp}{ow:Os}{σ:L2.St}{m:Me}{l:Addr}(R:Rel G O0 M0 H0 ow σ H m)(g:Same H H1)(hl:H l=none)(ho:MutK (H1 l)):Rel G (Op O0 l) M0 H0 ow σ H1 m:=by
 have nl:=R.noOw hl
 have sub':∀b,Ow (Op O0 l) ow b->Ow O0 ow b\/H b=none:=fun b z=>(Op_Ow z).elim .inl fun e=>.inr (by rw [e]; exact hl)
 have R':=R.mono g
 refine ⟨R.len,R'.keep,R'.m0,fun b z=>?_,fun i a e z=>?_,R.inj,R.out,fun i s e=>?_⟩
 ·rcases Op_Ow z with z | z
  ·exact R'.mutk b z
  ·rw [z]; exact ho
 ·rcases z with z | z
  ·exact R.no0 i a e z
  ·exact nl (z ▸ .inr ⟨i,e⟩)
 ·exact ((R.slot i s e).anti sub' fun _ _ b _=>Classical.em _).mono g
open PySem PySem.Spec PyProof.Rows L2 Hd
section
variable {X:Cx}
end
noncomputable def spLaw (K:PySem.W.Frag):Sp:=fun vs H Q _=>∃(a:Addr) (ns:List Int),vs=[.ref a]/\SqL K H a (ns.map V.int)/\ns.length<=63/\∀H',Q (.bl true) H'
theorem ints_dvs {G:Gx}{O:Addr->Prop}{H:Hp}:∀ns:List Int,DVs G O H (ns.map V.int) (ns.map D.int)
 |[]=>.nil
 |n::ns=>.cons (.int n) (ints_dvs ns)
theorem law_imp {P:Program}{w:World}{K:PySem.W.Frag}{mg:Str->Option Value}{base:Heap}{CX:CXT}{k:Nat}{f:Addr}{fd:FuncData}{ps:List Str}{Φ:List D->Res (Bool×D)}(h:∀ns:List Int,ns.length<=63->∃fr,Φ [.lst (ns.map D.int)]=.ok (fr,.bl true))
  (F:FnOk P w K mg base CX k f fd ps (spF ⟨K,mg⟩ Φ)):FnOk P w K mg base CX k f fd ps (spLaw K):=F.imp fun vs H Q E ⟨a,ns,e,hS,hl,q⟩=>by
 subst e
 obtain ⟨fr,e⟩:=h ns hl
 refine ⟨fun _=>False,[.lst (ns.map D.int)],fun _ z=>z.elim,.cons (.lst (hS.elim (fun z=>.inl ⟨id,z⟩) .inr) (ints_dvs ns)) .nil,?_⟩
 rw [e]
 intro v H' _ hv _
 cases hv
 exact q H'
open PySem PySem.Spec PyProof.Rows L2 Hd
section
variable {X:Cx}{E:XK}{e a:Expr}{f fa:Me->Res D}{fu:Me->Res Unit}{x y:Str}{np cpos pos p py:Pos}{i:Nat}
end
section
variable {X:Cx}
noncomputable def boolL:List D->Option (List Bool)
 |[]=>some []
 | .bl b::ds=>(boolL ds).map (b::·)
 |_::_=>none
theorem boolL_dv {G:Gx}{O:Addr->Prop}{H:Hp}:∀{vs:List V} {ds:List D} {bs:List Bool},DVs G O H vs ds->boolL ds=some bs->vs=bs.map V.bl
 |_,_,_,.nil,e=>by cases e; rfl
 |_,_,_,.cons (d:=d) h hs,e=>by
  cases d with
  |bl b=>
   obtain ⟨bs,e1,rfl⟩:=omap (by simpa [boolL] using e)
   cases h
   rw [boolL_dv hs e1]
   rfl
  |_=>cases e
noncomputable def gAll:List D->Option D
 |[.lst ds]=>(boolL ds).map fun bs=>.bl (bs.all id)
 |_=>none
end
open PySem PySem.Spec PyProof.Rows L2 Hd
section
variable {X:Cx}
theorem bools_of:∀{bs:List Bool} {us:List Value},Vals (bs.map V.bl) us->LSm.BoolsAre us bs
 |[],_,.nil=>.nil
 |b::bs,_,.cons r t=>by cases r; exact .cons b (bools_of t)
theorem call_gAll (hc:X.calm=true):CallR X (.builtin "all") (rGC (gx X) gAll):=by
 intro pins s σ H xs us Q I r h
 obtain ⟨O,ds,d,m,hx,hr,q⟩:=h
 match ds,hr with
 |[.lst ds],hr=>
  obtain ⟨bs,e1,rfl⟩:=omap hr
  obtain ⟨v,rfl,hv⟩:=dws1 hx
  obtain ⟨p,xs,rfl,hp,hd⟩:=dw_lst hv
  have:=boolL_dv hd e1
  subst this
  obtain ⟨u,rfl,rx⟩:=vals1 r
  cases rx
  obtain ⟨wa,r',pl,hz⟩:=I.list hp
  have ba:=bools_of r'
  have li:=pl.isList
  have lt1:p<s.heap.objs.size:=by obtain ⟨_,e,_⟩:=li; exact Heap.lt_size e
  refine call_all_walk (wpAny_pyIter_list li ?_)
  refine ⟨s.heap.objs.size,[s.heap.objs.size,p],[s.heap.objs.size],wa.toArray.size,_,_,fun i=>(bs[i]?).getD true,rfl,Walks.list (A:=X.A.in1) (I.ok.hd hc) _ p (Nat.ne_of_lt lt1) wa.toArray,
   ⟨⟨_,Heap.get?_push_size _ rfl,rfl,rfl⟩,li.push _⟩,fun i v sn Qn En pv qv=>?_,fun h' tk kp=>?_⟩
  ·obtain ⟨b,e,rfl⟩:=ba.get i v (by simpa using pv)
   simp only [e,Option.getD_some] at qv
   exact wpAny_truthy_bool qv
  ·have e:((List.range wa.toArray.size).all fun i=>(bs[i]?).getD true)=bs.all id:=by
    rw [List.size_toArray,ba.length]; exact LSm.range_all bs
   rw [e]
   exact ⟨.bl _,H,I.kept (LSm.kept_iter kp),rfl,q _ _ (Same.refl _) (.bl _)⟩
end
open PySem PySem.Spec PyProof.Rows L2 Hd
noncomputable def Ite (K:PySem.W.Frag)(a:Addr):It:=
 ⟨fun i H=>∃xs x,SqL K H a xs/\xs[i]? = some x,fun i H x H'=>∃y l,(∀xs,SqL K H a xs->xs[i]? = some y)/\x=.ref l/\H l=none/\H'=upd H l (.tup [.int i,y]),fun i H=>∃xs,SqL K H a xs/\xs.length<=i⟩
theorem two_turned {X:Cx}{pins:List (Addr×Obj)}{σ:L2.St}{H:Hp}{s:Shared}{e it:Addr}{h':Heap}{oe oi:Obj}(I:Inv X pins σ H s)(fe:FpOk X pins H e)(fi:FpOk X pins H it)(hne:e≠it)
  (he:∃o,s.heap.get? e=some o) (hi:∃o,s.heap.get? it=some o) (he':h'.get? e=some oe) (hi':h'.get? it=some oi) (de:oe.isFreed=false) (di:oi.isFreed=false)
  (k:∀b o,b≠e->b≠it->s.heap.get? b=some o->h'.get? b=some o):∃h1,Inv X pins σ H { s with heap:=h1 }/\h1.objs.size=s.heap.objs.size/\∀b u,h1.get? b=some u->h'.get? b=some u:=by
 obtain ⟨o1,he⟩:=he
 obtain ⟨o2,hi⟩:=hi
 obtain ⟨f0,f1,f2,f3,f4,f5⟩:=fe
 obtain ⟨g0,g1,g2,g3,g4,g5⟩:=fi
 have I1:Inv X pins σ H { s with heap:=s.heap.update e fun _=>oe }:=I.turned (t':=s.toks) (fun b o hb x=>(Heap.get?_update_other _ _ (Ne.symm hb)).trans x) f0 f1 f3 f4 f5
 have I2:Inv X pins σ H { s with heap:=(s.heap.update e fun _=>oe).update it fun _=>oi }:=I1.turned (t':=s.toks) (fun b o hb x=>(Heap.get?_update_other _ _ (Ne.symm hb)).trans x) g0 g1 g3 g4 g5
 refine ⟨_,I2,?_,fun b u x=>?_⟩
 ·rw [(Heap.SameBut.update _ _ _).1,(Heap.SameBut.update _ _ _).1]
 ·by_cases z:b=it
  ·subst z
   rw [Heap.get?_update_self (fun _=>oi) ((Heap.get?_update_other _ _ hne).trans hi) di] at x
   cases x
   exact hi'
  ·rw [Heap.get?_update_other _ _ (Ne.symm z)] at x
   by_cases y:b=e
   ·subst y
    rw [Heap.get?_update_self (fun _=>oe) he de] at x
    cases x
    exact he'
   ·rw [Heap.get?_update_other _ _ (Ne.symm y)] at x
    exact k b u y z x
theorem freed_of {o:Obj}{vs:Array Value}(d:o.data=.fields vs):o.isFreed=false:=by
 obtain ⟨c,dd,da,sl⟩:=o
 cases (show da=.fields vs from d)
 rfl
theorem turn_enum {P:Program}{w:World}{K:PySem.W.Frag}{elts:List Expr}{x1}{pos:Pos}(a e it:Addr)(hne:e≠it):
  Turn P w K (.Tuple elts x1 pos) (Ite K a) [e,it] e (fun i h=>(∃old,IsEnum h e it i old)/\h.IsListIter it a i) where
 mem:=by simp
 obj:=fun i h st b hb=>by
  obtain ⟨⟨old,q1⟩,q2⟩:=st
  have eb:b=e\/b=it:=by simpa using hb
  rcases eb with rfl | rfl
  ·exact ⟨_,q1,fun v z=>by cases (show Data.fields _=Data.cell v from z)⟩
  ·obtain ⟨o,e',c,d⟩:=q2
   exact ⟨o,e',fun v z=>by rw [d] at z; cases z⟩
 keep:=fun i h h' st k=>by
  obtain ⟨⟨old,q1⟩,q2⟩:=st
  exact ⟨⟨old,k e (by simp) _ q1⟩,q2.at fun o x=>k it (by simp) o x⟩
 item:=by
  intro X hP hw hK hc i pins s σ H E I hf st hg
  subst hP hw hK
  obtain ⟨xs,x,hq,hx⟩:=hg
  obtain ⟨⟨old,q1⟩,q2⟩:=st
  obtain ⟨its,rv,p,hz⟩:=I.list hq
  obtain ⟨u,hu,ru⟩:=rv.get hx
  have fe:=hf e (by simp)
  have fi:=hf it (by simp)
  refine wpAny_pyNext_enum_item q1 q2 p.isList (x:=u) (by simpa using hu) hne fun h' eo il ht hsz k=>?_
  obtain ⟨oi,ei,ci,di⟩:=id il
  obtain ⟨oj,ej,cj,dj⟩:=id q2
  obtain ⟨h1,I1,z1,k1⟩:=two_turned I fe fi hne ⟨_,q1⟩ ⟨_,ej⟩ eo ei rfl (freed_of di) k
  have I2:Inv X pins σ (upd H s.heap.objs.size (.tup [.int i,x])) { s with heap:=h',toks:=s.toks+1 }:=
   I1.laid (t':=s.toks+1) k1 (Nat.le_of_eq z1) (show ObjOk X.prog X.w _ _ _ (.tup [.int i,x]) from ⟨(show 2<=sizeLine by decide),[.int i s.toks,u],.cons ⟨s.toks,rfl⟩ (.cons ru .nil),⟨_,ht,rfl,_,rfl⟩⟩)
  have fr:H s.heap.objs.size=none:=I.hok.fresh (Nat.le_refl _)
  have ne1:e≠s.heap.objs.size:=Nat.ne_of_lt (Heap.lt_size q1)
  have ne2:it≠s.heap.objs.size:=Nat.ne_of_lt (Heap.lt_size ej)
  have nn:∀b,b≠s.heap.objs.size->H b=none->upd H s.heap.objs.size (.tup [.int i,x]) b=none:=fun b z y=>by rw [upd_ne z]; exact y
  refine ⟨_,rfl,wpAny_letOwnedTupleGo_enum eo fun h2 e2 sb=>?_⟩
  obtain ⟨f0,f1,f2,f3,f4,f5⟩:=fe
  refine ⟨.ref s.heap.objs.size,_,I2.turned (t':=s.toks+1) (fun b o hb y=>(sb.2 b hb).trans y) (nn e ne1 f0) f1 f3 f4 f5,rfl,⟨x,_,fun ys hy=>by rw [I.list_inj hy hq]; exact hx,rfl,fr,rfl⟩,⟨⟨_,e2⟩,il.at fun o y=>(sb.2 it (Ne.symm hne)).trans y⟩,fun b hb=>?_⟩
  have eb:b=e\/b=it:=by simpa using hb
  rcases eb with rfl | rfl
  ·exact nn _ ne1 f0
  ·exact nn _ ne2 fi.1
 done:=by
  intro X hP hw hK hc i pins s σ H E I hf st hg
  subst hP hw hK
  obtain ⟨xs,hq,hx⟩:=hg
  obtain ⟨⟨old,q1⟩,q2⟩:=st
  obtain ⟨its,rv,p,hz⟩:=I.list hq
  obtain ⟨f0,f1,f2,f3,f4,f5⟩:=hf it (by simp)
  have hl:=rv.length
  exact wpAny_pyNext_enum_end (I.ok.hd hc) q1 q2 p.isList (by simp; omega) fun h' eb=>⟨rfl,I.turned (t':=s.toks) (fun b o hb y=>eb b o hb y) f0 f1 f3 f4 f5⟩
 self:=fun _ _ _ _ _ st h=>by
  obtain ⟨⟨old,q1⟩,q2⟩:=st
  exact wpAny_pyIter_enum q1 h
section
variable {X:Cx}{tg:Expr}
noncomputable def iEnum (K:PySem.W.Frag)(ta:TA):TI:=fun σ H R=>ta σ H fun vs H1=>∃p,vs=[.ref p]/\(∃xs,SqL K H1 p xs)/\R (Ite K p) H1
theorem pi_enum {elts:List Expr}{x1}{pt:Pos}{a:Expr}{ta:TA}{p pos:Pos}(hg:Gl X "enumerate")(hm:X.mg "enumerate" = none)(ha:PA X [a] ta)(hs:starEach [a] X.env=[(false,eval a X.env)]:=by rfl):PI X (.Tuple elts x1 pt) (.Call (.Name "enumerate" p) [a] [] pos) (iEnum X.K ta):=by
 intro pins s σ H R I h
 refine Call_ (ld_blt I hg hm boot_enumerate (PyProof.Rows.callWith_type1 (thn (ha pos pins s σ H _ I h) fun us s1 hE=>xq2 hE fun vs H1 I1 r1 q1=>?_) hs rfl))
 obtain ⟨l,e,⟨xs,hq⟩,q⟩:=q1
 subst e
 obtain ⟨u,rfl,rx⟩:=vals1 r1
 cases rx
 obtain ⟨its,rv,pl,hz⟩:=I1.list hq
 refine call_enumerate_list pl.isList fun h' e1 e2 sz k=>?_
 have I2:Inv X pins σ H1 { s1 with heap:=h' }:=I1.kept (t':=s1.toks) k
 refine wpAny_pyIter_enum (s:={ s1 with heap:=h' }) e1 ?_
 refine ⟨_,[s1.heap.objs.size+1,s1.heap.objs.size],_,_,H1,rfl,I2,turn_enum l _ _ (Nat.succ_ne_self _),⟨⟨_,e1⟩,e2⟩,fun b hb=>?_,q⟩
 have eb:b=s1.heap.objs.size+1\/b=s1.heap.objs.size:=by simpa using hb
 have hb':s1.heap.objs.size<=b:=eb.elim (fun z=>by rw [z]; exact Nat.le_succ _) fun z=>Nat.le_of_eq z.symm
 exact I1.fpOk hb' (I1.hok.fresh hb')
noncomputable def enumD (ds:List D):List D:=ds.mapIdx fun i d=>.tup [.int i,d]
theorem enumD_len (ds:List D):(enumD ds).length=ds.length:=by simp [enumD]
theorem it_enum {G:Gx}{H:Hp}{a:Addr}{ds:List D}{P:(Addr->Prop)->Hp->Prop}(h:∀O' H2,P O' H2->∃xs,SqL G.K H2 a xs/\DVs G O' H2 xs ds):ItOk G (Ite G.K a) (enumD ds) P:=by
 intro O' H2 ev
 obtain ⟨xs,hq,hd⟩:=h O' H2 ev
 have hlen:=dvs_len hd
 refine ⟨fun i hi=>⟨xs,xs[i]'(by rw [enumD_len] at hi; omega),hq,by simp⟩,fun i x H' hi y=>?_,xs,hq,by rw [enumD_len]; omega⟩
 obtain ⟨y,l,h1,rfl,fr,rfl⟩:=y
 obtain ⟨d,e1,e2⟩:=dvs_get hd (h1 xs hq)
 exact ⟨same_new fr _,.tup [.int i,d],by simp [enumD,List.getElem?_mapIdx,e1],.tup (SqU.of upd_same) (.cons (.int _) (.cons (e2.mono (same_new fr _)) .nil))⟩
noncomputable def fItE (f:Me->Res (List D)):Me->Res (List D):=fun m=>(f m).bind fun d=>match d with
 |[.lst ds]=>.ok (enumD ds)
 |_=>.stuck
theorem fi_enum {E:XK}{fs:Me->Res (List D)}{elts:List Expr}{x1}{pt:Pos}{a:Expr}{p pos:Pos}(hg:Gl X "enumerate")(hm:X.mg "enumerate" = none)(ha:FAE X E [a] fs)(hs:starEach [a] X.env=[(false,eval a X.env)]:=by rfl):FI X E (.Tuple elts x1 pt) (.Call (.Name "enumerate" p) [a] [] pos) (fItE fs):=
 pi_weak (pi_enum hg hm ha hs) fun σ H R hE=>xq5 hE fun O0 M0 H0 ow m Re q=>⟨O0,M0,H0,ow,m,Re,q.bind.imp (Same.refl _) fun ds q vs H' g hv=>by
  have z:∃xs,ds=[.lst xs]:=by
   cases ds with
   |nil=>exact q.elim
   |cons d ds=>cases d with
    |lst xs=>cases ds with
     |nil=>exact ⟨xs,rfl⟩
     |cons _ _=>exact q.elim
    |_=>exact q.elim
  obtain ⟨ds,rfl⟩:=z
  cases hv with
  |cons h1 h2=>
   cases h2
   cases h1 with
   |lst hl hd=>exact ⟨_,rfl,⟨_,hl.sq⟩,q _ H' g (it_enum (H:=H') fun O' H2 ev=>⟨_,(lstAt_kp ev.2 hl).sq,hd.go (Re.mono g).mutk ev⟩)⟩⟩
theorem fiw_enum {E:XK}{fs:Me->Res (List D)}{elts:List Expr}{x1}{pt:Pos}{a:Expr}{p pos:Pos}(hg:Gl X "enumerate")(hm:X.mg "enumerate" = none)(ha:FAB X E [a] fs)(hs:starEach [a] X.env=[(false,eval a X.env)]:=by rfl):FIw X E (.Tuple elts x1 pt) (.Call (.Name "enumerate" p) [a] [] pos) (fItE fs):=
 pi_weak (pi_enum hg hm ha hs) fun σ H R hE=>xq5 hE fun O0 M0 H0 ow m Re q=>⟨O0,M0,H0,ow,m,Re,q.bind.imp (Same.refl _) fun ds q vs H' g hv=>by
  have z:∃xs,ds=[.lst xs]:=by
   cases ds with
   |nil=>exact q.elim
   |cons d ds=>cases d with
    |lst xs=>cases ds with
     |nil=>exact ⟨xs,rfl⟩
     |cons _ _=>exact q.elim
    |_=>exact q.elim
  obtain ⟨ds,rfl⟩:=z
  cases hv with
  |cons h1 h2=>
   cases h2
   obtain ⟨l,xs,rfl,hl,hd⟩:=dw_lst h1
   exact ⟨_,rfl,⟨_,hl⟩,q _ H' g (it_enum (H:=H') fun O' H2 ⟨sub,g2⟩=>⟨_,sqL_mono hl g2,hd.go (Re.mono g).mutk ⟨sub,.of g2⟩⟩)⟩⟩
end
open PySem PySem.Spec PyProof.Rows L2 Hd
section
variable {pr:Program}{wo:World}{A:Around}{s:Shared}{R:Result->Shared->Prop}
variable {St:Nat->Shared->Prop}{P:Nat->Value->Prop}{n:Nat}{I:Addr}{fp wr:List Addr}{G:Array GenState->Array GenState->Prop}
end
section
variable {pr:Program}{wo:World}{A:Around}{E:Value->Shared->Prop}{s:Shared}
end
section
variable {X:Cx}
end
open PySem PySem.Spec PyProof.Rows L2 Hd
section
variable {X:Cx}{tg:Expr}
end
open PySem PySem.Spec PyProof.Rows L2 Hd
section
variable {X:Cx}
end
open PySem PySem.Spec PyProof.Rows L2 Hd
theorem dvs_setAt {G:Gx}{O:Addr->Prop}{H:Hp}{v:V}{d:D}(h:DV G O H v d):∀{vs:List V} {ds:List D} (j:Nat),DVs G O H vs ds->DVs G O H (vs.set j v) (ds.set j d)
 |_,_,_,.nil=>.nil
 |_,_,0,.cons _ t=>.cons h t
 |_,_,j+1,.cons a t=>.cons a (dvs_setAt h j t)
section
variable {X:Cx}{E:XK}{e ke:Expr}{f fk:Me->Res D}{pos spos np:Pos}{x:Str}
theorem fs_setIx (i:Nat)(he:FE X E e f)(hk:FE X E ke fk)(hN:X.N[i]? = some x:=by rfl)(hv:Vis X.env.scope x:=by first | exact Or.inl rfl | exact Or.inr (Or.inl rfl) | exact Or.inr (Or.inr rfl))(hd:(x == ("__debug__" : Str))=false:=by decide)(hcd:(x == ("__classdict__" : Str))=false:=by decide)
  (ha:∀v,assign (.Subscript (.Name x np) ke spos) X.env v=(do
   let ov ← holding [v] (eval (.Name x np) X.env)
   let iv ← holding [v,ov] (eval ke X.env)
   standAt spos
   holding [v,ov,iv] (setItem ov iv v)
   release [v,ov,iv] []):=by intro _; rfl)
  (hs:swapsWithSole [.Subscript (.Name x np) ke spos] e pos.line X.env=pure false:=by rfl) (hw:swappedStores [.Subscript (.Name x np) ke spos] e X.env=pure none:=by rfl)
  (h1:(assignEach [.Subscript (.Name x np) ke spos] X.env).map (·.2)=[assign (.Subscript (.Name x np) ke spos) X.env]:=by rfl):FS X E (.Assign [.Subscript (.Name x np) ke spos] e pos) (gSetIx i fk f):=
 ps_weak (ps_asg he (pg_sub (pe_var hN hv hd hcd) hk set_list ha) hs hw h1) fun W σ H hE=>xq5 hE fun O0 M0 H0 ow m R q=>
  ⟨O0,M0,H0,ow,m,R.toRel,(Ss.pu R.toRel q).imp (Same.refl _) fun d q v H1 g1 hv=>by
   obtain ⟨o,ho,q⟩:=Ss.ofO q
   obtain ⟨k,ds⟩:=o
   have R1:=R.mono g1
   obtain ⟨a,xs,e1,e2,e3,e4,e5⟩:=ownL_is R1.toRel ho
   refine ⟨_,e2,O0,M0,H0,ow,m,R1.toRel,(Ss.pu R1.toRel (q.go (Go.refl g1))).imp (Same.refl _) fun dk q vk H2 g2 hvk=>?_⟩
   cases dk with
   |int n=>
    cases hvk
    obtain ⟨j,hj,q⟩:=Ss.ofO q
    have R2:=R1.mono g2
    obtain ⟨R3,g3⟩:=R2.put (es:=ds.set j d) (ys:=xs.set j v) e1 e5 (dvs_setAt (hv.mono g2) j (e4.mono g2))
    exact ⟨a,xs,n,j,rfl,rfl,g2 _ _ e3,by rw [dvs_len e4]; exact hj,q _ _ _ R3 ((Go.refl g2).trans g3)⟩
   |_=>exact q.elim⟩
end
open PySem PySem.Spec PyProof.Rows L2 Hd
section
variable {X:Cx}{E:XK}
variable {a b:Expr}{fa fb:Me->Res D}{pos:Pos}
end
open PySem PySem.Spec PyProof.Rows L2 Hd
section
variable {G:Gx}{O0 M0:Addr->Prop}{H0:Hp}{ow:Os}{σ:L2.St}{H:Hp}{m:Me}
end
section
variable {X:Cx}{E:XK}{e ke:Expr}{f fk:Me->Res D}{pos spos np:Pos}{x:Str}
end
open PySem PySem.Spec PyProof.Rows L2 Hd
section
variable {X:Cx}{E:XK}{e v₁ v₂:Expr}{es:List Expr}{f:Me->Res D}{pos:Pos}
end
open PySem PySem.Spec PyProof.Rows L2 Hd
section
variable {X:Cx}
end
open PySem PySem.Spec PyProof.Rows L2 Hd
section
variable {X:Cx}{E:XK}{e:Expr}
end
open PySem PySem.Spec PyProof.Rows L2 Hd
section
variable {X:Cx}{E:XK}{e:Expr}{f:Me->Res D}{pos:Pos}
end
open PySem PySem.Spec PyProof.Rows L2 Hd
section
variable {X:Cx}{E:XK}
variable {a b:Expr}{fa fb:Me->Res D}{pos:Pos}
end
section
variable {G:Gx}{O0 M0:Addr->Prop}{H0:Hp}{ow:Os}{σ:L2.St}{H:Hp}{m:Me}
end
section
variable {X:Cx}{E:XK}{e ke:Expr}{f fk:Me->Res D}{pos spos np:Pos}{x:Str}
end
open PySem PySem.Spec PyProof.Rows L2 Hd
section
variable {X:Cx}{E:XK}{e:Expr}{f:Me->Res D}{pos:Pos}
end
open PySem PySem.Spec PyProof.Rows L2 Hd
section
variable {prog:Program}{w:World}{A:Around}{E:Value->Shared->Prop}{s:Shared}{d it:Addr}{es:Array DictEntry}{ep i:Nat}{o oi:Obj}
end
open PySem PySem.Spec PyProof.Rows L2 Hd
section
variable {X:Cx}{E:XK}{rest:List Stmt}{k:Me->Res (Fl×Me)}
end
section
variable {X:Cx}{tg:Expr}
end
open PySem PySem.Spec PyProof.Rows L2 Hd
section
variable {X:Cx}
end
noncomputable def met (f:Nat->Str):Nat->List Str
 |0=>[]
 |i+1=>if (met f i).any (· == f i) then met f i else met f i++[f i]
section
variable {pr:Program}{wo:World}{A:Around}{R:Result->Shared->Prop}{I:Addr}{fp wr:List Addr}{G:Array GenState->Array GenState->Prop}{n:Nat}{P:Nat->Value->Prop}{St:Nat->Shared->Prop}
end
section
variable {pr:Program}{wo:World}{A:Around}{E:Value->Shared->Prop}{s:Shared}
end
open PySem PySem.Spec PyProof.Rows L2 Hd
section
variable {X:Cx}
end
open PySem PySem.Spec PyProof.Rows L2 Hd
structure Wr (p:Prop):Prop where
 out:p
section
variable {X:Cx}{E:XK}{e a b c ke:Expr}{es:List Expr}{st:Stmt}{rest sa sb:List Stmt}{f fa fb fk:Me->Res D}{fs:Me->Res (List D)}{ft:Me->Res Bool}{gg k ga gb:Me->Res (Fl×Me)}{pos pos' apos cpos np spos p:Pos}{i:Nat}{x:Str}
theorem w_cons (h1:Wr (FS X E st gg))(h2:Wr (FSs X E rest k)):Wr (FSs X E (st::rest) (gSeq gg k)):=⟨fss_cons h1.out h2.out⟩
theorem w_one (h1:Wr (FS X E st gg)):Wr (FSs X E [st] gg):=⟨fss_one h1.out⟩
theorem w_set (hN:X.N.Nodup)(hi:X.N[i]? = some x)(hx:Loc X.env.scope x)(he:Wr (FE X E e f))(hs:swapsWith e (some (.Name x pos')) pos.line X.env=pure false:=by rfl)
  (hf:X.fn x=true\/X.env.scope.names.lookup x=some .local:=by first | exact .inl rfl | exact .inr rfl | assumption):Wr (FS X E (.Assign [.Name x pos'] e pos) (gSet i f)):=⟨fs_set hN hi hx he.out hs hf⟩
theorem w_ret (he:Wr (FE X E e f)):Wr (FS X E (.Return (some e) pos) (gRet f)):=⟨fs_ret he.out⟩
theorem w_aec (ha:Wr (FE X E e fa))(hr:Wr (FAE X E es fs))(hs:starEach (e::es) X.env=(false,eval e X.env)::starEach es X.env:=by rfl):Wr (FAE X E (e::es) (fCons fa fs)):=⟨fae_cons ha.out hr.out hs⟩
theorem w_tup {x1}(h:Wr (FAE X E es fs)):Wr (FE X E (.Tuple es x1 pos) (fTup fs)):=⟨fe_tup h.out⟩
theorem w_lst (h:Wr (FAE X E es fs)):Wr (FN X E (.List es pos) (fLst fs)):=⟨fn_lst h.out⟩
theorem w_new (h:Wr (FN X E e f)):Wr (FE X E e f):=⟨fe_new h.out⟩
end
open PySem PySem.Spec PyProof.Rows L2 Hd
section
variable {pr:Program}{wo:World}{A:Around}{E:Value->Shared->Prop}{s:Shared}{κ:Type}[DecidableEq κ]{kn:HeapKind pr wo κ}
end
section
variable {X:Cx}{o e f:Expr}{apos cpos:Pos}{td ty tx:TE}
end
section
variable {X:Cx}{E:XK}{e ke:Expr}{f fk:Me->Res D}{pos np apos cpos:Pos}{x:Str}
end
open PySem PySem.Spec PyProof.Rows L2 Hd
noncomputable def RawD (h:Heap)(d:Addr)(es:Array DictEntry)(ep:Nat):Prop:=∃o,h.get? d=some o/\o.ExactDict/\o.data=.dict es ep
section
variable {prog:Program}{w:World}{A:Around}{E:Value->Shared->Prop}{s:Shared}{d it v:Addr}{es:Array DictEntry}{ep i:Nat}
theorem RawD.ty (x:RawD s.heap d es ep):s.TypeIs (.ref d) "dict":=let ⟨o,h,c,_⟩:=x; ⟨o,h,c.1⟩
end
open PySem PySem.Spec PyProof.Rows L2 Hd
section
variable {X:Cx}
end
section
variable {X:Cx}{E:XK}{o:Expr}{fo:Me->Res D}{p pos apos cpos:Pos}
end
open PySem PySem.Spec PyProof.Rows L2 Hd
section
variable {X:Cx}{k v:Expr}{pos:Pos}{tk tv:TE}
end
section
variable {X:Cx}{E:XK}{k v:Expr}{pos:Pos}{fk fv:Me->Res D}
end
section
variable {X:Cx}{E:XK}
end
open PySem PySem.Spec PyProof.Rows L2 Hd
section
variable {pr:Program}{wo:World}{A:Around}{E:Value->Shared->Prop}{s:Shared}
end
section
variable {pr:Program}{wo:World}{κ:Type}[DecidableEq κ]{kn:KeyKind pr wo κ}{A:Around}{R:Result->Shared->Prop}{I:Addr}{fp wr:List Addr}{G:Array GenState->Array GenState->Prop}{n:Nat}{P:Nat->Value->Prop}{St:Nat->Shared->Prop}
end
section
variable {pr:Program}{wo:World}{κ:Type}[DecidableEq κ]{kn:KeyKind pr wo κ}{A:Around}{E:Value->Shared->Prop}{s:Shared}
end
open PySem PySem.Spec PyProof.Rows L2 Hd
section
variable {X:Cx}{pins:List (Addr×Obj)}{σ:L2.St}{H:Hp}{s:Shared}
end
open PySem PySem.Spec PyProof.Rows L2 Hd
section
variable {X:Cx}{pins:List (Addr×Obj)}{σ:L2.St}{H:Hp}{s:Shared}
end
open PySem PySem.Spec PyProof.Rows L2 Hd
section
variable {prog:Program}{w:World}{A:Around}{E:Value->Shared->Prop}{s:Shared}{d it v:Addr}{es:Array DictEntry}{ep i:Nat}
end
open PySem PySem.Spec PyProof.Rows L2 Hd
section
variable {prog:Program}{w:World}{A:Around}{E:Value->Shared->Prop}{s:Shared}{d it v:Addr}{es:Array DictEntry}{ep i:Nat}
end
section
variable {X:Cx}
end
section
variable {X:Cx}{E:XK}{o:Expr}{fo:Me->Res D}{p pos apos cpos:Pos}
end
section
variable {X:Cx}{tg:Expr}
end
open PySem PySem.Spec PyProof.Rows L2 Hd
noncomputable def ownA (m:Me)(i:Nat):Option (Bool×D):=match m[i]? with
 |some (.ow d)=>some (true,d)
 |some (.io d)=>some (false,d)
 |_=>none
noncomputable def putA (m:Me)(i:Nat)(k:Bool)(d:D):Me:=m.set i (if k then .ow d else .io d)
section
variable {G:Gx}{O0 M0:Addr->Prop}{H0:Hp}{ow:Os}{σ:L2.St}{H:Hp}{m:Me}
theorem ownA_is (R:Rel G O0 M0 H0 ow σ H m){i:Nat}{k:Bool}{d:D}(e:ownA m i=some (k,d)):∃a,ow i=some a/\σ[i]? = some (some (.ref a))/\OV G (Ow O0 ow) H a d/\((m[i]? = some (.ow d)/\k=true)\/(m[i]? = some (.io d)/\k=false)):=by
 unfold ownA at e
 split at e
 ·rename_i q
  cases e
  obtain ⟨a,e1,e2,e3,e4⟩:=R.slot i _ q
  exact ⟨a,e1,e3,e4,.inl ⟨q,rfl⟩⟩
 ·rename_i q
  cases e
  obtain ⟨a,e1,e2,e3,e4⟩:=R.slot i _ q
  exact ⟨a,e1,e3,e4,.inr ⟨q,rfl⟩⟩
 ·cases e
end
noncomputable def insP {α:Type}(p:Nat)(x:α)(l:List α):List α:=l.take p++x::l.drop p
theorem insP_len {α:Type}{p:Nat}{x:α}{l:List α}:(insP p x l).length=l.length+1:=by
 simp [insP]; omega
theorem insP_at {α:Type}{p:Nat}{x:α}{l:List α}(h:p<=l.length):(insP p x l)[p]? = some x:=by
 unfold insP
 rw [List.getElem?_append_right (by simp; omega)]
 simp [Nat.min_eq_left h]
theorem insP_lo {α:Type}{p i:Nat}{x:α}{l:List α}(h:i<p)(hp:p<=l.length):(insP p x l)[i]? = l[i]?:=by
 unfold insP
 rw [List.getElem?_append_left (by simp; omega),List.getElem?_take_of_lt h]
theorem insP_hi {α:Type}{p i:Nat}{x:α}{l:List α}(h:p<=i)(hp:p<=l.length):(insP p x l)[i+1]? = l[i]?:=by
 unfold insP
 rw [List.getElem?_append_right (by simp; omega)]
 have:i+1 - (l.take p).length=(i - p)+1:=by simp [Nat.min_eq_left hp]; omega
 rw [this,List.getElem?_cons_succ,List.getElem?_drop]
 congr 1
 omega
noncomputable def ioAtP (m:Me)(p:Nat):Option D:=match m[p]? with
 |some (.io d)=>some d
 |_=>none
theorem ioAtP_is {m:Me}{p:Nat}{d:D}(h:ioAtP m p=some d):m[p]? = some (.io d):=by
 unfold ioAtP at h
 split at h
 ·rename_i q; cases h; exact q
 ·cases h
theorem io_setP {O:Addr->Prop}{a:Addr}{p:Nat}(h:O a):Ow (fun b=>O b/\b≠a) (owS (fun _=>none) p (some a))=O:=by
 funext b
 refine propext ⟨fun z=>?_,fun z=>?_⟩
 ·rcases z with z | ⟨i,e⟩
  ·exact z.1
  ·by_cases q:i=p
   ·subst q; rw [owS_at] at e; cases e; exact h
   ·rw [owS_ne q] at e; cases e
 ·by_cases q:b=a
  ·subst q; exact .inr ⟨p,owS_at⟩
  ·exact .inl ⟨z,q⟩
theorem start_iop {G:Gx}{O:Addr->Prop}{H:Hp}{N:List Str}{a:Addr}{us:List V}{ds:List D}{d:D}{n p:Nat}(hp:p<=ds.length)(hm:∀b,O b->MutK (H b))(oa:O a)(ho:OV G O H a d)(hd:DVs G O H us ds)(hn:ds.length+1=n)(hN:n<=N.length):
  RelS G (fun b=>O b/\b≠a) (· = a) H (owS (fun _=>none) p (some a)) (L2.start N (insP p (.ref a) us)) H (insP p (.io d) (ds.map Sl.fz)++List.replicate (N.length - n) Sl.un):=by
 have hl:=dvs_len hd
 have nz:∀i,i≠p->owS (fun _=>none) p (some a) i=none:=fun i h=>owS_ne h
 have hlen:(insP p (V.ref a) us).length=n:=by rw [insP_len,hl]; exact hn
 have hst:∀i x,(insP p (V.ref a) us)[i]? = some x->(L2.start N (insP p (.ref a) us))[i]? = some (some x):=fun i x e=>by
  have hi:i<(insP p (V.ref a) us).length:=(List.getElem?_eq_some_iff.mp e).1
  unfold L2.start
  rw [List.getElem?_append_left (by simpa using hi),List.getElem?_map,e]
  rfl
 have hml:(insP p (Sl.io d) (ds.map Sl.fz)).length=n:=by rw [insP_len,List.length_map]; exact hn
 have key:∀(i:Nat) (s:Sl),(insP p (Sl.io d) (ds.map Sl.fz)++List.replicate (N.length - n) Sl.un)[i]? = some s->
   (i=p/\s=.io d)\/(i≠p/\∃d1 x,s=.fz d1/\DV G O H x d1/\(insP p (V.ref a) us)[i]? = some x)\/(i≠p/\s=.un):=fun i s e=>by
  by_cases hi:i<n
  ·rw [List.getElem?_append_left (by rw [hml]; exact hi)] at e
   by_cases q:i=p
   ·subst q
    rw [insP_at (by simpa using hp)] at e
    cases e
    exact .inl ⟨rfl,rfl⟩
   ·refine .inr (.inl ⟨q,?_⟩)
    by_cases lt:i<p
    ·rw [insP_lo lt (by simpa using hp),List.getElem?_map] at e
     cases ed:ds[i]? with
     |none=>rw [ed] at e; cases e
     |some d1=>
      rw [ed] at e
      cases e
      obtain ⟨x,hx,dx⟩:=dvs_at hd ed
      exact ⟨d1,x,rfl,dx,by rw [insP_lo lt (by omega)]; exact hx⟩
    ·obtain ⟨j,rfl⟩:∃j,i=j+1:=⟨i - 1,by omega⟩
     rw [insP_hi (by omega) (by simpa using hp),List.getElem?_map] at e
     cases ed:ds[j]? with
     |none=>rw [ed] at e; cases e
     |some d1=>
      rw [ed] at e
      cases e
      obtain ⟨x,hx,dx⟩:=dvs_at hd ed
      exact ⟨d1,x,rfl,dx,by rw [insP_hi (by omega) (by omega)]; exact hx⟩
  ·rw [List.getElem?_append_right (by rw [hml]; omega),List.getElem?_replicate] at e
   split at e
   ·cases e; exact .inr (.inr ⟨by omega,rfl⟩)
   ·cases e
 refine ⟨⟨?_,fun b o e _=>e,fun b z=>?_,fun b z=>by rw [io_setP oa] at z; exact hm b z,fun i b e=>?_,fun i j b e1 e2=>?_,fun i hi=>?_,fun i s e=>?_⟩,fun j d' e=>?_⟩
 ·rw [List.length_append,hml,List.length_replicate]
  unfold L2.start
  rw [List.length_append,List.length_map,hlen,List.length_replicate]
 ·have z:b=a:=z
  rw [z]
  rcases ho.mut with ⟨_,e⟩ | ⟨_,e⟩ | ⟨_,e⟩ | ⟨_,e⟩ <;> rw [e] <;> simp
 ·by_cases q:i=p
  ·subst q; rw [owS_at] at e; cases e; exact fun z=>z.2 rfl
  ·rw [nz i q] at e; cases e
 ·by_cases q:i=p
  ·by_cases q':j=p
   ·rw [q,q']
   ·rw [nz j q'] at e2; cases e2
  ·rw [nz i q] at e1; cases e1
 ·exact nz i (by rw [List.length_append,hml] at hi; omega)
 ·rw [io_setP oa]
  rcases key i s e with ⟨rfl,rfl⟩ | ⟨q,d1,x,rfl,dx,hx⟩ | ⟨q,rfl⟩
  ·exact ⟨a,owS_at,rfl,hst _ _ (insP_at (by omega)),ho⟩
  ·exact ⟨nz _ q,x,hst _ _ hx,dx⟩
  ·exact nz _ q
 ·rcases key j _ e with ⟨_,z⟩ | ⟨_,_,_,z,_⟩ | ⟨_,z⟩ <;> cases z
section
variable {P:Program}{w:World}{K:PySem.W.Frag}{mg:Str->Option Value}{base:Heap}
end
section
variable {X:Cx}{E:XK}{e:Expr}{es:List Expr}{fa:Me->Res D}{fs:Me->Res (List D)}{i p:Nat}{y:Str}{np:Pos}
end
theorem Xs.at {G:Gx}{E:XK}{O0 M0:Addr->Prop}{H0 H H1:Hp}{ow:Os}{σ:L2.St}{α:Type}{r:Res (α×Me)}{k:α->Hp->Prop}(h:Xs G E O0 M0 H0 ow σ H r k)(g:Same H H1):Xs G E O0 M0 H0 ow σ H1 r k:=h.imp (Go.refl g) fun _ _ _ _ _ _ q=>q
noncomputable def gExX (f:Me->Res (D×Me)):Me->Res (Fl×Me):=fun m=>(f m).bind fun p=>.ok (.nx,p.2)
theorem fs_exprX {X:Cx}{E:XK}{e:Expr}{fa:Me->Res (D×Me)}{pos:Pos}(he:FX X E e fa)(hs:swapsWith e none pos.line X.env=pure false:=by rfl):FS X E (.Expr e pos) (gExX fa):=ps_weak (ps_expr he hs) fun W σ H hE=>xq5 hE fun O0 M0 H0 ow m R q=>by
 refine ⟨O0,M0,H0,ow,m,R,(Xs.ss (k:=fun d m'=>.ok (.nx,m')) q).imp (Go.refl (Same.refl _)) fun d H1 m1 R1 g1 e1 q v hv=>?_⟩
 exact q m1 e1 R1 ow σ H1 R1 (Go.refl (Same.refl _))
open PySem PySem.Spec PyProof.Rows L2 Hd
noncomputable def gPar (i j:Nat)(fs:Me->Res (List D)):Me->Res (Fl×Me):=fun m=>(fs m).bind fun ds=>match ds with
 |[d,e]=>.ok (.nx,(m.set i (.fz d)).set j (.fz e))
 |_=>.stuck
theorem fs_par {X:Cx}{E:XK}{i j:Nat}{x y:Str}{a b:Expr}{fs:Me->Res (List D)}{px py pt pos:Pos}{kt k2 pt2}(hc:X.calm=true)(hN:X.N.Nodup)(hi:X.N[i]? = some x)(hj:X.N[j]? = some y)(hij:i≠j)
  (hx:X.env.scope.names.lookup x=some .local) (hy:X.env.scope.names.lookup y=some .local) (ha:FAE X E [a,b] fs)
  (hw:swappedStores [.Tuple [.Name x px,.Name y py] kt pt] (.Tuple [a,b] k2 pt2) X.env=pure (some [x,y]):=by rfl)
  (hs:swapsWithSole [.Tuple [.Name x px,.Name y py] kt pt] (.Tuple [a,b] k2 pt2) pos.line X.env=pure false:=by rfl):
  FS X E (.Assign [.Tuple [.Name x px,.Name y py] kt pt] (.Tuple [a,b] k2 pt2) pos) (gPar i j fs):=
 ps_weak (ps_par hc hN hi hj hij hx hy ha hw hs) fun W σ H hE=>xq5 hE fun O0 M0 H0 ow m R q=>⟨O0,M0,H0,ow,m,R.toRel,(Ss.pu R.toRel q).imp (Same.refl _) fun ds q vs H' g hv=>by
  have z:∃d e,ds=[d,e]:=by
   cases ds with
   |nil=>exact q.elim
   |cons d ds=>cases ds with
    |nil=>exact q.elim
    |cons e ds=>cases ds with
     |nil=>exact ⟨d,e,rfl⟩
     |cons _ _=>exact q.elim
  obtain ⟨d,e,rfl⟩:=z
  cases hv with
  |cons h1 h3=>cases h3 with
  |cons h2 h4=>
   cases h4
   refine ⟨_,_,rfl,?_⟩
   have R1:=(R.mono g).set (i:=i) h1
   have R2:=R1.set (i:=j) (h2.anti fun b z=>.inl z.sub)
   exact q _ _ _ R2 (((Go.refl g).trans Go.set).trans Go.set)⟩
open PySem PySem.Spec PyProof.Rows L2 Hd
section
variable {G:Gx}{O0 M0:Addr->Prop}{H0 H H':Hp}{ow:Os}{σ:L2.St}{m m':Me}
theorem RelS.many {ch:Nat->Prop}(R:RelS G O0 M0 H0 ow σ H m)(hl:m'.length=m.length)(old:∀i,¬ch i->m'[i]? = m[i]?)(g:Kp (fun b=>∃i,ch i/\ow i=some b) H H')
  (new:∀i s,ch i->m'[i]? = some s->SlOk G (Ow O0 ow) M0 H0 (ow i) (σ[i]?) H' s/\∀d,s≠.bw d) (mu:∀i b,ch i->ow i=some b->MutK (H' b)/\(H0 b=none\/M0 b)):RelS G O0 M0 H0 ow σ H' m'/\Go O0 ow H ow H':=by
 have mn:∀b,MutK (H' b)->H' b≠none:=fun b z w=>by rw [w] at z; rcases z with ⟨_,e⟩ | ⟨_,e⟩ | ⟨_,e⟩ | ⟨_,e⟩ <;> cases e
 have kp:Kp (Ow O0 ow) H H':=fun b u e n=>g b u e fun ⟨i,_,z⟩=>n (.inr ⟨i,z⟩)
 have dom:∀b,H b≠none->H' b≠none:=fun b n=>by
  by_cases q:∃i,ch i/\ow i=some b
  ·obtain ⟨i,c,e⟩:=q; exact mn b (mu i b c e).1
  ·cases w:H b with
   |none=>exact absurd w n
   |some o=>rw [g b o w q]; simp
 refine ⟨⟨⟨by rw [hl]; exact R.len,fun b u e n=>?_,fun b z=>dom b (R.m0 b z),fun b z=>?_,R.no0,R.inj,fun j hj=>R.out j (by omega),fun j s e=>?_⟩,fun j d e=>?_⟩,kp,fun j b e=>.inl (.inr ⟨j,e⟩),dom⟩
 ·refine g b u (R.keep b u e n) fun ⟨i,c,z⟩=>?_
  rcases (mu i b c z).2 with w | w
  ·rw [w] at e; cases e
  ·exact n w
 ·by_cases q:∃i,ch i/\ow i=some b
  ·obtain ⟨i,c,e⟩:=q; exact (mu i b c e).1
  ·have:=R.mutk b z
   rcases this with ⟨_,e⟩ | ⟨_,e⟩ | ⟨_,e⟩ | ⟨_,e⟩
   ·exact .inl ⟨_,g b _ e q⟩
   ·exact .inr (.inl ⟨_,g b _ e q⟩)
   ·exact .inr (.inr (.inl ⟨_,g b _ e q⟩))
   ·exact .inr (.inr (.inr ⟨_,g b _ e q⟩))
 ·by_cases c:ch j
  ·exact (new j s c e).1
  ·rw [old j c] at e
   have z:=R.slot j s e
   have other:∀{b:Addr} {d:D},ow j=some b->OV G (Ow O0 ow) H b d->OV G (Ow O0 ow) H' b d:=fun {b d} e1 h1=>by
    have nb:¬ ∃i,ch i/\ow i=some b:=fun ⟨i,ci,ei⟩=>c (R.inj j i b e1 ei ▸ ci)
    rcases h1.mut with ⟨_,e⟩ | ⟨_,e⟩ | ⟨_,e⟩ | ⟨_,e⟩ <;> exact h1.kp R.mutk kp (by rw [e]; exact g b _ e nb)
   cases s with
   |un=>exact z
   |fz d=>obtain ⟨b,x,e,q⟩:=z; exact ⟨b,x,e,q.kp R.mutk kp⟩
   |ow d=>obtain ⟨b,x,e,f,q'⟩:=z; exact ⟨b,x,e,f,other x q'⟩
   |io d=>obtain ⟨b,x,e,f,q'⟩:=z; exact ⟨b,x,e,f,other x q'⟩
   |bw d=>exact (R.nb j d e).elim
   |hd w b d=>obtain ⟨x,e,f,q'⟩:=z; exact ⟨x,e,f,other x q'⟩
 ·by_cases c:ch j
  ·exact (new j _ c e).2 d rfl
  ·rw [old j c] at e; exact R.nb j d e
end
noncomputable def fAdr (j:Nat)(f:Me->Res D):Me->Res D:=fun m=>(f m).bind fun d=>match d,m[j]? with
 | .adr a,some (.hd _ b d')=>if a=b then .ok d' else .stuck
 |_,_=>.stuck
section
variable {X:Cx}{E:XK}{e b ke:Expr}{f fb fk:Me->Res D}{pos spos:Pos}
theorem adr_at {m:Me}{j:Nat}{d r:D}(h:(match d,m[j]? with | .adr a,some (.hd _ b d')=>if a=b then Res.ok d' else .stuck | _,_=>.stuck)=.ok r):∃w a,d=.adr a/\m[j]? = some (.hd w a r):=by
 cases d with
 |adr a=>
  cases q:m[j]? with
  |none=>rw [q] at h; cases h
  |some s=>
   cases s with
   |hd w b d'=>
    rw [q] at h
    by_cases z:a=b
    ·have h:(if a=b then Res.ok d' else .stuck)=.ok r:=h
     rw [if_pos z] at h
     cases h
     exact ⟨w,a,rfl,by rw [z]⟩
    ·have h:(if a=b then Res.ok d' else .stuck)=.ok r:=h
     rw [if_neg z] at h
     cases h
   |_=>rw [q] at h; cases h
 |_=>cases h
theorem adr_noexc {m:Me}{j:Nat}{d:D}{c:Str}:(match d,m[j]? with | .adr a,some (.hd _ b d')=>if a=b then Res.ok d' else .stuck | _,_=>.stuck)≠.exc c:=fun h=>by
 cases d with
 |adr a=>
  cases q:m[j]? with
  |none=>rw [q] at h; cases h
  |some s=>
   cases s with
   |hd w b d'=>
    rw [q] at h
    have h:(if a=b then Res.ok d' else .stuck)=.exc c:=h
    split at h <;> cases h
   |_=>rw [q] at h; cases h
 |_=>cases h
theorem fb_adr (j:Nat)(h:FE X E e f):FB X E e (fAdr j f):=pe_weak h fun σ H Q hE=>xq5 hE fun O0 M0 H0 ow m R q=>⟨O0,M0,H0,ow,m,R,q.bind.imp (Same.refl _) fun d q v H' g hv=>by
 cases z:(match d,m[j]? with | .adr a,some (.hd _ b d')=>if a=b then Res.ok d' else .stuck | _,_=>.stuck) with
 |ok r=>
  rw [z] at q
  obtain ⟨w,a,rfl,e⟩:=adr_at z
  cases hv
  obtain ⟨x1,x2,x3,x4⟩:=(R.mono g).slot j _ e
  exact q _ H' g (.inr ⟨a,rfl,.inr ⟨j,x1⟩,x4⟩)
 |exc c=>exact (adr_noexc z).elim
 |stuck=>rw [z] at q; exact q.elim⟩
noncomputable def hdAt (m:Me)(j:Nat):Option (Bool×Addr×D):=match m[j]? with
 |some (.hd w a d)=>some (w,a,d)
 |_=>none
theorem hdAt_is {m:Me}{j:Nat}{w:Bool}{a:Addr}{d:D}(h:hdAt m j=some (w,a,d)):m[j]? = some (.hd w a d):=by
 unfold hdAt at h
 split at h
 ·rename_i q; cases h; exact q
 ·cases h
theorem RelS.putH {G:Gx}{O0 M0:Addr->Prop}{H0 H:Hp}{ow:Os}{σ:L2.St}{m:Me}{j:Nat}{w:Bool}{a:Addr}{d d':D}{o:HO}(R:RelS G O0 M0 H0 ow σ H m)(e:m[j]? = some (.hd w a d))(hm:MutK (some o))
  (h:Kp (Ow O0 ow) H (L2.upd H a o)->OV G (Ow O0 ow) (L2.upd H a o) a d'):RelS G O0 M0 H0 ow σ (L2.upd H a o) (m.set j (.hd w a d'))/\Go O0 ow H ow (L2.upd H a o):=by
 obtain ⟨x1,x2,x3,x4⟩:=R.slot j _ e
 have kp:Kp (Ow O0 ow) H (L2.upd H a o):=fun b u eb n=>kp_upd b u eb fun z=>n (z ▸ .inr ⟨j,x1⟩)
 refine R.many (ch:=(· = j)) (by simp) (fun i n=>List.getElem?_set_ne (Ne.symm n)) (fun b u eb n=>kp_upd b u eb fun z=>n ⟨j,rfl,by rw [x1,z]⟩) (fun i s c es=>?_) (fun i b c eb=>?_)
 ·subst c
  rw [List.getElem?_set_self (get_lt e)] at es
  cases es
  exact ⟨⟨x1,x2,x3,h kp⟩,fun d z=>by cases z⟩
 ·subst c
  rw [x1] at eb
  cases eb
  refine ⟨by rw [L2.upd_same]; exact hm,?_⟩
  cases w with
  |true=>exact .inl (x2 rfl)
  |false=>exact .inr (x3 rfl)
noncomputable def gAdrSetIx (j:Nat)(fb fk fv:Me->Res D):Me->Res (Fl×Me):=fun m=>(fv m).bind fun d=>(fb m).bind fun c=>(ofO (hdAt m j)).bind fun o=>(fk m).bind fun k=>match c,o.2.2,k with
 | .adr a,.lst ds,.int n=>if a=o.2.1 then (ofO (ixN ds.length n)).bind fun i=>.ok (.nx,m.set j (.hd o.1 a (.lst (ds.set i d)))) else .stuck
 |_,_,_=>.stuck
theorem fs_adrSetIx (j:Nat)(he:FE X E e f)(hb:FE X E b fb)(hk:FE X E ke fk)
  (ha:∀v,assign (.Subscript b ke spos) X.env v=(do
   let ov ← holding [v] (eval b X.env)
   let iv ← holding [v,ov] (eval ke X.env)
   standAt spos
   holding [v,ov,iv] (setItem ov iv v)
   release [v,ov,iv] []):=by intro _; rfl)
  (hs:swapsWithSole [.Subscript b ke spos] e pos.line X.env=pure false:=by rfl) (hw:swappedStores [.Subscript b ke spos] e X.env=pure none:=by rfl)
  (h1:(assignEach [.Subscript b ke spos] X.env).map (·.2)=[assign (.Subscript b ke spos) X.env]:=by rfl):FS X E (.Assign [.Subscript b ke spos] e pos) (gAdrSetIx j fb fk f):=
 ps_weak (ps_asg he (pg_sub hb hk set_list ha) hs hw h1) fun W σ H hE=>xq5 hE fun O0 M0 H0 ow m R q=>
  ⟨O0,M0,H0,ow,m,R.toRel,(Ss.pu R.toRel q).imp (Same.refl _) fun d q v H1 g1 hv=>by
   have R1:=R.mono g1
   refine ⟨O0,M0,H0,ow,m,R1.toRel,(Ss.pu R1.toRel (q.go (Go.refl g1))).imp (Same.refl _) fun c q vc H2 g2 hc=>?_⟩
   have R2:=R1.mono g2
   obtain ⟨o,ho,q⟩:=Ss.ofO q
   obtain ⟨w,a,dd⟩:=o
   have ho:=hdAt_is ho
   refine ⟨O0,M0,H0,ow,m,R2.toRel,(Ss.pu R2.toRel (q.go (Go.refl g2))).imp (Same.refl _) fun dk q vk H3 g3 hvk=>?_⟩
   have R3:=R2.mono g3
   cases c with
   |adr a'=>
    cases hc
    cases dd with
    |lst ds=>
     cases dk with
     |int n=>
      cases hvk
      have q':Ss (gx X) E O0 M0 H0 ow H2 W (if a'=a then (ofO (ixN ds.length n)).bind fun i=>.ok (.nx,m.set j (.hd w a' (.lst (ds.set i d)))) else .stuck):=q
      by_cases hz:a'=a
      ·rw [if_pos hz] at q'
       clear q
       subst hz
       obtain ⟨i,hi,q⟩:=Ss.ofO q'
       obtain ⟨x1,x2,x3,xs,e4,e5⟩:=R3.slot j _ ho
       obtain ⟨R4,g4⟩:=R3.putH (o:=.lst (xs.set i v)) (d':=.lst (ds.set i d)) ho (.inl ⟨_,rfl⟩) (fun kp=>⟨_,L2.upd_same,(dvs_setAt (hv.mono (g2.trans g3)) i e5).kp R3.mutk kp⟩)
       exact ⟨a',xs,n,i,rfl,rfl,e4,by rw [dvs_len e5]; exact hi,q _ _ _ R4 ((Go.refl g3).trans g4)⟩
      ·rw [if_neg hz] at q'; exact q'.elim
     |_=>exact q.elim
    |_=>exact q.elim
   |_=>exact q.elim⟩
end
open PySem PySem.Spec PyProof.Rows L2 Hd
noncomputable def valS:List Str->List D->Str->Option D
 |n::ns,d::ds,f=>if f=n then some d else valS ns ds f
 |_,_,_=>none
noncomputable def putS:List Str->List D->Str->D->List Str×List D
 |n::ns,d'::ds,f,d=>if n=f then (n::ns,d::ds) else (n::(putS ns ds f d).1,d'::(putS ns ds f d).2)
 |_,_,f,d=>([f],[d])
theorem valS_is {G:Gx}{O:Addr->Prop}{H:Hp}{f:Str}:∀{kvs:List (Str×V)} {ds:List D} {d:D},DVs G O H (kvs.map (·.2)) ds->valS (kvs.map (·.1)) ds f=some d->∃v,kvs.lookup f=some v/\DV G O H v d
 |[],_,_,.nil,e=>by cases e
 |(n,v)::kvs,_,_,.cons (d:=d') (ds:=ds) h hs,e=>by
  have e:(if f=n then some d' else valS (kvs.map (·.1)) ds f)=some _:=e
  by_cases q:f=n
  ·rw [if_pos q] at e
   cases e
   exact ⟨v,by rw [List.lookup,beq_iff_eq.mpr q],h⟩
  ·rw [if_neg q] at e
   obtain ⟨w,h1,h2⟩:=valS_is hs e
   exact ⟨w,by rw [List.lookup,beq_eq_false_iff_ne.mpr q]; exact h1,h2⟩
theorem putS_is {G:Gx}{O:Addr->Prop}{H:Hp}{f:Str}{v:V}{d:D}(hv:DV G O H v d):∀{kvs:List (Str×V)} {ds:List D},DVs G O H (kvs.map (·.2)) ds->(putF f v kvs).map (·.1)=(putS (kvs.map (·.1)) ds f d).1/\DVs G O H ((putF f v kvs).map (·.2)) (putS (kvs.map (·.1)) ds f d).2
 |[],_,.nil=>⟨rfl,.cons hv .nil⟩
 |(n,x)::kvs,_,.cons (d:=d') (ds:=ds) h hs=>by
  obtain ⟨i1,i2⟩:=putS_is hv hs
  rw [show putF f v ((n,x)::kvs)=(if n=f then (n,v)::kvs else (n,x)::putF f v kvs) from rfl]
  show _=(if n=f then (n::kvs.map (·.1),d::ds) else (n::(putS (kvs.map (·.1)) ds f d).1,d'::(putS (kvs.map (·.1)) ds f d).2)).1/\DVs G O H _ (if n=f then (n::kvs.map (·.1),d::ds) else (n::(putS (kvs.map (·.1)) ds f d).1,d'::(putS (kvs.map (·.1)) ds f d).2)).2
  by_cases q:n=f
  ·rw [if_pos q,if_pos q]; exact ⟨rfl,.cons hv hs⟩
  ·rw [if_neg q,if_neg q]; exact ⟨by rw [List.map_cons,i1],.cons h i2⟩
theorem dw_ins {G:Gx}{O:Addr->Prop}{H:Hp}{v:V}{c:Str}{ns:List Str}{ds:List D}(h:DW G O H v (.ins c ns ds)):∃a C dx kvs,v=.ref a/\G.mg c=some (.ref C)/\H a=some (.ins C dx kvs)/\kvs.map (·.1)=ns/\DVs G O H (kvs.map (·.2)) ds:=by
 rcases h with h | ⟨a,e,_,h⟩
 ·cases h with
  |ins n ec e a b hs=>subst b; exact ⟨_,_,_,_,rfl,ec,e,a,hs⟩
 ·obtain ⟨C,dx,k,w,ec,e',a1,rfl,hs⟩:=h
  exact ⟨a,C,dx,k,e,ec,e',a1,hs⟩
structure ClsT (K:PySem.W.Frag)(mg:Str->Option Value)(c:Str)(fs:List Str):Prop where
 ex:∃C,mg c=some (.ref C)/\Cls K C/\∀f∈fs,NoAttr K C f
noncomputable def gFld (c f:Str):D->Option D
 | .ins c' ns ds=>if c'=c then valS ns ds f else none
 |_=>none
noncomputable def fFld (c f:Str)(g:Me->Res D):Me->Res D:=fun m=>(g m).bind fun d=>ofO (gFld c f d)
section
variable {X:Cx}{E:XK}{e o:Expr}{g:Me->Res D}{c f:Str}{fs:List Str}{pos pos' np:Pos}
theorem gFld_is {d r:D}(h:gFld c f d=some r):∃ns ds,d=.ins c ns ds/\valS ns ds f=some r:=by
 cases d with
 |ins c' ns ds=>
  have h:(if c'=c then valS ns ds f else none)=some r:=h
  by_cases q:c'=c
  ·rw [if_pos q] at h; exact ⟨ns,ds,by rw [q],h⟩
  ·rw [if_neg q] at h; cases h
 |_=>cases h
theorem fe_fld (Ck:ClsT X.K X.mg c fs)(he:FB X E e g)(hf:f∈fs:=by decide)(hb:attributeBase e f X.env (eval e X.env)=eval e X.env:=by rfl):FE X E (.Attribute e f pos) (fFld c f g):=
 pe_weak (pe_fld he hb) fun σ H Q hE=>xq5 hE fun O0 M0 H0 ow m R q=>⟨O0,M0,H0,ow,m,R,q.bind.imp (Same.refl _) fun d q v H1 g1 hv=>by
  obtain ⟨C,hC,hc,hn⟩:=Ck.ex
  obtain ⟨r,hr,k⟩:=q.ofO
  obtain ⟨ns,ds,rfl,hv'⟩:=gFld_is hr
  obtain ⟨a,C',dx,kvs,rfl,ec,e1,rfl,hs⟩:=dw_ins hv
  have:some (Value.ref C')=some (.ref C):=ec.symm.trans hC
  cases this
  obtain ⟨w,l,dw⟩:=valS_is hs hv'
  exact ⟨a,C,dx,kvs,w,rfl,e1,hc,hn f hf,l,k w H1 g1 dw⟩⟩
noncomputable def ownI (m:Me)(i:Nat):Option (Bool×Str×List Str×List D):=match m[i]? with
 |some (.ow (.ins c ns ds))=>some (true,c,ns,ds)
 |some (.io (.ins c ns ds))=>some (false,c,ns,ds)
 |_=>none
noncomputable def putI (m:Me)(i:Nat)(k:Bool)(c:Str)(p:List Str×List D):Me:=m.set i (if k then .ow (.ins c p.1 p.2) else .io (.ins c p.1 p.2))
theorem ownI_is {G:Gx}{O0 M0:Addr->Prop}{H0:Hp}{ow:Os}{σ:L2.St}{H:Hp}{m:Me}(R:Rel G O0 M0 H0 ow σ H m){i:Nat}{k:Bool}{c:Str}{ns:List Str}{ds:List D}(e:ownI m i=some (k,c,ns,ds)):∃a C dx kvs,ow i=some a/\σ[i]? = some (some (.ref a))/\G.mg c=some (.ref C)/\H a=some (.ins C dx kvs)/\kvs.map (·.1)=ns/\DVs G (Ow O0 ow) H (kvs.map (·.2)) ds/\((m[i]? = some (.ow (.ins c ns ds))/\k=true)\/(m[i]? = some (.io (.ins c ns ds))/\k=false)):=by
 unfold ownI at e
 split at e
 ·rename_i q
  cases e
  obtain ⟨a,e1,e2,e3,C,dx,kvs,vs,ec,e4,e5,rfl,e6⟩:=R.slot i _ q
  exact ⟨a,C,dx,kvs,e1,e3,ec,e4,e5,e6,.inl ⟨q,rfl⟩⟩
 ·rename_i q
  cases e
  obtain ⟨a,e1,e2,e3,C,dx,kvs,vs,ec,e4,e5,rfl,e6⟩:=R.slot i _ q
  exact ⟨a,C,dx,kvs,e1,e3,ec,e4,e5,e6,.inr ⟨q,rfl⟩⟩
 ·cases e
theorem RelS.putI {G:Gx}{O0 M0:Addr->Prop}{H0:Hp}{ow:Os}{σ:L2.St}{H:Hp}{m:Me}{i:Nat}{k:Bool}{a C dx:Addr}{c:Str}{ns ls:List Str}{ds es:List D}{kvs:List (Str×V)}(R:RelS G O0 M0 H0 ow σ H m)(ho:ow i=some a)(hc:G.mg c=some (.ref C))(hm:(m[i]? = some (.ow (.ins c ns ds))/\k=true)\/(m[i]? = some (.io (.ins c ns ds))/\k=false))
  (hk:kvs.map (·.1)=ls) (hd:DVs G (Ow O0 ow) H (kvs.map (·.2)) es):RelS G O0 M0 H0 ow σ (L2.upd H a (.ins C dx kvs)) (F.putI m i k c (ls,es))/\Go O0 ow H ow (L2.upd H a (.ins C dx kvs)):=by
 have oa:Ow O0 ow a:=.inr ⟨i,ho⟩
 have kp:Kp (Ow O0 ow) H (L2.upd H a (.ins C dx kvs)):=fun b u e n=>kp_upd b u e fun z=>n (z ▸ oa)
 have ov:OV G (Ow O0 ow) (L2.upd H a (.ins C dx kvs)) a (.ins c ls es):=⟨C,dx,kvs,_,hc,L2.upd_same,hk,rfl,hd.kp R.mutk kp⟩
 refine ⟨R.chg (d:=.ins c ns ds) (d':=.ins c ls es) ho kp_upd ov ?_,Go.chg ho kp_upd ov⟩
 rcases hm with ⟨e,rfl⟩ | ⟨e,rfl⟩
 ·exact .inl ⟨e,rfl⟩
 ·exact .inr ⟨e,rfl⟩
noncomputable def gFldSet (i:Nat)(c f:Str)(g:Me->Res D):Me->Res (Fl×Me):=fun m=>(g m).bind fun d=>(ofO (ownI m i)).bind fun o=>if o.2.1=c/\o.2.2.1.length<999 then .ok (.nx,putI m i o.1 c (putS o.2.2.1 o.2.2.2 f d)) else .stuck
theorem fs_fld {x:Str}(i:Nat)(Ck:ClsT X.K X.mg c fs)(he:FE X E e g)(hf:f∈fs:=by decide)(hN:X.N[i]? = some x:=by rfl)(hv:Vis X.env.scope x:=by first | exact Or.inl rfl | exact Or.inr (Or.inl rfl) | exact Or.inr (Or.inr rfl))(hd:(x == ("__debug__" : Str))=false:=by decide)(hcd:(x == ("__classdict__" : Str))=false:=by decide)
  (hs:swapsWith e (some (.Attribute (.Name x np) f pos')) pos.line X.env=pure false:=by rfl):FS X E (.Assign [.Attribute (.Name x np) f pos'] e pos) (gFldSet i c f g):=
 ps_weak (ps_fld (pe_var hN hv hd hcd) he hs) fun W σ H hE=>xq5 hE fun O0 M0 H0 ow m R q=>⟨O0,M0,H0,ow,m,R.toRel,(Ss.pu R.toRel q).imp (Same.refl _) fun d q v H1 g1 hv=>by
  obtain ⟨C,hC,hc,hn⟩:=Ck.ex
  obtain ⟨o,ho,q⟩:=Ss.ofO q
  obtain ⟨k,c',ns,ds⟩:=o
  have R1:=R.mono g1
  obtain ⟨a,C',dx,kvs,e1,e2,ec,e3,e4,e5,e6⟩:=ownI_is R1.toRel ho
  by_cases z:c'=c/\ns.length<999
  ·have q:=(show Ss (gx X) E O0 M0 H0 ow H W (if c'=c/\ns.length<999 then .ok (.nx,putI m i k c (putS ns ds f d)) else .stuck) from q)
   rw [if_pos z] at q
   obtain ⟨rfl,hz⟩:=z
   have:some (Value.ref C')=some (.ref C):=ec.symm.trans hC
   cases this
   subst e4
   obtain ⟨p1,p2⟩:=putS_is (f:=f) hv e5
   obtain ⟨R2,g2⟩:=R1.putI (dx:=dx) e1 hC e6 p1 p2
   exact ⟨_,e2,a,C,dx,kvs,rfl,e3,hc,hn f hf,by simp at hz; omega,q _ _ _ R2 ((Go.refl g1).trans g2)⟩
  ·have q:=(show Ss (gx X) E O0 M0 H0 ow H W (if c'=c/\ns.length<999 then .ok (.nx,putI m i k c (putS ns ds f d)) else .stuck) from q)
   rw [if_neg z] at q; exact q.elim⟩
end
open PySem PySem.Spec PyProof.Rows L2 Hd
noncomputable def flatL:D->Bool
 | .lst ds=>flat2s ds
 |_=>false
noncomputable def okRes (r:Bool×D):Bool:=flat2 r.2 || (r.1 && flatL r.2)
structure FMt (P:Program)(w:World)(K:PySem.W.Frag)(mg:Str->Option Value)(base:Heap)(k:Nat)(c m:Str)(ps:List Str)(sp:Sp):Prop where
 ex:∃C g fd,mg c=some (.ref C)/\Cls K C/\Meth K C m g/\FnOk P w K mg base (CX1 P w) k g fd ps sp/\Binds K fd ps []
noncomputable abbrev FMd (P:Program)(w:World)(K:PySem.W.Frag)(mg:Str->Option Value)(base:Heap)(k:Nat)(c m:Str)(ps:List Str)(Φ:List D->Res (Bool×D)):Prop:=FMt P w K mg base k c m ps (spF ⟨K,mg⟩ Φ)
noncomputable def isOb (c m:Str):D->Bool
 | .ins c' ns _=>decide (c'=c) && !ns.contains m
 |_=>false
theorem lookup_no {m:Str}:∀{kvs:List (Str×V)},(kvs.map (·.1)).contains m=false->kvs.lookup m=none
 |[],_=>rfl
 |(n,v)::kvs,h=>by
  rw [List.map_cons,List.contains_cons,Bool.or_eq_false_iff] at h
  rw [List.lookup,h.1]
  exact lookup_no h.2
theorem ob_dw {G:Gx}{O:Addr->Prop}{H:Hp}{v:V}{c m:Str}{d:D}(h:DV G O H v d)(e:isOb c m d=true):∃a C dx kvs,v=.ref a/\G.mg c=some (.ref C)/\H a=some (.ins C dx kvs)/\kvs.lookup m=none:=by
 cases d with
 |ins c' ns ds=>
  have e:=Bool.and_eq_true_iff.mp e
  have e1:=of_decide_eq_true e.1
  subst e1
  obtain ⟨a,C,dx,kvs,rfl,ec,e1,rfl,hs⟩:=dw_ins (.inl h)
  exact ⟨a,C,dx,kvs,rfl,ec,e1,lookup_no (by simpa using e.2)⟩
 |_=>cases e
noncomputable def fMt (c m:Str)(Φ:List D->Res (Bool×D))(f0:Me->Res D)(fs:Me->Res (List D)):Me->Res D:=fun me=>(f0 me).bind fun d=>if isOb c m d=true then (fs me).bind fun ds=>(Φ (d::ds)).bind fun r=>if okRes r=true then .ok r.2 else .stuck else .stuck
noncomputable def fMtN (c m:Str)(Φ:List D->Res (Bool×D))(f0:Me->Res D)(fs:Me->Res (List D)):Me->Res D:=fun me=>(f0 me).bind fun d=>if isOb c m d=true then (fs me).bind fun ds=>(Φ (d::ds)).bind fun r=>if (r.1 && flatL r.2)=true then .ok r.2 else .stuck else .stuck
noncomputable def tVw (G:Gx)(E:XK)(f:Me->Res D):TE:=fun σ H Q=>∃O0 M0 H0 ow m,Rel G O0 M0 H0 ow σ H m/\Pu G E (f m) H fun d=>∀v H',Same H H'->DV G (fun _=>False) H' v d->Q v H'
noncomputable abbrev FV (X:Cx)(E:XK)(e:Expr)(f:Me->Res D):Prop:=PE X e (tVw (gx X) E f)
theorem fv_of {X:Cx}{E:XK}{e:Expr}{f:Me->Res D}(h:FB X E e f):FV X E e f:=pe_weak h fun σ H Q hE=>xq5 hE fun O0 M0 H0 ow m R q=>⟨O0,M0,H0,ow,m,R,q.imp (Same.refl _) fun d q v H' g hv=>q v H' g hv.any⟩
noncomputable def subA (A:Addr)(e:D):D->D
 | .adr b=>if b=A then e else .adr b
 |d=>d
theorem sub_dv {G:Gx}{H:Hp}{A:Addr}{e:D}(he:DV G (fun _=>False) H (.ref A) e):∀{v:V} {d:D},DV G (fun _=>False) H v d->DV G (fun _=>False) H v (subA A e d):=fun {v d} h=>by
 cases d with
 |adr b=>
  show DV G _ H v (if b=A then e else .adr b)
  by_cases q:b=A
  ·rw [if_pos q]
   cases h
   rw [q]; exact he
  ·rw [if_neg q]; exact h
 |_=>exact h
theorem sub_dvs {G:Gx}{H:Hp}{A:Addr}{e:D}(he:DV G (fun _=>False) H (.ref A) e):∀{vs:List V} {ds:List D},DVs G (fun _=>False) H vs ds->DVs G (fun _=>False) H vs (ds.map (subA A e))
 |_,_,.nil=>.nil
 |_,_,.cons h hs=>.cons (sub_dv he h) (sub_dvs he hs)
noncomputable def fView (i j:Nat):Me->Res D:=fun m=>match m[i]?,m[j]? with
 |some (.ow (.ins c ns ds)),some (.hd _ A e)=>.ok (.ins c ns (ds.map (subA A e)))
 |some (.io (.ins c ns ds)),some (.hd _ A e)=>.ok (.ins c ns (ds.map (subA A e)))
 |_,_=>.stuck
theorem view_is {G:Gx}{O0 M0:Addr->Prop}{H0:Hp}{ow:Os}{σ:L2.St}{H:Hp}{m:Me}(R:Rel G O0 M0 H0 ow σ H m){i j:Nat}{d:D}(h:fView i j m=.ok d):∃v,σ[i]? = some (some v)/\DV G (fun _=>False) H v d:=by
 have go:∀{c:Str} {ns:List Str} {ds:List D} {w:Bool} {A:Addr} {e:D} {a:Addr},OV G (Ow O0 ow) H a (.ins c ns ds)->m[j]? = some (.hd w A e)->DV G (fun _=>False) H (.ref a) (.ins c ns (ds.map (subA A e))):=fun {c ns ds w A e a} ov hj=>by
  obtain ⟨x1,x2,x3,x4⟩:=R.slot j _ hj
  have he:DV G (fun _=>False) H (.ref A) e:=(x4.anti (O':=fun _=>False) fun _ z=>z.elim).dv id
  obtain ⟨C,dx,kvs,vs,ec,e1,e2,e3,hs⟩:=ov
  exact .ins id ec e1 e2 e3 (sub_dvs he (hs.anti fun _ z=>z.elim))
 unfold fView at h
 split at h
 ·rename_i c ns ds w A e q1 q2
  cases h
  obtain ⟨a,e1,e2,e3,ov⟩:=R.slot i _ q1
  exact ⟨_,e3,go ov q2⟩
 ·rename_i c ns ds w A e q1 q2
  cases h
  obtain ⟨a,e1,e2,e3,ov⟩:=R.slot i _ q1
  exact ⟨_,e3,go ov q2⟩
 ·cases h
theorem fv_view {X:Cx}{E:XK}{x:Str}{np:Pos}(i j:Nat)(hN:X.N[i]? = some x:=by rfl)(hv:Vis X.env.scope x:=by first | exact Or.inl rfl | exact Or.inr (Or.inl rfl) | exact Or.inr (Or.inr rfl))(hd:(x == ("__debug__" : Str))=false:=by decide)(hcd:(x == ("__classdict__" : Str))=false:=by decide):FV X E (.Name x np) (fView i j):=
 pe_weak (pe_var hN hv hd hcd) fun σ H Q hE=>xq5 hE fun O0 M0 H0 ow m R q=>by
  cases z:fView i j m with
  |ok d=>
   rw [z] at q
   obtain ⟨v,e1,dv⟩:=view_is R z
   exact ⟨v,e1,q v H (Same.refl _) dv⟩
  |exc c=>unfold fView at z; split at z <;> cases z
  |stuck=>rw [z] at q; exact q.elim
section
variable {X:Cx}{E:XK}{j k:Nat}{c m:Str}{ps:List Str}{Φ:List D->Res (Bool×D)}{apos pos:Pos}{o e:Expr}{es:List Expr}{f0:Me->Res D}{fs:Me->Res (List D)}{pl:Sem Bool}
theorem res_new {G:Gx}{O:Addr->Prop}{H H':Hp}{r:Bool×D}{v:V}(mk:∀b,O b->MutK (H b))(h:(r.1 && flatL r.2)=true)(fr:r.1=true->Fr G (fun _=>False) H v H' r.2):∃p,v=.ref p/\H p=none/\OV G (Op O p) H' p r.2:=by
 obtain ⟨h1,h2⟩:=Bool.and_eq_true_iff.mp h
 have ht:isTup r.2=false:=by
  obtain ⟨b,d⟩:=r
  cases d <;> first | rfl | cases h2
 obtain ⟨p,rfl,n,ov⟩:=(fr h1).lst ht
 obtain ⟨b,d⟩:=r
 cases d with
 |lst ds=>
  obtain ⟨xs,e,hs⟩:=ov
  exact ⟨p,rfl,n,xs,e,hs.flat2 h2⟩
 |_=>cases h2
theorem res_any {G:Gx}{O:Addr->Prop}{H H':Hp}{r:Bool×D}{v:V}(mk:∀b,O b->MutK (H b))(h:okRes r=true)(hv:DV G (fun _=>False) H' v r.2)(fr:r.1=true->Fr G (fun _=>False) H v H' r.2):DV G O H' v r.2:=by
 rcases Bool.or_eq_true_iff.mp h with h | h
 ·exact hv.flat2 h
 ·obtain ⟨p,rfl,n,ov⟩:=res_new mk h fr
  refine (ov.anti (O':=O) fun b z=>.inl (.inl z)).dv fun z=>?_
  have:=mk p z
  rw [n] at this
  rcases this with ⟨_,e⟩ | ⟨_,e⟩ | ⟨_,e⟩ | ⟨_,e⟩ <;> cases e
theorem pe_mt (Fh:FMd X.prog X.w X.K X.mg X.base k c m ps Φ)(hr:Room j X.A)(hx:Passes (CX1 X.prog X.w) X E)(h0:FV X E o f0)(ha:FAB X E (e::es) fs)(hk:k<=j)
  (hst:starEach (e::es) X.env=(false,eval e X.env)::starEach es X.env) (hpl:(backTo pos (starEach es X.env)).any (·.1)=false)
  (ht:eval (.Call (.Attribute o m apos) (e::es) [] pos) X.env=(do
   let ov ← eval o X.env
   standAt apos.atName
   let (f,first) ← holding [ov] (getMethod ov m pl)
   callWith pos f first (backTo pos (starEach (e::es) X.env)) (backToKw pos (keywordEach [] X.env)))) {T:TE}
  (hT:∀σ H Q,T σ H Q->∃O0 M0 H0 ow me,Rel (gx X) O0 M0 H0 ow σ H me/\Pu (gx X) E (f0 me) H fun d=>isOb c m d=true/\Pu (gx X) E (fs me) H fun ds=>Pu (gx X) E (Φ (d::ds)) H fun r=>∀v H0' H',Same H H0'->Same H0' H'->DV (gx X) (fun _=>False) H' v r.2->(r.1=true->Fr (gx X) (fun _=>False) H0' v H' r.2)->Q v H'):
  PE X (.Call (.Attribute o m apos) (e::es) [] pos) T:=by
 obtain ⟨C,g,fd,hC,hc,hm,G,b⟩:=Fh.ex
 refine pe_weak (pe_meth (pl:=pl) h0 hc hm G (hr.mono hk) b .nil hx ha hst hpl ht) fun σ H Q h=>?_
 obtain ⟨O0,M0,H0,ow,me,R,q⟩:=hT σ H Q h
 refine ⟨O0,M0,H0,ow,me,R,q.imp (Same.refl _) fun d ⟨ob,q⟩ v H1 g1 hv=>?_⟩
 obtain ⟨a,C',dx,kvs,rfl,ec,e1,l⟩:=ob_dw hv ob
 have:some (Value.ref C')=some (.ref C):=ec.symm.trans hC
 cases this
 refine ⟨a,dx,kvs,rfl,e1,l,O0,M0,H0,ow,me,R.mono g1,q.imp g1 fun ds q vs H2 g2 hvs=>?_⟩
 show spF _ _ (V.ref a::(vs++[])) _ _ _
 rw [List.append_nil]
 exact ⟨_,d::ds,fun _ z=>z.elim,.cons (hv.mono g2) hvs.any,q.imp (g1.trans g2) fun r q v H' g3 hv' fr=>q v H2 H' (g1.trans g2) g3 hv' fr⟩
theorem pe_mt0 (Fh:FMd X.prog X.w X.K X.mg X.base k c m ps Φ)(hr:Room j X.A)(hx:Passes (CX1 X.prog X.w) X E)(h0:FV X E o f0)(hk:k<=j)
  (ht:eval (.Call (.Attribute o m apos) [] [] pos) X.env=(do
   let ov ← eval o X.env
   standAt apos.atName
   let (f,first) ← holding [ov] (getMethod ov m pl)
   callWith pos f first (backTo pos (starEach [] X.env)) (backToKw pos (keywordEach [] X.env)))) {T:TE}
  (hT:∀σ H Q,T σ H Q->∃O0 M0 H0 ow me,Rel (gx X) O0 M0 H0 ow σ H me/\Pu (gx X) E (f0 me) H fun d=>isOb c m d=true/\Pu (gx X) E (Φ [d]) H fun r=>∀v H0' H',Same H H0'->Same H0' H'->DV (gx X) (fun _=>False) H' v r.2->(r.1=true->Fr (gx X) (fun _=>False) H0' v H' r.2)->Q v H'):
  PE X (.Call (.Attribute o m apos) [] [] pos) T:=by
 obtain ⟨C,g,fd,hC,hc,hm,G,b⟩:=Fh.ex
 refine pe_weak (pe_meth0 (pl:=pl) h0 hc hm G (hr.mono hk) b .nil hx ht) fun σ H Q h=>?_
 obtain ⟨O0,M0,H0,ow,me,R,q⟩:=hT σ H Q h
 refine ⟨O0,M0,H0,ow,me,R,q.imp (Same.refl _) fun d ⟨ob,q⟩ v H1 g1 hv=>?_⟩
 obtain ⟨a,C',dx,kvs,rfl,ec,e1,l⟩:=ob_dw hv ob
 have:some (Value.ref C')=some (.ref C):=ec.symm.trans hC
 cases this
 refine ⟨a,dx,kvs,rfl,e1,l,?_⟩
 exact ⟨_,[d],fun _ z=>z.elim,.cons hv .nil,q.imp g1 fun r q v H' g3 hv' fr=>q v H1 H' g1 g3 hv' fr⟩
theorem mk_mono {O:Addr->Prop}{H H':Hp}(mk:∀b,O b->MutK (H b))(g:Same H H'):∀b,O b->MutK (H' b):=fun b z=>mutk_mono g (mk b z)
theorem fe_mt (Fh:FMd X.prog X.w X.K X.mg X.base k c m ps Φ)(hr:Room j X.A)(hx:Passes (CX1 X.prog X.w) X E)(h0:FV X E o f0)(ha:FAB X E (e::es) fs)(hk:k<=j:=by decide)
  (hst:starEach (e::es) X.env=(false,eval e X.env)::starEach es X.env:=by rfl) (hpl:(backTo pos (starEach es X.env)).any (·.1)=false:=by rfl)
  (ht:eval (.Call (.Attribute o m apos) (e::es) [] pos) X.env=(do
   let ov ← eval o X.env
   standAt apos.atName
   let (f,first) ← holding [ov] (getMethod ov m pl)
   callWith pos f first (backTo pos (starEach (e::es) X.env)) (backToKw pos (keywordEach [] X.env))):=by rfl):
  FE X E (.Call (.Attribute o m apos) (e::es) [] pos) (fMt c m Φ f0 fs):=
 pe_mt Fh hr hx h0 ha hk hst hpl ht fun σ H Q hE=>xq5 hE fun O0 M0 H0 ow me R q=>⟨O0,M0,H0,ow,me,R,q.bind.imp (Same.refl _) fun d q=>by
  obtain ⟨ob,q⟩:=pu_if' q
  refine ⟨ob,q.bind.imp (Same.refl _) fun ds q=>q.bind.imp (Same.refl _) fun r q v H1 H' g1 g2 hv fr=>?_⟩
  obtain ⟨hf,q⟩:=pu_if q
  exact q v H' (g1.trans g2) (res_any (mk_mono R.mutk g1) hf hv fr)⟩
theorem fn_mt (Fh:FMd X.prog X.w X.K X.mg X.base k c m ps Φ)(hr:Room j X.A)(hx:Passes (CX1 X.prog X.w) X E)(h0:FV X E o f0)(ha:FAB X E (e::es) fs)(hk:k<=j:=by decide)
  (hst:starEach (e::es) X.env=(false,eval e X.env)::starEach es X.env:=by rfl) (hpl:(backTo pos (starEach es X.env)).any (·.1)=false:=by rfl)
  (ht:eval (.Call (.Attribute o m apos) (e::es) [] pos) X.env=(do
   let ov ← eval o X.env
   standAt apos.atName
   let (f,first) ← holding [ov] (getMethod ov m pl)
   callWith pos f first (backTo pos (starEach (e::es) X.env)) (backToKw pos (keywordEach [] X.env))):=by rfl):
  FN X E (.Call (.Attribute o m apos) (e::es) [] pos) (fMtN c m Φ f0 fs):=
 pe_mt Fh hr hx h0 ha hk hst hpl ht fun σ H Q hE=>xq5 hE fun O0 M0 H0 ow me R q=>⟨O0,M0,H0,ow,me,R,q.bind.imp (Same.refl _) fun d q=>by
  obtain ⟨ob,q⟩:=pu_if' q
  refine ⟨ob,q.bind.imp (Same.refl _) fun ds q=>q.bind.imp (Same.refl _) fun r q v H1 H' g1 g2 hv fr=>?_⟩
  obtain ⟨hf,q⟩:=pu_if q
  obtain ⟨p,rfl,n,ov⟩:=res_new (mk_mono R.mutk g1) hf fr
  exact q p H' (g1.trans g2) (g1.free n) ov⟩
end
open PySem PySem.Spec PyProof.Rows L2 Hd
noncomputable def spM (G:Gx)(Φ:List D->D->Addr×D->Res (D×D×D)):Sp:=fun vs H Q E=>∃O a us ds d y,vs=.ref a::us/\(∀b,O b->MutK (H b))/\(O a/\OV G O H a d)/\(O y.1/\OV G O H y.1 y.2)/\a≠y.1/\DVs G O H us ds/\match Φ ds d y with
 | .ok (r,d',e)=>∀v H',Kp (fun b=>b=a\/b=y.1) H H'->OV G O H' a d'->OV G O H' y.1 e->DV G O H' v r->Q v H'
 | .exc c=>∀C H',G.mg c=some (.ref C)->Kp (fun b=>b=a\/b=y.1) H H'->E (.ref C) none H'
 | .stuck=>False
noncomputable def hdF (m:Me)(j:Nat)(a:Addr):Option D:=match m[j]? with
 |some (.hd false b d)=>if a=b then some d else none
 |_=>none
theorem hdF_is {m:Me}{j:Nat}{a:Addr}{d:D}(h:hdF m j a=some d):m[j]? = some (.hd false a d):=by
 unfold hdF at h
 split at h
 ·rename_i b d' q
  split at h
  ·rename_i z; cases h; rw [z]; exact q
  ·cases h
 ·cases h
noncomputable def stM (N n:Nat)(ds:List D)(d:D)(y:Addr×D):Me:=.io d::(ds.map Sl.fz++(List.replicate (N - n - 1) Sl.un++[.hd false y.1 y.2]))
noncomputable def runM (N n:Nat)(g:Me->Res (Fl×Me)):List D->D->Addr×D->Res (D×D×D):=fun ds d y=>if ds.length+1=n then match g (stM N n ds d y) with
  | .ok (.rt _ r,m')=>(ofO (ioAtP m' 0)).bind fun d'=>(ofO (hdF m' (N - 1) y.1)).bind fun e=>.ok (r,d',e)
  | .ok (.nx,m')=>(ofO (ioAtP m' 0)).bind fun d'=>(ofO (hdF m' (N - 1) y.1)).bind fun e=>.ok (.non,d',e)
  | .exc c=>.exc c
  |_=>.stuck
 else .stuck
noncomputable def ow2 (j:Nat)(a b:Addr):Os:=fun k=>if k=0 then some a else if k=j then some b else none
theorem ow2_inv {j:Nat}{a b c:Addr}{k:Nat}(e:ow2 j a b k=some c):(k=0/\c=a)\/(k=j/\c=b):=by
 unfold ow2 at e
 split at e
 ·rename_i q; cases e; exact .inl ⟨q,rfl⟩
 ·split at e
  ·rename_i q; cases e; exact .inr ⟨q,rfl⟩
  ·cases e
theorem ow2_set {O:Addr->Prop}{j:Nat}{a b:Addr}(h:O a)(h1:O b)(n:j≠0):Ow (fun c=>O c/\c≠a/\c≠b) (ow2 j a b)=O:=by
 funext c
 refine propext ⟨fun z=>?_,fun z=>?_⟩
 ·rcases z with z | ⟨k,e⟩
  ·exact z.1
  ·rcases ow2_inv e with ⟨_,rfl⟩ | ⟨_,rfl⟩
   ·exact h
   ·exact h1
 ·by_cases q:c=a
  ·exact .inr ⟨0,by rw [q]; rfl⟩
  ·by_cases q1:c=b
   ·exact .inr ⟨j,by unfold ow2; rw [if_neg n,if_pos rfl,q1]⟩
   ·exact .inl ⟨z,q,q1⟩
theorem stM_len {N n:Nat}{ds:List D}{d:D}{y:Addr×D}(hn:ds.length+1=n)(hN:n+1<=N):(stM N n ds d y).length=N:=by
 simp [stM]; omega
theorem stM_at {N n:Nat}{ds:List D}{d:D}{y:Addr×D}(hn:ds.length+1=n)(hN:n+1<=N){i:Nat}{s:Sl}(e:(stM N n ds d y)[i]? = some s):(i=0/\s=.io d)\/(∃k d1,i=k+1/\ds[k]? = some d1/\s=.fz d1)\/(i≠0/\i≠N - 1/\s=.un)\/(i=N - 1/\s=.hd false y.1 y.2):=by
 unfold stM at e
 cases i with
 |zero=>cases e; exact .inl ⟨rfl,rfl⟩
 |succ k=>
  rw [List.getElem?_cons_succ] at e
  by_cases hk:k<ds.length
  ·rw [List.getElem?_append_left (by simpa using hk),List.getElem?_map,List.getElem?_eq_getElem hk] at e
   cases e
   exact .inr (.inl ⟨k,ds[k],rfl,List.getElem?_eq_getElem hk,rfl⟩)
  ·rw [List.getElem?_append_right (by simpa using hk),List.length_map] at e
   by_cases h2:k - ds.length<N - n - 1
   ·rw [List.getElem?_append_left (by simpa using h2),List.getElem?_replicate,if_pos h2] at e
    cases e
    exact .inr (.inr (.inl ⟨by omega,by omega,rfl⟩))
   ·rw [List.getElem?_append_right (by simpa using h2),List.length_replicate] at e
    by_cases h3:k - ds.length - (N - n - 1)=0
    ·rw [h3] at e; cases e
     exact .inr (.inr (.inr ⟨by omega,rfl⟩))
    ·rw [List.getElem?_eq_none (by simp; omega)] at e; cases e
theorem start_m {G:Gx}{O:Addr->Prop}{H:Hp}{N:List Str}{a:Addr}{us:List V}{ds:List D}{d:D}{y:Addr×D}{n:Nat}(hm:∀b,O b->MutK (H b))(ho:O a/\OV G O H a d)(hy:O y.1/\OV G O H y.1 y.2)(nd:a≠y.1)(hd:DVs G O H us ds)(hn:ds.length+1=n)(hN:n+1<=N.length):
  RelS G (fun b=>O b/\b≠a/\b≠y.1) (fun b=>b=a\/b=y.1) H (ow2 (N.length - 1) a y.1) (L2.start N (.ref a::us)) H (stM N.length n ds d y):=by
 have hl:=dvs_len hd
 have n1:N.length - 1≠0:=by omega
 have eO:=ow2_set ho.1 hy.1 n1
 have hst:∀i v,(V.ref a::us)[i]? = some v->(L2.start N (.ref a::us))[i]? = some (some v):=fun i v e=>by
  have hi:i<(V.ref a::us).length:=(List.getElem?_eq_some_iff.mp e).1
  unfold L2.start
  rw [List.getElem?_append_left (by simpa using hi),List.getElem?_map,e]
  rfl
 have o0:ow2 (N.length - 1) a y.1 0=some a:=rfl
 have o1:ow2 (N.length - 1) a y.1 (N.length - 1)=some y.1:=by unfold ow2; rw [if_neg n1,if_pos rfl]
 have on:∀i,i≠0->i≠N.length - 1->ow2 (N.length - 1) a y.1 i=none:=fun i h1 h2=>by unfold ow2; rw [if_neg h1,if_neg h2]
 refine ⟨⟨?_,fun b o e _=>e,fun b z=>?_,fun b z=>by rw [eO] at z; exact hm b z,fun i b e z=>?_,fun i j b e1 e2=>?_,fun i hi=>?_,fun i s e=>?_⟩,fun j d' e=>?_⟩
 ·rw [stM_len hn hN]
  unfold L2.start
  rw [List.length_append,List.length_map,List.length_replicate,List.length_cons,hl]
  omega
 ·have mn:∀b,MutK (H b)->H b≠none:=fun b z w=>by rw [w] at z; rcases z with ⟨_,e⟩ | ⟨_,e⟩ | ⟨_,e⟩ | ⟨_,e⟩ <;> cases e
  rcases z with z | z
  ·rw [z]; exact mn _ ho.2.mut
  ·rw [z]; exact mn _ hy.2.mut
 ·rcases ow2_inv e with ⟨_,rfl⟩ | ⟨_,rfl⟩
  ·exact z.2.1 rfl
  ·exact z.2.2 rfl
 ·rcases ow2_inv e1 with ⟨u1,u2⟩ | ⟨u1,u2⟩ <;> rcases ow2_inv e2 with ⟨w1,w2⟩ | ⟨w1,w2⟩
  ·rw [u1,w1]
  ·exact absurd (u2.symm.trans w2) nd
  ·exact absurd (w2.symm.trans u2) nd
  ·rw [u1,w1]
 ·rw [stM_len hn hN] at hi
  exact on i (by omega) (by omega)
 ·rw [eO]
  rcases stM_at hn hN e with ⟨rfl,rfl⟩ | ⟨k,d1,rfl,ed,rfl⟩ | ⟨q1,q2,rfl⟩ | ⟨rfl,rfl⟩
  ·exact ⟨a,o0,.inl rfl,hst 0 _ rfl,ho.2⟩
  ·obtain ⟨v,hv,dx⟩:=dvs_at hd ed
   have hk:k<ds.length:=(List.getElem?_eq_some_iff.mp ed).1
   exact ⟨on _ (by omega) (by omega),v,hst (k+1) _ (by simpa using hv),dx⟩
  ·exact on i q1 q2
  ·exact ⟨o1,(fun z=>by cases z),fun _=>.inr rfl,hy.2⟩
 ·rcases stM_at hn hN e with ⟨_,z⟩ | ⟨_,_,_,_,z⟩ | ⟨_,_,z⟩ | ⟨_,z⟩ <;> cases z
section
variable {P:Program}{w:World}{K:PySem.W.Frag}{mg:Str->Option Value}{base:Heap}
theorem fun_okM {x qual:Str}{st:Stmt}{f:Addr}{fd:FuncData}{N ps:List Str}{k:Nat}{g:Me->Res (Fl×Me)}(Fu:Fun K x qual st f fd)(S:FnScope N ps (defScope st))(hN:ps.length+1<=N.length)
  (hbody:∀(cdv:Value) (A:Around) (outer:List Env) (s:Shared) (H:Hp) (E:XK),Room k (A.deeper (envOfC qual (defScope st) s.heap.objs.size f cdv))->
   FSs (cxOf (CX1 P w) P w K mg base N qual (defScope st) f cdv A outer s H E) E (defBody st) g):FnOk P w K mg base (CX1 P w) (k+1) f fd ps (spM ⟨K,mg⟩ (runM N.length ps.length g)):=by
 have cond:∀{ds:List D} {d:D} {u:Addr×D},runM N.length ps.length g ds d u≠.stuck->ds.length+1=ps.length:=fun {ds d u} h=>by
  by_cases z:ds.length+1=ps.length
  ·exact z
  ·unfold runM at h; rw [if_neg z] at h; exact absurd rfl h
 refine fun_okx Fu S (fun vs H Q E h=>?_) (fun cdv A outer s H vs Q E hr h=>?_)
 ·obtain ⟨O,a,us,ds,d,u,rfl,_,_,_,_,hd,q⟩:=h
  rw [List.length_cons,dvs_len hd]
  exact cond fun z=>by rw [z] at q; exact q
 ·obtain ⟨O,a,us,ds,d,u,rfl,hm,ho,hu,nd,hd,q⟩:=h
  have hn:=cond (ds:=ds) (d:=d) fun z=>by rw [z] at q; exact q
  unfold runM at q
  rw [if_pos hn] at q
  refine ⟨_,hbody cdv A outer s H E hr,_,_,H,_,_,start_m hm ho hu nd hd hn hN,?_⟩
  have n1:N.length - 1≠0:=by omega
  have fin:∀{ow' σ' H' m' d' e'},RelS (⟨K,mg⟩:Gx) (fun b=>O b/\b≠a/\b≠u.1) (fun b=>b=a\/b=u.1) H ow' σ' H' m'->ioAtP m' 0=some d'->hdF m' (N.length - 1) u.1=some e'->
    Kp (fun b=>b=a\/b=u.1) H H'/\OV ⟨K,mg⟩ O H' a d'/\OV ⟨K,mg⟩ O H' u.1 e'/\∀z r,DV (⟨K,mg⟩:Gx) (Ow (fun b=>O b/\b≠a/\b≠u.1) ow') H' z r->DV ⟨K,mg⟩ O H' z r:=fun {ow' σ' H' m' d' e'} R e0 e1=>by
   obtain ⟨a',k1,k2,k3,k4⟩:=R.slot 0 _ (ioAtP_is e0)
   obtain ⟨x1,x2,x3,x4⟩:=R.slot _ _ (hdF_is e1)
   have ea:a'=a:=by
    rcases k2 with z | z
    ·exact z
    ·exact absurd (R.inj 0 _ _ k1 (z ▸ x1)) (Ne.symm n1)
   subst ea
   have sub:∀b,O b->Ow (fun b=>O b/\b≠a'/\b≠u.1) ow' b\/H' b=none:=fun b z=>by
    by_cases q:b=a'
    ·exact .inl (.inr ⟨0,by rw [q]; exact k1⟩)
    ·by_cases q1:b=u.1
     ·exact .inl (.inr ⟨_,by rw [q1]; exact x1⟩)
     ·exact .inl (.inl ⟨z,q,q1⟩)
   exact ⟨R.keep,k4.anti sub,x4.anti sub,fun z r h=>h.anti sub⟩
  cases z:g (stM N.length ps.length ds d u) with
  |exc c=>rw [z] at q; exact fun C H' e kp=>q C H' e kp
  |stuck=>rw [z] at q; exact q.elim
  |ok b=>
   obtain ⟨fl,m'⟩:=b
   rw [z] at q
   cases fl with
   |bk=>exact q.elim
   |ct=>exact q.elim
   |nx=>
    intro ow' σ' H' R' _
    cases e0:ioAtP m' 0 with
    |none=>simp only [e0] at q; exact q.elim
    |some d'=>
     cases e1:hdF m' (N.length - 1) u.1 with
     |none=>simp only [e0,e1,ofO_some,Res.bind_ok] at q; exact q.elim
     |some e'=>
      simp only [e0,e1] at q
      obtain ⟨k1,k2,k3,k5⟩:=fin R' e0 e1
      exact q _ H' k1 k2 k3 .non
   |rt fr r=>
    intro v' ow' σ' H' R' _ hv' _
    cases e0:ioAtP m' 0 with
    |none=>simp only [e0] at q; exact q.elim
    |some d'=>
     cases e1:hdF m' (N.length - 1) u.1 with
     |none=>simp only [e0,e1,ofO_some,Res.bind_ok] at q; exact q.elim
     |some e'=>
      simp only [e0,e1] at q
      obtain ⟨k1,k2,k3,k5⟩:=fin R' e0 e1
      exact q v' H' k1 k2 k3 (k5 _ _ hv')
end
open PySem PySem.Spec PyProof.Rows L2 Hd
noncomputable abbrev FMm (P:Program)(w:World)(K:PySem.W.Frag)(mg:Str->Option Value)(base:Heap)(k:Nat)(c m:Str)(ps:List Str)(Φ:List D->D->Addr×D->Res (D×D×D)):Prop:=FMt P w K mg base k c m ps (spM ⟨K,mg⟩ Φ)
noncomputable def fxM (c m:Str)(Φ:List D->D->Addr×D->Res (D×D×D))(i j:Nat)(fs:Me->Res (List D)):Me->Res (D×Me):=fun me=>(ofO (ownA me i)).bind fun o=>(ofO (hdAt me j)).bind fun h1=>if isOb c m o.2=true then (fs me).bind fun ds=>(Φ ds o.2 h1.2).bind fun r=>.ok (r.1,(putA me i o.1 r.2.1).set j (.hd h1.1 h1.2.1 r.2.2)) else .stuck
section
variable {X:Cx}{E:XK}{jj k:Nat}{c m x:Str}{ps:List Str}{Φ:List D->D->Addr×D->Res (D×D×D)}{apos pos np:Pos}{e:Expr}{es:List Expr}{fs:Me->Res (List D)}{pl:Sem Bool}
theorem xs_if {G:Gx}{α:Type}{O0 M0:Addr->Prop}{H0:Hp}{ow:Os}{σ:L2.St}{H:Hp}{p:Prop}[Decidable p]{r:Res (α×Me)}{K:α->Hp->Prop}(h:Xs G E O0 M0 H0 ow σ H (if p then r else .stuck) K):p/\Xs G E O0 M0 H0 ow σ H r K:=by
 by_cases z:p
 ·rw [if_pos z] at h; exact ⟨z,h⟩
 ·rw [if_neg z] at h; exact h.elim
theorem fx_m (i j:Nat)(Fh:FMm X.prog X.w X.K X.mg X.base k c m ps Φ)(hr:Room jj X.A)(hx:Passes (CX1 X.prog X.w) X E)(ha:FAE X E (e::es) fs)(hk:k<=jj:=by decide)(hN:X.N[i]? = some x:=by rfl)(hv:Vis X.env.scope x:=by first | exact Or.inl rfl | exact Or.inr (Or.inl rfl) | exact Or.inr (Or.inr rfl))(hd:(x == ("__debug__" : Str))=false:=by decide)(hcd:(x == ("__classdict__" : Str))=false:=by decide)
  (hst:starEach (e::es) X.env=(false,eval e X.env)::starEach es X.env:=by rfl) (hpl:(backTo pos (starEach es X.env)).any (·.1)=false:=by rfl)
  (ht:eval (.Call (.Attribute (.Name x np) m apos) (e::es) [] pos) X.env=(do
   let ov ← eval (.Name x np) X.env
   standAt apos.atName
   let (f,first) ← holding [ov] (getMethod ov m pl)
   callWith pos f first (backTo pos (starEach (e::es) X.env)) (backToKw pos (keywordEach [] X.env))):=by rfl):
  FX X E (.Call (.Attribute (.Name x np) m apos) (e::es) [] pos) (fxM c m Φ i j fs):=by
 obtain ⟨C,gg,fd,hC,hc,hm,G,b⟩:=Fh.ex
 refine pe_weak (pe_meth (pl:=pl) (pe_var hN hv hd hcd) hc hm G (hr.mono hk) b .nil hx ha hst hpl ht) fun σ H Q hE=>xq5 hE fun O0 M0 H0 ow me R q=>?_
 obtain ⟨o,ho,q⟩:=(Xs.pu R.toRel q).ofO
 obtain ⟨h1,hh1,q⟩:=(Xs.pu R.toRel q).ofO
 obtain ⟨kk,d0⟩:=o
 obtain ⟨w1,a1,d1⟩:=h1
 obtain ⟨ob,q⟩:=xs_if q
 obtain ⟨a,e1,e2,e4,e5⟩:=ownA_is R.toRel ho
 have g1:=hdAt_is hh1
 obtain ⟨x1,x2,x3,x4⟩:=R.slot j _ g1
 have ni1:i≠j:=fun z=>by subst z; rcases e5 with ⟨s,_⟩ | ⟨s,_⟩ <;> (rw [g1] at s; cases s)
 have na1:a≠a1:=fun z=>ni1 (R.inj i j a e1 (z ▸ x1))
 obtain ⟨a',C',dx,kvs,ea,ec,eH,l⟩:=ob_dw (e4.anti (O':=fun _=>False) (fun _ z=>z.elim) |>.dv id) ob
 cases ea
 have:some (Value.ref C')=some (.ref C):=ec.symm.trans hC
 cases this
 refine ⟨_,e2,a,dx,kvs,rfl,eH,l,O0,M0,H0,ow,me,R.toRel,(Xs.pu R.toRel q).imp (Same.refl _) fun ds q us H1 g3 hus=>?_⟩
 have R1:=R.mono g3
 have q:Xs (gx X) E O0 M0 H0 ow σ H1 ((Φ ds d0 (a1,d1)).bind fun r=>.ok (r.1,(putA me i kk r.2.1).set j (.hd w1 a1 r.2.2))) _:=q.at g3
 show spM _ _ (V.ref a::(us++[])) _ _ _
 rw [List.append_nil]
 refine ⟨Ow O0 ow,a,us,ds,d0,(a1,d1),rfl,R1.mutk,⟨.inr ⟨i,e1⟩,e4.mono g3⟩,⟨.inr ⟨j,x1⟩,x4.mono g3⟩,na1,hus,?_⟩
 have m0a:H0 a=none\/M0 a:=by
  rcases e5 with ⟨s,_⟩ | ⟨s,_⟩
  ·obtain ⟨a',s1,s2,_⟩:=R.slot i _ s; rw [e1] at s1; cases s1; exact .inl s2
  ·obtain ⟨a',s1,s2,_⟩:=R.slot i _ s; rw [e1] at s1; cases s1; exact .inr s2
 have m01:H0 a1=none\/M0 a1:=by cases w1 with
  |true=>exact .inl (x2 rfl)
  |false=>exact .inr (x3 rfl)
 cases z:Φ ds d0 (a1,d1) with
 |stuck=>rw [z] at q; exact q.elim
 |exc c=>
  rw [z] at q
  refine fun C H' e g=>q C H' e fun b o e n=>?_
  refine g b o (R1.keep b o e n) fun w=>?_
  rcases w with rfl | rfl
  ·rcases m0a with w | w
   ·rw [w] at e; cases e
   ·exact n w
  ·rcases m01 with w | w
   ·rw [w] at e; cases e
   ·exact n w
 |ok r=>
  obtain ⟨rr,d',e'⟩:=r
  rw [z] at q
  intro v H' g ov1 ov2 hv
  have hi:i<me.length:=by rcases e5 with ⟨s,_⟩ | ⟨s,_⟩ <;> exact get_lt s
  have ex:∀c,((putA me i kk d').set j (.hd w1 a1 e'))[c]? = if c=j then some (.hd w1 a1 e') else if c=i then some (if kk then .ow d' else .io d') else me[c]?:=fun c=>by
   have l1:=get_lt g1
   unfold putA
   by_cases c1:c=j
   ·subst c1; rw [if_pos rfl,List.getElem?_set_self (by simpa using l1)]
   ·rw [if_neg c1,List.getElem?_set_ne (Ne.symm c1)]
    by_cases c0:c=i
    ·subst c0; rw [if_pos rfl,List.getElem?_set_self hi]
    ·rw [if_neg c0,List.getElem?_set_ne (Ne.symm c0)]
  obtain ⟨R2,G2⟩:=R1.many (m':=(putA me i kk d').set j (.hd w1 a1 e')) (ch:=fun c=>c=i\/c=j) (by simp [putA]) (fun c n=>by
    rw [ex,if_neg (fun z=>n (.inr z)),if_neg (fun z=>n (.inl z))]) (fun b o eb n=>g b o eb fun w=>n (by
    rcases w with rfl | rfl
    ·exact ⟨i,.inl rfl,e1⟩
    ·exact ⟨j,.inr rfl,x1⟩)) (fun c s cc es=>by
    rw [ex] at es
    rcases cc with rfl | rfl
    ·rw [if_neg ni1,if_pos rfl] at es
     cases es
     rcases e5 with ⟨s,rfl⟩ | ⟨s,rfl⟩
     ·obtain ⟨a',s1,s2,s3,_⟩:=R.slot c _ s
      rw [e1] at s1; cases s1
      exact ⟨⟨a,e1,s2,s3,ov1⟩,fun d z=>by cases z⟩
     ·obtain ⟨a',s1,s2,s3,_⟩:=R.slot c _ s
      rw [e1] at s1; cases s1
      exact ⟨⟨a,e1,s2,s3,ov1⟩,fun d z=>by cases z⟩
    ·rw [if_pos rfl] at es
     cases es
     exact ⟨⟨x1,x2,x3,ov2⟩,fun d z=>by cases z⟩) (fun c b cc eb=>by
    rcases cc with rfl | rfl
    ·rw [e1] at eb; cases eb; exact ⟨ov1.mut,m0a⟩
    ·rw [x1] at eb; cases eb; exact ⟨ov2.mut,m01⟩)
  exact q H' R2 G2 v hv
end
open PySem PySem.Spec PyProof.Rows L2 Hd
noncomputable def gFldIx (i:Nat)(c f:Str)(g:Me->Res D)(ik iv:Nat):Me->Res (Fl×Me):=fun m=>(g m).bind fun d=>match d,m[ik]?,m[iv]? with
 | .lst ds,some (.fz (.int n)),some (.fz dv)=>(ofO (ownI m i)).bind fun o=>if o.2.1=c/\o.2.2.1.length<999 then (ofO (ixN ds.length n)).bind fun t=>.ok (.nx,putI m i o.1 c (putS o.2.2.1 o.2.2.2 f (.lst (ds.set t dv)))) else .stuck
 |_,_,_=>.stuck
theorem upd_comm {H:Hp}{a b:Addr}{o u:HO}(h:a≠b):upd (upd H a o) b u=upd (upd H b u) a o:=by
 funext c
 by_cases q:c=a
 ·subst q; rw [upd_ne h,upd_same,upd_same]
 ·rw [upd_ne q]
  by_cases q2:c=b
  ·subst q2; rw [upd_same,upd_same]
  ·rw [upd_ne q2,upd_ne q2,upd_ne q]
theorem putF_look (f:Str)(v:V)(fs:List (Str×V)):(putF f v fs).lookup f=some v:=by rw [lookup_putF,if_pos rfl]
section
variable {X:Cx}{E:XK}{e:Expr}{g:Me->Res D}{k:Me->Res (Fl×Me)}{c f x kn vn:Str}{fs:List Str}{pos pos' pos2 pos3 spos np np2 kp vp:Pos}{rest:List Stmt}
theorem ss_ofO' {G:Gx}{O0 M0:Addr->Prop}{H0:Hp}{ow:Os}{H:Hp}{W:Ends}{α:Type}{o:Option α}{h:α->Res (Fl×Me)}(q:Ss G E O0 M0 H0 ow H W ((ofO o).bind h)):∃a,o=some a/\Ss G E O0 M0 H0 ow H W (h a):=Ss.ofO q
theorem fss_fldIx (i ik iv:Nat)(Ck:ClsT X.K X.mg c fs)(he:FN X E e g)(h3:FSs X E rest k)(hf:f∈fs:=by decide)(hN:X.N[i]? = some x:=by rfl)(hv:Vis X.env.scope x:=by first | exact Or.inl rfl | exact Or.inr (Or.inl rfl) | exact Or.inr (Or.inr rfl))(hd:(x == ("__debug__" : Str))=false:=by decide)(hcd:(x == ("__classdict__" : Str))=false:=by decide)
  (kN:X.N[ik]? = some kn:=by rfl) (kv:Vis X.env.scope kn:=by first | exact Or.inl rfl | exact Or.inr (Or.inl rfl) | exact Or.inr (Or.inr rfl)) (kd:(kn == ("__debug__" : Str))=false:=by decide) (kcd:(kn == ("__classdict__" : Str))=false:=by decide)
  (vN:X.N[iv]? = some vn:=by rfl) (vv:Vis X.env.scope vn:=by first | exact Or.inl rfl | exact Or.inr (Or.inl rfl) | exact Or.inr (Or.inr rfl)) (vd:(vn == ("__debug__" : Str))=false:=by decide) (vcd:(vn == ("__classdict__" : Str))=false:=by decide)
  (hs:swapsWith e (some (.Attribute (.Name x np) f pos')) pos.line X.env=pure false:=by rfl)
  (hb:attributeBase (.Name x np2) f X.env (eval (.Name x np2) X.env)=eval (.Name x np2) X.env:=by rfl)
  (ha:∀v,assign (.Subscript (.Attribute (.Name x np2) f pos3) (.Name kn kp) spos) X.env v=(do
   let ov ← holding [v] (eval (.Attribute (.Name x np2) f pos3) X.env)
   let iv ← holding [v,ov] (eval (.Name kn kp) X.env)
   standAt spos
   holding [v,ov,iv] (setItem ov iv v)
   release [v,ov,iv] []):=by intro _; rfl)
  (hs2:swapsWithSole [.Subscript (.Attribute (.Name x np2) f pos3) (.Name kn kp) spos] (.Name vn vp) pos2.line X.env=pure false:=by rfl) (hw:swappedStores [.Subscript (.Attribute (.Name x np2) f pos3) (.Name kn kp) spos] (.Name vn vp) X.env=pure none:=by rfl)
  (h1:(assignEach [.Subscript (.Attribute (.Name x np2) f pos3) (.Name kn kp) spos] X.env).map (·.2)=[assign (.Subscript (.Attribute (.Name x np2) f pos3) (.Name kn kp) spos) X.env]:=by rfl):
  FSs X E (.Assign [.Attribute (.Name x np) f pos'] e pos::.Assign [.Subscript (.Attribute (.Name x np2) f pos3) (.Name kn kp) spos] (.Name vn vp) pos2::rest) (gSeq (gFldIx i c f g ik iv) k):=by
 refine pss_weak (pss_cons (ps_fld (pe_var hN hv hd hcd) he hs) (pss_cons (ps_asg (pe_var vN vv vd vcd) (pg_sub (pe_fld (pe_var hN hv hd hcd) hb) (pe_var kN kv kd kcd) set_list ha) hs2 hw h1) h3)) fun W σ H h=>?_
 obtain ⟨O0,M0,H0,ow,m,R,q⟩:=seq_go h
 obtain ⟨C,hC,hc,hn⟩:=Ck.ex
 refine ⟨O0,M0,H0,ow,m,R.toRel,(Ss.pu R.toRel q).imp (Same.refl _) fun d q p H1 g1 np' ov=>?_⟩
 have np:H p=none:=np'
 cases d with
 |lst ds=>
  cases e1:m[ik]? with
  |none=>simp only [e1] at q; exact q.elim
  |some s1=>
   cases s1 with
   |fz d1=>
    cases d1 with
    |int n=>
     cases e2:m[iv]? with
     |none=>simp only [e1,e2] at q; exact q.elim
     |some s2=>
      cases s2 with
      |fz dv=>
       simp only [e1,e2] at q
       obtain ⟨o,ho,q⟩:=ss_ofO' q
       obtain ⟨kk,c',ns,fds⟩:=o
       by_cases z:c'=c/\ns.length<999
       ·rw [if_pos z] at q
        obtain ⟨rfl,hz⟩:=z
        obtain ⟨t,ht,q⟩:=ss_ofO' q
        obtain ⟨xs,ep,hxs⟩:=ov
        obtain ⟨_,vk,k1,k2⟩:=R.slot ik _ e1
        cases k2
        obtain ⟨_,vv',w1,w2⟩:=R.slot iv _ e2
        have pno:=R.toRel.noOw np
        have sm:Same H (upd H1 p (.lst (xs.set t vv'))):=fun b o e=>by
         have nb:b≠p:=fun y=>by rw [y,np] at e; cases e
         rw [upd_ne nb]; exact g1 b o e
        have R2:=R.mono sm
        obtain ⟨a,C',dx,kvs,o1,o2,oc,o3,o4,o5,o6⟩:=ownI_is R2.toRel ho
        have:some (Value.ref C')=some (.ref C):=oc.symm.trans hC
        cases this
        have nap:a≠p:=fun y=>pno (.inr ⟨i,y ▸ o1⟩)
        have o3':H1 a=some (.ins C dx kvs):=by rw [upd_ne nap] at o3; exact o3
        subst o4
        have kpp:Kp (Op (Ow O0 ow) p) H1 (upd H1 p (.lst (xs.set t vv'))):=fun b o e nb=>by rw [upd_ne fun y=>nb (.inr y)]; exact e
        have mk1:∀b,Op (Ow O0 ow) p b->MutK (H1 b):=fun b y=>by
         rcases y with y | y
         ·exact mutk_mono g1 (R.mutk b y)
         ·rw [y,ep]; exact .inl ⟨_,rfl⟩
        have dvl:DV (gx X) (Ow O0 ow) (upd H1 p (.lst (xs.set t vv'))) (.ref p) (.lst (ds.set t dv)):=
         .lst (.inl ⟨pno,.inl upd_same⟩) (dvs_setAt (w2.mono sm) t ((hxs.kp mk1 kpp).anti fun b y=>.inl (.inl y)))
        obtain ⟨p1,p2⟩:=putS_is (f:=f) dvl o5
        obtain ⟨R3,g3⟩:=R2.putI (dx:=dx) o1 hC o6 p1 p2
        refine ⟨_,o2,a,C,dx,kvs,rfl,o3',hc,hn f hf,by simp at hz; omega,?_⟩
        refine ⟨_,w1,_,o2,a,C,dx,_,.ref p,rfl,upd_same,hc,hn f hf,putF_look f _ kvs,_,k1,p,xs,n,t,rfl,rfl,by rw [upd_ne (Ne.symm nap)]; exact ep,by rw [dvs_len hxs]; exact ht,?_⟩
        rw [upd_comm nap]
        exact q _ _ _ R3 ((Go.refl sm).trans g3)
       ·rw [if_neg z] at q; exact q.elim
      |_=>simp only [e1,e2] at q; exact q.elim
    |_=>simp only [e1] at q; exact q.elim
   |_=>simp only [e1] at q; exact q.elim
 |_=>exact q.elim
end
open PySem PySem.Spec PyProof.Rows L2 Hd
section
variable {P:Program}{w:World}{K:PySem.W.Frag}{mg:Str->Option Value}{base:Heap}
end
open PySem PySem.Spec PyProof.Rows L2 Hd
section
variable {G:Gx}{O0 M0:Addr->Prop}{H0 H H':Hp}{ow:Os}{σ:L2.St}{m:Me}
theorem RelS.forget (R:RelS G O0 M0 H0 ow σ H m){m':Me}(hl:m'.length=m.length):RelS G O0 M0 H0 (fun _=>none) σ H (m'.map fun _=>Sl.un)/\Go O0 ow H (fun _=>none) H:=by
 refine ⟨⟨⟨by rw [List.length_map,hl]; exact R.len,R.keep,R.m0,fun b z=>R.mutk b (z.elim .inl fun ⟨_,e⟩=>by cases e),fun i a e=>(by cases e),fun i j a e _=>(by cases e),fun i _=>rfl,fun i s e=>?_⟩,fun j d e=>?_⟩,fun b o e _=>e,fun i a e=>(by cases e),fun _ n=>n⟩
 ·rw [List.getElem?_map] at e
  cases q:m'[i]? with
  |none=>rw [q] at e; cases e
  |some s0=>rw [q] at e; cases e; rfl
 ·rw [List.getElem?_map] at e
  cases q:m'[j]? with
  |none=>rw [q] at e; cases e
  |some s0=>rw [q] at e; cases e
end
section
variable {X:Cx}{E:XK}
end
open PySem PySem.Spec PyProof.Rows L2 Hd
noncomputable def spI (G:Gx)(c f:Str)(Φ:List D->Res (List Str×List D×D)):Sp:=fun vs H Q E=>∃O a us ds C dx,vs=.ref a::us/\(∀b,O b->MutK (H b))/\O a/\G.mg c=some (.ref C)/\H a=some (.ins C dx [])/\DVs G O H us ds/\match Φ ds with
 | .ok (ns,fds,e)=>∀H' y,Kp (· = a) H H'->H y=none->OV G (Op O y) H' a (.ins c (putS ns fds f (.adr y)).1 (putS ns fds f (.adr y)).2)->OV G (Op O y) H' y e->Q .non H'
 |_=>False
noncomputable def tIn (G:Gx)(E:XK)(f:Str)(h:Me->Res (Me×D)):TS:=fun W σ H=>∃O0 M0 H0 ow m,RelS G O0 M0 H0 ow σ H m/\match h m with
 | .ok (m',d)=>(∃c ns ds,m'[0]? = some (.io (.ins c ns ds))/\ns.length<999)/\∀ow' σ' H1 H2 y,RelS G O0 M0 H0 ow' σ' H1 m'->Go O0 ow H ow' H1->Same H1 H2->H1 y=none->OV G (Op (Ow O0 ow') y) H2 y d->∀a C dx kvs,ow' 0=some a->H2 a=some (.ins C dx kvs)->W.nx σ' (upd H2 a (.ins C dx (putF f (.ref y) kvs)))
 |_=>False
noncomputable abbrev FIs (X:Cx)(E:XK)(f:Str)(l:List Stmt)(h:Me->Res (Me×D)):Prop:=PSs X l (tIn (gx X) E f h)
noncomputable def gSeqI (g:Me->Res (Fl×Me))(h:Me->Res (Me×D)):Me->Res (Me×D):=fun m=>match g m with
 | .ok (.nx,m')=>h m'
 |_=>.stuck
noncomputable def gLastI (g:Me->Res D):Me->Res (Me×D):=fun m=>(g m).bind fun d=>.ok (m,d)
section
variable {X:Cx}{E:XK}{e:Expr}{g:Me->Res D}{c f x:Str}{fs:List Str}{pos pos' np:Pos}
theorem fi_cons {st:Stmt}{rest:List Stmt}{s:Me->Res (Fl×Me)}{h:Me->Res (Me×D)}(h1:FS X E st s)(h2:FIs X E f rest h):FIs X E f (st::rest) (gSeqI s h):=
 pss_weak (pss_cons h1 h2) fun W σ H hE=>xq5 hE fun O0 M0 H0 ow m R q=>⟨O0,M0,H0,ow,m,R,by
  unfold gSeqI at q
  cases z:s m with
  |exc c=>rw [z] at q; exact q.elim
  |stuck=>rw [z] at q; exact q.elim
  |ok r=>
   obtain ⟨fl,m1⟩:=r
   rw [z] at q
   cases fl with
   |nx=>
    intro ow1 σ1 H1 R1 g1
    refine ⟨O0,M0,H0,ow1,m1,R1,?_⟩
    have q:(match h m1 with
     | .ok (m',d)=>(∃c ns ds,m'[0]? = some (Sl.io (.ins c ns ds))/\ns.length<999)/\∀ow' σ' H1 H2 y,RelS (gx X) O0 M0 H0 ow' σ' H1 m'->Go O0 ow H ow' H1->Same H1 H2->H1 y=none->OV (gx X) (Op (Ow O0 ow') y) H2 y d->∀a C dx kvs,ow' 0=some a->H2 a=some (.ins C dx kvs)->W.nx σ' (upd H2 a (.ins C dx (putF f (.ref y) kvs)))
     |_=>False):=q
    cases z2:h m1 with
    |ok r=>
     obtain ⟨m',d⟩:=r
     rw [z2] at q
     exact ⟨q.1,fun ow' σ' H2 H3 y R2 g2=>q.2 ow' σ' H2 H3 y R2 (g1.trans g2)⟩
    |exc c=>rw [z2] at q; exact q
    |stuck=>rw [z2] at q; exact q
   |_=>exact q.elim⟩
theorem fi_last (i:Nat)(Ck:ClsT X.K X.mg c fs)(he:FN X E e g)(hi:i=0:=by rfl)(hf:f∈fs:=by decide)(hN:X.N[i]? = some x:=by rfl)(hv:Vis X.env.scope x:=by first | exact Or.inl rfl | exact Or.inr (Or.inl rfl) | exact Or.inr (Or.inr rfl))(hd:(x == ("__debug__" : Str))=false:=by decide)(hcd:(x == ("__classdict__" : Str))=false:=by decide)
  (hs:swapsWith e (some (.Attribute (.Name x np) f pos')) pos.line X.env=pure false:=by rfl):FIs X E f [.Assign [.Attribute (.Name x np) f pos'] e pos] (fun m=>if isOb c "" ((ioAtP m 0).getD .non)=true then gLastI g m else .stuck):=by
 subst hi
 refine pss_weak (pss_one (ps_fld (pe_var hN hv hd hcd) he hs)) fun W σ H hE=>xq5 hE fun O0 M0 H0 ow m R q=>?_
 by_cases ob:isOb c "" ((ioAtP m 0).getD .non)=true
 case neg=>simp only [if_neg ob] at q
 simp only [if_pos ob] at q
 obtain ⟨C,hC,hc,hn⟩:=Ck.ex
 unfold gLastI at q
 cases z:g m with
 |exc c=>rw [z] at q; exact q.elim
 |stuck=>rw [z] at q; exact q.elim
 |ok d=>
  rw [z] at q
  obtain ⟨⟨c',ns,ds,e0,hl⟩,q⟩:=q
  refine ⟨O0,M0,H0,ow,m,R.toRel,?_⟩
  rw [z]
  intro p H1 g1 np' ov
  have R1:=R.mono g1
  have eo:ioAtP m 0=some (.ins c' ns ds):=by unfold ioAtP; rw [e0]
  rw [eo] at ob
  obtain ⟨a,o1,o2,o3,C',dx,kvs,vs,oc,o4,o5,o6,o7⟩:=R1.slot 0 _ e0
  have ec:=of_decide_eq_true (Bool.and_eq_true_iff.mp (show (decide (c'=c) && !ns.contains "")=true from ob)).1
  subst ec
  have:some (Value.ref C')=some (.ref C):=oc.symm.trans hC
  cases this
  refine ⟨_,o3,a,C,dx,kvs,rfl,o4,hc,hn f hf,by rw [← o5] at hl; simp at hl; omega,?_⟩
  exact q ow σ H H1 p R (Go.refl (Same.refl _)) g1 np' ov a C dx kvs o1 o4
end
noncomputable def runI (N n:Nat)(c:Str)(h:Me->Res (Me×D)):List D->Res (List Str×List D×D):=fun ds=>if ds.length+1=n then match h (.io (.ins c [] [])::(ds.map Sl.fz++List.replicate (N - n) Sl.un)) with
  | .ok (m',d)=>match m'[0]? with
   |some (Sl.io (.ins c' ns fds))=>if c'=c/\ns.length<999 then .ok (ns,fds,d) else .stuck
   |_=>.stuck
  |_=>.stuck
 else .stuck
section
variable {P:Program}{w:World}{K:PySem.W.Frag}{mg:Str->Option Value}{base:Heap}
theorem fun_okI {x qual:Str}{st:Stmt}{f:Addr}{fd:FuncData}{N ps:List Str}{k:Nat}(c fl:Str){h:Me->Res (Me×D)}(Fu:Fun K x qual st f fd)(S:FnScope N ps (defScope st))(hN:ps.length<=N.length)
  (hbody:∀(cdv:Value) (A:Around) (outer:List Env) (s:Shared) (H:Hp) (E:XK),Room k (A.deeper (envOfC qual (defScope st) s.heap.objs.size f cdv))->
   FIs (cxOf (CX1 P w) P w K mg base N qual (defScope st) f cdv A outer s H E) E fl (defBody st) h):FnOk P w K mg base (CX1 P w) (k+1) f fd ps (spI ⟨K,mg⟩ c fl (runI N.length ps.length c h)):=by
 have cond:∀{ds:List D},runI N.length ps.length c h ds≠.stuck->ds.length+1=ps.length:=fun {ds} z=>by
  by_cases q:ds.length+1=ps.length
  ·exact q
  ·unfold runI at z; rw [if_neg q] at z; exact absurd rfl z
 refine fun_okx Fu S (fun vs H Q E q=>?_) (fun cdv A outer s H vs Q E hr q=>?_)
 ·obtain ⟨O,a,us,ds,C,dx,rfl,_,_,_,_,hd,q⟩:=q
  rw [List.length_cons,dvs_len hd]
  exact cond fun z=>by rw [z] at q; exact q
 ·obtain ⟨O,a,us,ds,C,dx,rfl,hm,oa,hC,hH,hd,q⟩:=q
  have hn:=cond (ds:=ds) fun z=>by rw [z] at q; exact q
  unfold runI at q
  rw [if_pos hn] at q
  have st:=start_iop (p:=0) (N:=N) (d:=.ins c [] []) (Nat.zero_le _) hm oa ⟨C,dx,[],[],hC,hH,rfl,rfl,.nil⟩ hd hn hN
  refine ⟨_,hbody cdv A outer s H E hr,_,_,H,_,_,st,?_⟩
  show (match h (.io (.ins c [] [])::(ds.map Sl.fz++List.replicate (N.length - ps.length) Sl.un)) with
   | .ok (m',d)=>_
   |_=>False)
  cases z:h (.io (.ins c [] [])::(ds.map Sl.fz++List.replicate (N.length - ps.length) Sl.un)) with
  |exc c=>rw [z] at q; exact q
  |stuck=>rw [z] at q; exact q
  |ok r=>
   obtain ⟨m',d⟩:=r
   rw [z] at q
   cases e0:m'[0]? with
   |none=>simp only [e0] at q
   |some sl=>
    cases sl with
    |io dd=>
     cases dd with
     |ins c' ns fds=>
      simp only [e0] at q
      by_cases hz:c'=c/\ns.length<999
      ·rw [if_pos hz] at q
       obtain ⟨rfl,hl⟩:=hz
       refine ⟨⟨_,ns,fds,e0,hl⟩,fun ow' σ' H1 H2 y R' _ g2 ny ov a2 C2 dx2 kvs2 oa2 eh2=>?_⟩
       obtain ⟨a',k1,k2,k3,C3,dx3,kvs,vs,oc,o4,o5,o6,o7⟩:=R'.slot 0 _ e0
       have ka:a'=a:=k2
       subst ka
       rw [k1] at oa2
       cases oa2
       have e2:=g2 _ _ o4
       rw [e2] at eh2
       cases eh2
       have:some (Value.ref C2)=some (.ref C):=oc.symm.trans hC
       cases this
       subst o5 o6
       have nya:y≠a2:=fun w=>by rw [w,o4] at ny; cases ny
       have sub:∀b,O b->Ow (fun b=>O b/\b≠a2) ow' b\/H1 b=none:=fun b w=>by
        by_cases q:b=a2
        ·exact .inl (.inr ⟨0,by rw [q]; exact k1⟩)
        ·exact .inl (.inl ⟨w,q⟩)
       have sub2:∀b,Op O y b->Ow (fun b=>O b/\b≠a2) ow' b\/H1 b=none:=fun b w=>w.elim (sub b) fun w=>.inr (by rw [w]; exact ny)
       have mk2:∀b,Op O y b->MutK (H2 b):=fun b w=>by
        rcases w with w | w
        ·rcases sub b w with u | u
         ·exact mutk_mono g2 (R'.mutk b u)
         ·by_cases q:b=a2
          ·rw [q,e2]; exact .inr (.inr (.inr ⟨(C,_,_),rfl⟩))
          ·exact mutk_mono g2 (R'.mutk b (.inl ⟨w,q⟩))
        ·rw [w]; exact ov.mut
       have kpp:Kp (Op O y) H2 (upd H2 a2 (.ins C dx2 (putF fl (.ref y) kvs2))):=fun b o e nb=>by
        rw [upd_ne fun (w:b=a2)=>nb (.inl (by rw [w]; exact oa))]; exact e
       have d2:=((o7.anti sub2).mono g2)
       obtain ⟨p1,p2⟩:=putS_is (f:=fl) (v:=.ref y) (d:=.adr y) (.adr y) d2
       refine q _ y (fun b o e nb=>?_) (R'.toRel.free0 ny) ⟨C,dx2,_,_,hC,upd_same,p1,rfl,p2.kp mk2 kpp⟩ ?_
       ·rw [upd_ne nb]; exact g2 _ _ (R'.keep b o e nb)
       ·refine OV.kp mk2 kpp (upd_ne nya) (ov.anti fun b w=>?_)
        rcases w with w | w
        ·rcases sub b w with u | u
         ·exact .inl (.inl u)
         ·by_cases q:b=a2
          ·exact .inl (.inl (.inr ⟨0,by rw [q]; exact k1⟩))
          ·exact .inl (.inl (.inl ⟨w,q⟩))
        ·exact .inl (.inr w)
      ·rw [if_neg hz] at q; exact q.elim
     |_=>simp only [e0] at q
    |_=>simp only [e0] at q
end
open Classical in
noncomputable def gUni1 (h:Addr->Res (Fl×Me))(m:Me):Res (Fl×Me):=
 if H:∃p:Bool×D,∀a:Addr,∃m',h a=.ok (.rt p.1 p.2,m')/\m'.length=m.length then .ok (.rt (Classical.choose H).1 (Classical.choose H).2,m.map fun _=>.un) else .stuck
theorem gUni1_eq {h:Addr->Res (Fl×Me)}{m:Me}{fr:Bool}{d:D}(H:∀a:Addr,∃m',h a=.ok (.rt fr d,m')/\m'.length=m.length):gUni1 h m=.ok (.rt fr d,m.map fun _=>.un):=by
 have Hx:∃p:Bool×D,∀a:Addr,∃m',h a=.ok (.rt p.1 p.2,m')/\m'.length=m.length:=⟨(fr,d),H⟩
 obtain ⟨m1,e1,_⟩:=Classical.choose_spec Hx 0
 obtain ⟨m2,e2,_⟩:=H 0
 rw [e1] at e2
 unfold gUni1
 rw [dif_pos Hx]
 injection e2 with e2
 injection e2 with e2 _
 injection e2 with e3 e4
 rw [e3,e4]
noncomputable def owS2 (ow:Os)(i j:Nat)(a b:Addr):Os:=fun k=>if k=i then some a else if k=j then some b else ow k
section
variable {G:Gx}{O0 M0:Addr->Prop}{H0 H H':Hp}{ow:Os}{σ:L2.St}{m:Me}
theorem RelS.own2 {i j:Nat}{p p1:Addr}{d d1:D}(R:RelS G O0 M0 H0 ow σ H m)(g:Same H H')(n:H p=none)(n1:H p1=none)(np:p≠p1)(hi:i<m.length)(hj:j<m.length)(ij:i≠j)
  (o:OV G (fun b=>Ow O0 ow b\/b=p\/b=p1) H' p d) (o1:OV G (fun b=>Ow O0 ow b\/b=p\/b=p1) H' p1 d1):
  RelS G O0 M0 H0 (owS2 ow i j p p1) (σ.set i (some (.ref p))) H' ((m.set i (.ow d)).set j (.hd true p1 d1))/\Go O0 ow H (owS2 ow i j p p1) H':=by
 have q0:=R.toRel.noOw n
 have q1:=R.toRel.noOw n1
 have inv:∀k b,owS2 ow i j p p1 k=some b->(k=i/\b=p)\/(k=j/\b=p1)\/(k≠i/\k≠j/\ow k=some b):=fun k b e=>by
  unfold owS2 at e
  split at e
  ·rename_i q; cases e; exact .inl ⟨q,rfl⟩
  ·split at e
   ·rename_i q; cases e; exact .inr (.inl ⟨q,rfl⟩)
   ·rename_i a b; exact .inr (.inr ⟨a,b,e⟩)
 have out:∀b,Ow O0 (owS2 ow i j p p1) b->Ow O0 ow b\/b=p\/b=p1:=fun b z=>by
  rcases z with z | ⟨k,e⟩
  ·exact .inl (.inl z)
  ·rcases inv k b e with ⟨_,z⟩ | ⟨_,z⟩ | ⟨_,_,z⟩
   ·exact .inr (.inl z)
   ·exact .inr (.inr z)
   ·exact .inl (.inr ⟨k,z⟩)
 have sub:∀b,Ow O0 (owS2 ow i j p p1) b->Ow O0 ow b\/H b=none:=fun b z=>by
  rcases out b z with z | z | z
  ·exact .inl z
  ·rw [z]; exact .inr n
  ·rw [z]; exact .inr n1
 have R':=R.mono g
 have e0:owS2 ow i j p p1 i=some p:=if_pos rfl
 have e1:owS2 ow i j p p1 j=some p1:=by unfold owS2; rw [if_neg (Ne.symm ij),if_pos rfl]
 have en:∀k,k≠i->k≠j->owS2 ow i j p p1 k=ow k:=fun k a b=>by unfold owS2; rw [if_neg a,if_neg b]
 have ex:∀c,((m.set i (.ow d)).set j (.hd true p1 d1))[c]? = if c=j then some (.hd true p1 d1) else if c=i then some (.ow d) else m[c]?:=fun c=>by
  by_cases c1:c=j
  ·subst c1; rw [if_pos rfl,List.getElem?_set_self (by simpa using hj)]
  ·rw [if_neg c1,List.getElem?_set_ne (Ne.symm c1)]
   by_cases c0:c=i
   ·subst c0; rw [if_pos rfl,List.getElem?_set_self hi]
   ·rw [if_neg c0,List.getElem?_set_ne (Ne.symm c0)]
 refine ⟨⟨⟨by simp [R.len],R'.keep,R'.m0,fun b z=>?_,fun k a e=>?_,fun k l a a1 a2=>?_,fun k hk=>?_,fun k s e=>?_⟩,fun k dd e=>?_⟩,.of g,fun k a e=>?_,(Go.refl (O0:=O0) (ow:=ow) g).dom⟩
 ·rcases out b z with z | z | z
  ·exact R'.mutk b z
  ·rw [z]; exact o.mut
  ·rw [z]; exact o1.mut
 ·rcases inv k a e with ⟨_,z⟩ | ⟨_,z⟩ | ⟨_,_,z⟩
  ·rw [z]; exact fun w=>q0 (.inl w)
  ·rw [z]; exact fun w=>q1 (.inl w)
  ·exact R.no0 k a z
 ·rcases inv k a a1 with ⟨u,z⟩ | ⟨u,z⟩ | ⟨_,_,z⟩ <;> rcases inv l a a2 with ⟨v,y⟩ | ⟨v,y⟩ | ⟨_,_,y⟩
  ·rw [u,v]
  ·exact absurd (z.symm.trans y) np
  ·exact absurd (.inr ⟨l,z ▸ y⟩) q0
  ·exact absurd (y.symm.trans z) np
  ·rw [u,v]
  ·exact absurd (.inr ⟨l,z ▸ y⟩) q1
  ·exact absurd (.inr ⟨k,y ▸ z⟩) q0
  ·exact absurd (.inr ⟨k,y ▸ z⟩) q1
  ·exact R.inj k l a z y
 ·have hk':m.length<=k:=by simpa using hk
  rw [en k (by omega) (by omega)]
  exact R.out k hk'
 ·rw [ex] at e
  by_cases c1:k=j
  ·rw [if_pos c1] at e
   cases e
   rw [c1]
   exact ⟨e1,fun _=>R.toRel.free0 n1,(fun z=>by cases z),o1.anti fun b z=>.inl (out b z)⟩
  ·rw [if_neg c1] at e
   by_cases c0:k=i
   ·rw [if_pos c0] at e
    cases e
    rw [c0]
    exact ⟨p,e0,R.toRel.free0 n,by rw [List.getElem?_set_self (by rw [R.len]; exact hi)],o.anti fun b z=>.inl (out b z)⟩
   ·rw [if_neg c0] at e
    rw [en k c0 c1,List.getElem?_set_ne (Ne.symm c0)]
    exact ((R.slot k s e).anti sub fun _ _ b _=>Classical.em _).mono g
 ·rw [ex] at e
  split at e
  ·cases e
  ·split at e
   ·cases e
   ·exact R.nb k dd e
 ·rcases inv k a e with ⟨_,z⟩ | ⟨_,z⟩ | ⟨_,_,z⟩
  ·rw [z]; exact .inr n
  ·rw [z]; exact .inr n1
  ·exact .inl (.inr ⟨k,z⟩)
end
structure MkT (P:Program)(w:World)(K:PySem.W.Frag)(mg:Str->Option Value)(base:Heap)(k:Nat)(c:Str)(ps:List Str)(sp:Sp):Prop where
 ex:∃C g fd,mg c=some (.ref C)/\Mk K C g/\FnOk P w K mg base (CX1 P w) k g fd ps sp/\Binds K fd ps []
noncomputable def gNewO (i j:Nat)(c f:Str)(Φ:List D->Res (List Str×List D×D))(fs:Me->Res (List D))(k:Me->Res (Fl×Me)):Me->Res (Fl×Me):=fun m=>
 (fs m).bind fun ds=>match Φ ds with
  | .ok r=>if i<m.length/\j<m.length then gUni1 (fun y=>k ((m.set i (.ow (.ins c (putS r.1 r.2.1 f (.adr y)).1 (putS r.1 r.2.1 f (.adr y)).2))).set j (.hd true y r.2.2))) m else .stuck
  |_=>.stuck
section
variable {X:Cx}{E:XK}{jj k:Nat}{c f y:Str}{ps:List Str}{Φ:List D->Res (List Str×List D×D)}{py pos cpos np:Pos}{e:Expr}{es:List Expr}{fs:Me->Res (List D)}{rest:List Stmt}{kk:Me->Res (Fl×Me)}
theorem fss_newO (i j:Nat)(Fh:MkT X.prog X.w X.K X.mg X.base k c ps (spI (gx X) c f Φ))(hr:Room jj X.A)(hx:Passes (CX1 X.prog X.w) X E)(hN:X.N.Nodup)(hi:X.N[i]? = some y)(hy:Loc X.env.scope y)(ha:FAE X E (e::es) fs)(h3:FSs X E rest kk)(hk:k+1<=jj:=by decide)(hg:Gl X c:=by rfl)(ij:i≠j:=by decide)
  (hdb:(c == ("__debug__" : Str))=false:=by decide) (he:starEach (e::es) X.env=(false,eval e X.env)::starEach es X.env:=by rfl) (hpl:(backTo cpos (starEach es X.env)).any (·.1)=false:=by rfl)
  (hs:swapsWith (.Call (.Name c np) (e::es) [] cpos) (some (.Name y py)) pos.line X.env=pure false:=by rfl)
  (hf:X.fn y=true\/X.env.scope.names.lookup y=some .local:=by first | exact .inl rfl | exact .inr rfl | assumption):
  FSs X E (.Assign [.Name y py] (.Call (.Name c np) (e::es) [] cpos) pos::rest) (gNewO i j c f Φ fs kk):=by
 obtain ⟨C,gg,fd,hC,M,G,b⟩:=Fh.ex
 refine pss_weak (pss_cons (ps_set hN hi hy (pe_make M G (hr.mono hk) hg hC b .nil hx ha hdb he hpl) hs hf) h3) fun W σ H hE=>xq5 hE fun O0 M0 H0 ow m R q=>?_
 refine ⟨O0,M0,H0,ow,m,R.toRel,(Ss.pu R.toRel q).imp (Same.refl _) fun ds q vs H1 g1 hvs x dx nx ndx hne=>?_⟩
 cases z:Φ ds with
 |exc c=>rw [z] at q; exact q.elim
 |stuck=>rw [z] at q; exact q.elim
 |ok r=>
  obtain ⟨ns,fds,he'⟩:=r
  rw [z] at q
  have q:Ss (gx X) E O0 M0 H0 ow H W (if i<m.length/\j<m.length then gUni1 (fun y=>kk ((m.set i (.ow (.ins c (putS ns fds f (.adr y)).1 (putS ns fds f (.adr y)).2))).set j (.hd true y he'))) m else .stuck):=q
  by_cases hc:i<m.length/\j<m.length
  case neg=>rw [if_neg hc] at q; exact q.elim
  rw [if_pos hc] at q
  obtain ⟨li,lj⟩:=hc
  unfold gUni1 at q
  split at q
  case isFalse=>exact q.elim
  rename_i HU
  have sp:=Classical.choose_spec HU
  generalize hfd:Classical.choose HU=fd' at sp q
  obtain ⟨fr,dd⟩:=fd'
  have hxn:H x=none:=g1.free nx
  have sm:Same H1 (upd (upd H1 dx (.own x)) x (.ins C dx [])):=fun b o e=>by
   have n1:b≠x:=fun y=>by rw [y,nx] at e; cases e
   have n2:b≠dx:=fun y=>by rw [y,ndx] at e; cases e
   rw [upd_ne n1,upd_ne n2]; exact e
  have R1:=R.mono g1
  show spI _ _ _ _ (V.ref x::(vs++[])) _ _ _
  rw [List.append_nil]
  refine ⟨Op (Ow O0 ow) x,x,vs,ds,C,dx,rfl,fun b w=>?_,.inr rfl,hC,upd_same,(hvs.anti fun b w=>w.elim .inl fun w=>.inr (by rw [w]; exact nx)).mono sm,?_⟩
  ·rcases w with w | w
   ·exact mutk_mono sm (R1.mutk b w)
   ·rw [w,upd_same]; exact .inr (.inr (.inr ⟨(C,dx,[]),rfl⟩))
  ·rw [z]
   intro H' yy kp ny ov1 ov2
   refine ⟨rfl,?_⟩
   have nyx:x≠yy:=fun w=>by rw [← w,upd_same] at ny; cases ny
   have hyn:H yy=none:=(g1.trans sm).free ny
   have gB:Same H H':=fun b o e=>by
    have e1:=(g1.trans sm) b o e
    exact kp b o e1 fun w=>by rw [w,hxn] at e; cases e
   have cv:∀b,(Ow O0 ow b\/b=x\/b=yy)->Op (Op (Ow O0 ow) x) yy b\/H' b=none:=fun b w=>by
    rcases w with w | w | w
    ·exact .inl (.inl (.inl w))
    ·exact .inl (.inl (.inr w))
    ·exact .inl (.inr w)
   obtain ⟨R8,g8⟩:=R.own2 (i:=i) (j:=j) gB hxn hyn nyx li lj ij (ov1.anti cv) (ov2.anti cv)
   obtain ⟨m',eq,hlm⟩:=sp yy
   have eq:kk ((m.set i (.ow (.ins c (putS ns fds f (.adr yy)).1 (putS ns fds f (.adr yy)).2))).set j (.hd true yy he'))=.ok (.rt fr dd,m'):=eq
   refine ⟨O0,M0,H0,_,_,R8,?_⟩
   rw [eq]
   intro v ow' σ' H9 R9 g9 hv hfr
   obtain ⟨R10,g10⟩:=R9.forget (m':=m) hlm.symm
   refine q v _ σ' H9 R10 ((g8.trans g9).trans g10) (hv.anti fun b z=>.inl (z.elim .inl fun ⟨_,e⟩=>by cases e)) fun z=>?_
   rcases hfr z with ⟨p0,u1,u2,u3⟩ | t
   ·exact .inl ⟨p0,u1,u2,u3.anti fun b z=>.inl (z.elim (fun w=>.inl (w.elim .inl fun ⟨_,e⟩=>by cases e)) .inr)⟩
   ·exact .inr t
end
open PySem PySem.Spec PyProof.Rows L2 Hd
theorem all_turned {X:Cx}{pins:List (Addr×Obj)}{σ:L2.St}{H:Hp}{h':Heap}:∀(L:List Addr) (s:Shared),Inv X pins σ H s->L.Nodup->(∀b∈L,FpOk X pins H b)->(∀b∈L,∃o,s.heap.get? b=some o)->(∀b∈L,∃o,h'.get? b=some o/\o.isFreed=false)->
  (∀b o,b∉L->s.heap.get? b=some o->h'.get? b=some o)->∃h1,Inv X pins σ H { s with heap:=h1 }/\h1.objs.size=s.heap.objs.size/\∀b u,h1.get? b=some u->h'.get? b=some u
 |[],s,I,_,_,_,_,k=>⟨s.heap,I,rfl,fun b u e=>k b u (by simp) e⟩
 |e::L,s,I,nd,fp,he,hn,k=>by
  obtain ⟨nd1,nd2⟩:=List.nodup_cons.mp nd
  obtain ⟨oe,q1,q2⟩:=hn e List.mem_cons_self
  obtain ⟨o0,q0⟩:=he e List.mem_cons_self
  obtain ⟨f0,f1,f2,f3,f4,f5⟩:=fp e List.mem_cons_self
  have I1:Inv X pins σ H { s with heap:=s.heap.update e fun _=>oe }:=I.turned (t':=s.toks) (fun b o hb x=>(Heap.get?_update_other _ _ (Ne.symm hb)).trans x) f0 f1 f3 f4 f5
  obtain ⟨h1,I2,z,kk⟩:=all_turned (h':=h') L { s with heap:=s.heap.update e fun _=>oe } I1 nd2 (fun b hb=>fp b (List.mem_cons_of_mem _ hb)) (fun b hb=>by
   obtain ⟨o,ho⟩:=he b (List.mem_cons_of_mem _ hb)
   exact ⟨o,(Heap.get?_update_other _ _ (fun (y:e=b)=>nd1 (by rw [y]; exact hb))).trans ho⟩) (fun b hb=>hn b (List.mem_cons_of_mem _ hb)) fun b o hb x=>by
   have x:(s.heap.update e fun _=>oe).get? b=some o:=x
   by_cases y:b=e
   ·subst y
    rw [Heap.get?_update_self (fun _=>oe) q0 q2] at x
    cases x
    exact q1
   ·rw [Heap.get?_update_other _ _ (Ne.symm y)] at x
    exact k b o (fun w=>(List.mem_cons.mp w).elim y hb) x
  exact ⟨h1,I2,z.trans (Heap.SameBut.update _ _ _).1,kk⟩
noncomputable def Itz (K : PySem.W.Frag) (a b : Addr) : It :=
  ⟨fun i H => ∃ xs ys x y, SqL K H a xs ∧ SqL K H b ys ∧ xs[i]? = some x ∧ ys[i]? = some y,
   fun i H x H' => ∃ y1 y2 l, (∀ xs, SqL K H a xs → xs[i]? = some y1) ∧ (∀ ys, SqL K H b ys → ys[i]? = some y2) ∧ x = .ref l ∧ H l = none ∧ H' = upd H l (.tup [y1, y2]),
   fun i H => ∃ xs ys, SqL K H a xs ∧ SqL K H b ys ∧ (xs.length ≤ i ∨ ys.length ≤ i)⟩
theorem Inv.turnedL {X:Cx}{pins:List (Addr×Obj)}{σ:L2.St}{H:Hp}{s:Shared}{h':Heap}{t':Nat}(L:List Addr)(I:Inv X pins σ H s)(fp:∀b∈L,FpOk X pins H b)(k:∀b o,b∉L->s.heap.get? b=some o->h'.get? b=some o):Inv X pins σ H { s with heap:=h',toks:=t' }:=by
 have nit:∀b u,H b=some u->b∉L:=fun b u e z=>by have:=(fp b z).1; rw [this] at e; cases e
 by_cases hL:X.env.locals∈L
 ·exact absurd rfl (fp _ hL).2.1
 refine I.step (g':=s.gens) (d':=s.drawn) (ch:=L) (fun b hb=>?_) (fun b o _ _ hc e _=>k b o hc e) (fun b o _ _ hc e _=>⟨o.slots,k b o hc e⟩) (fun _ _ _ _ n=>n)
  (fun b o hc e=>⟨o,k b o hc e⟩) (fun _ _ e=>e) (fun _ _ _ e=>e) (fun b ps e=>⟨#[],by rw [e]; simp⟩) (fun m hm=>?_) (fun b u e=>?_) I.bare
 ·obtain ⟨_,h1,_,h2,h3,h4⟩:=fp b hb
  exact ⟨h2,h1,h3,h4⟩
 ·obtain ⟨o,es,ep,ho,r⟩:=hm
  exact ⟨o,es,ep,k _ o hL ho,r⟩
 ·refine (I.hok b u e).stay (fun c v hc q=>k c v ?_ q) (fun _ q=>q) fun _ _ q=>q
  rcases hc with z | z
  ·rw [z]; exact nit b u e
  ·exact nit c _ z
theorem turn_zip {P:Program}{w:World}{K:PySem.W.Frag}{elts:List Expr}{x1}{pos:Pos}(z TI TO i1 i2 a b:Addr)(D:ZipApart z TI TO i1 i2 a b):
  Turn P w K (.Tuple elts x1 pos) (Itz K a b) [z,TI,TO,i1,i2] z (fun i h=>IsZip h z TI TO .none/\IsPair h TI (.ref i1) (.ref i2)/\(∃u v,IsPair h TO u v)/\h.IsListIter i1 a i/\h.IsListIter i2 b i) where
 mem:=by simp
 obj:=fun i h ⟨q1,q2,⟨u,v,q3⟩,⟨o4,e4,c4,d4⟩,⟨o5,e5,c5,d5⟩⟩ c hc=>by
  have ec:c=z\/c=TI\/c=TO\/c=i1\/c=i2:=by simpa using hc
  rcases ec with rfl | rfl | rfl | rfl | rfl
  ·exact ⟨_,q1,fun v z=>by cases (show Data.fields _=Data.cell v from z)⟩
  ·exact ⟨_,q2,fun v z=>by cases (show Data.seq _ _=Data.cell v from z)⟩
  ·exact ⟨_,q3,fun v z=>by cases (show Data.seq _ _=Data.cell v from z)⟩
  ·exact ⟨_,e4,fun v z=>by rw [d4] at z; cases z⟩
  ·exact ⟨_,e5,fun v z=>by rw [d5] at z; cases z⟩
 keep:=fun i h h' ⟨q1,q2,⟨u,v,q3⟩,q4,q5⟩ k=>⟨k z (by simp) _ q1,k TI (by simp) _ q2,⟨u,v,k TO (by simp) _ q3⟩,q4.at fun o x=>k i1 (by simp) o x,q5.at fun o x=>k i2 (by simp) o x⟩
 item:=by
  intro X hP hw hK hc i pins s σ H E I hf st hg
  subst hP hw hK
  obtain ⟨xs,ys,x,y,hq,hq2,hx,hy⟩:=hg
  obtain ⟨q1,q2,⟨u,v,q3⟩,q4,q5⟩:=st
  obtain ⟨its,rv,p,hz⟩:=I.list hq
  obtain ⟨its2,rv2,p2,hz2⟩:=I.list hq2
  obtain ⟨ux,hu,ru⟩:=rv.get hx
  obtain ⟨uy,hu2,ru2⟩:=rv2.get hy
  refine wpAny_pyNext_zip_item D q1 q2 q3 q4 q5 p.isList p2.isList (x:=ux) (y:=uy) (by simpa using hu) (by simpa using hu2) fun h' a1 a2 a3 a4 a5 a6 k=>?_
  obtain ⟨o4,e4,c4,d4⟩:=id a3
  obtain ⟨o5,e5,c5,d5⟩:=id a4
  obtain ⟨p4,f4,_,_⟩:=id q4
  obtain ⟨p5,f5,_,_⟩:=id q5
  obtain ⟨h1,I1,z1,k1⟩:=all_turned (h':=h') [z,TO,i1,i2] s I (by simp [Ne.symm D.TOz,Ne.symm D.i1z,Ne.symm D.i2z,D.TOi1,D.TOi2,D.i12]) (fun c hc=>hf c (by simp at hc ⊢; rcases hc with rfl | rfl | rfl | rfl <;> simp)) (fun c hc=>by
   have ec:c=z\/c=TO\/c=i1\/c=i2:=by simpa using hc
   rcases ec with rfl | rfl | rfl | rfl
   ·exact ⟨_,q1⟩
   ·exact ⟨_,q3⟩
   ·exact ⟨_,f4⟩
   ·exact ⟨_,f5⟩) (fun c hc=>by
   have ec:c=z\/c=TO\/c=i1\/c=i2:=by simpa using hc
   rcases ec with rfl | rfl | rfl | rfl
   ·exact ⟨_,a1,rfl⟩
   ·exact ⟨_,a2,rfl⟩
   ·exact ⟨_,e4,freed_of d4⟩
   ·exact ⟨_,e5,freed_of d5⟩) fun c o hc e=>k c o (fun y=>hc (by simp [y])) (fun y=>hc (by simp [y])) (fun y=>hc (by simp [y])) (fun y=>hc (by simp [y])) e
  have I2:Inv X pins σ (upd H s.heap.objs.size (.tup [x,y])) { s with heap:=h',toks:=s.toks }:=
   I1.laid (t':=s.toks) k1 (Nat.le_of_eq z1) (show ObjOk X.prog X.w _ _ _ (.tup [x,y]) from ⟨(show 2<=sizeLine by decide),[ux,uy],.cons ru (.cons ru2 .nil),⟨_,a5,rfl,_,rfl⟩⟩)
  have fr:H s.heap.objs.size=none:=I.hok.fresh (Nat.le_refl _)
  have nn:∀c,(∃o,s.heap.get? c=some o)->H c=none->upd H s.heap.objs.size (.tup [x,y]) c=none:=fun c ⟨o,ho⟩ e=>by rw [upd_ne (Nat.ne_of_lt (Heap.lt_size ho))]; exact e
  have all:∀c∈[z,TI,TO,i1,i2],∃o,s.heap.get? c=some o:=fun c hc=>by
   have ec:c=z\/c=TI\/c=TO\/c=i1\/c=i2:=by simpa using hc
   rcases ec with rfl | rfl | rfl | rfl | rfl
   ·exact ⟨_,q1⟩
   ·exact ⟨_,q2⟩
   ·exact ⟨_,q3⟩
   ·exact ⟨_,f4⟩
   ·exact ⟨_,f5⟩
  have hTI:IsPair h' TI (.ref i1) (.ref i2):=k _ _ D.TIz D.TITO D.TIi1 D.TIi2 q2
  refine ⟨_,rfl,wpAny_letOwnedTupleGo_zip a1 fun h2 e2 sb=>?_⟩
  have fz:=hf z (by simp)
  obtain ⟨g0,g1,g2,g3,g4,g5⟩:=fz
  refine ⟨.ref s.heap.objs.size,_,I2.turned (t':=s.toks) (fun c o hc y=>(sb.2 c hc).trans y) (nn z ⟨_,q1⟩ g0) g1 g3 g4 g5,rfl,⟨x,y,_,fun zs hz'=>by rw [I.list_inj hz' hq]; exact hx,fun zs hz'=>by rw [I.list_inj hz' hq2]; exact hy,rfl,fr,rfl⟩,⟨e2,sb.extBut _ _ D.TIz hTI,⟨_,_,sb.extBut _ _ D.TOz a2⟩,a3.at fun o y=>(sb.2 i1 D.i1z).trans y,a4.at fun o y=>(sb.2 i2 D.i2z).trans y⟩,fun c hc=>nn c (all c hc) (hf c hc).1⟩
 done:=by
  intro X hP hw hK hc i pins s σ H E I hf st hg
  subst hP hw hK
  obtain ⟨xs,ys,hq,hq2,hx⟩:=hg
  obtain ⟨q1,q2,⟨u,v,q3⟩,q4,q5⟩:=st
  obtain ⟨its,rv,p,hz⟩:=I.list hq
  obtain ⟨its2,rv2,p2,hz2⟩:=I.list hq2
  have hl:=rv.length
  have hl2:=rv2.length
  exact wpAny_pyNext_zip_end (I.ok.hd hc) D q1 q2 q3 q4 q5 p.isList p2.isList (hx.imp (fun h=>by simp; omega) fun h=>by simp; omega) fun h' k=>⟨rfl,Inv.turnedL [z,TO,i1,i2] I (fun c hc=>hf c (by simp at hc ⊢; rcases hc with rfl | rfl | rfl | rfl <;> simp)) fun c o hc e=>k c o (fun y=>hc (by simp [y])) (fun y=>hc (by simp [y])) (fun y=>hc (by simp [y])) (fun y=>hc (by simp [y])) e⟩
 self:=fun _ _ _ _ _ st h=>wpAny_pyIter_zip st.1 h
section
variable {X:Cx}
noncomputable def iZip (K:PySem.W.Frag)(ta:TA):TI:=fun σ H R=>ta σ H fun vs H1=>∃p q,vs=[.ref p,.ref q]/\(∃xs,SqL K H1 p xs)/\(∃xs,SqL K H1 q xs)/\R (Itz K p q) H1
theorem boot_zip:bootBuiltins "zip" = some (.type "zip"):=by decide +kernel
theorem vals2 {a b:V}{us:List Value}(r:Vals [a,b] us):∃u v,us=[u,v]/\RelV a u/\RelV b v:=by
 cases r with
 |cons r1 r2=>
  cases r2 with
  |cons r2 r3=>cases r3; exact ⟨_,_,rfl,r1,r2⟩
theorem pi_zip {elts:List Expr}{x1}{pt:Pos}{a b:Expr}{ta:TA}{p pos:Pos}(hg:Gl X "zip")(hm:X.mg "zip" = none)(ha:PA X [a,b] ta)(hs:starEach [a,b] X.env=[(false,eval a X.env),(false,eval b X.env)]:=by rfl)(hs2:starEach [b] X.env=[(false,eval b X.env)]:=by rfl):PI X (.Tuple elts x1 pt) (.Call (.Name "zip" p) [a,b] [] pos) (iZip X.K ta):=by
 intro pins s σ H R I h
 refine Call_ (ld_blt I hg hm boot_zip (PyProof.Rows.callWith_type1 (thn (ha pos pins s σ H _ I h) fun us s1 hE=>xq2 hE fun vs H1 I1 r1 q1=>?_) (by rw [hs,hs2]) (by rw [hs2]; rfl)))
 obtain ⟨l,l2,e,⟨xs,hq⟩,⟨ys,hq2⟩,q⟩:=q1
 subst e
 obtain ⟨u,v,rfl,rx,ry⟩:=vals2 r1
 cases rx
 cases ry
 obtain ⟨its,rv,pl,hz⟩:=I1.list hq
 obtain ⟨its2,rv2,pl2,hz2⟩:=I1.list hq2
 have lt1:l<s1.heap.objs.size:=by obtain ⟨o,e,_⟩:=pl.isList; exact Heap.lt_size e
 have lt2:l2<s1.heap.objs.size:=by obtain ⟨o,e,_⟩:=pl2.isList; exact Heap.lt_size e
 refine call_zip_2 pl.isList pl2.isList fun h' e1 e2 e3 e4 e5 sz k=>?_
 have I2:Inv X pins σ H1 { s1 with heap:=h' }:=I1.kept (t':=s1.toks) k
 have D:ZipApart (s1.heap.objs.size+4) (s1.heap.objs.size+2) (s1.heap.objs.size+3) s1.heap.objs.size (s1.heap.objs.size+1) l l2:=zipApart_new lt1 lt2
 refine wpAny_pyIter_zip (s:={ s1 with heap:=h' }) e1 ?_
 refine ⟨_,[s1.heap.objs.size+4,s1.heap.objs.size+2,s1.heap.objs.size+3,s1.heap.objs.size,s1.heap.objs.size+1],_,_,H1,rfl,I2,turn_zip _ _ _ _ _ l l2 D,⟨e1,e2,⟨_,_,e3⟩,e4,e5⟩,fun b hb=>?_,q⟩
 have hb':s1.heap.objs.size<=b:=by
  rcases List.mem_cons.mp hb with z | hb
  ·rw [z]; exact Nat.le_add_right _ _
  rcases List.mem_cons.mp hb with z | hb
  ·rw [z]; exact Nat.le_add_right _ _
  rcases List.mem_cons.mp hb with z | hb
  ·rw [z]; exact Nat.le_add_right _ _
  rcases List.mem_cons.mp hb with z | hb
  ·rw [z]; exact Nat.le_refl _
  ·rw [List.mem_singleton.mp hb]; exact Nat.le_add_right _ _
 exact I1.fpOk hb' (I1.hok.fresh hb')
noncomputable def zipD:List D->List D->List D
 |a::as,b::bs=>.tup [a,b]::zipD as bs
 |_,_=>[]
theorem zipD_len:∀as bs:List D,(zipD as bs).length=min as.length bs.length
 |[],_=>by simp [zipD]
 |_::_,[]=>by simp [zipD]
 |a::as,b::bs=>by rw [zipD,List.length_cons,zipD_len as bs]; simp
theorem zipD_at:∀{as bs:List D} {i:Nat} {a b:D},as[i]? = some a->bs[i]? = some b->(zipD as bs)[i]? = some (.tup [a,b])
 |[],_,_,_,_,h,_=>by simp at h
 |_::_,[],_,_,_,_,h=>by simp at h
 |x::as,y::bs,0,a,b,h1,h2=>by
  have h1:x=a:=by simpa using h1
  have h2:y=b:=by simpa using h2
  rw [h1,h2]; rfl
 |x::as,y::bs,i+1,a,b,h1,h2=>zipD_at (as:=as) (bs:=bs) (i:=i) (by simpa using h1) (by simpa using h2)
theorem it_zip {G:Gx}{a b:Addr}{ds es:List D}{P:(Addr->Prop)->Hp->Prop}(h:∀O' H2,P O' H2->∃xs,SqL G.K H2 a xs/\DVs G O' H2 xs ds)(h':∀O' H2,P O' H2->∃xs,SqL G.K H2 b xs/\DVs G O' H2 xs es):ItOk G (Itz G.K a b) (zipD ds es) P:=by
 intro O' H2 ev
 obtain ⟨xs,hq,hd⟩:=h O' H2 ev
 obtain ⟨ys,hq2,hd2⟩:=h' O' H2 ev
 have l1:=dvs_len hd
 have l2:=dvs_len hd2
 refine ⟨fun i hi=>?_,fun i x H' hi y=>?_,xs,ys,hq,hq2,by rw [zipD_len]; omega⟩
 ·rw [zipD_len] at hi
  have i1:i<xs.length:=by omega
  have i2:i<ys.length:=by omega
  exact ⟨xs,ys,xs[i],ys[i],hq,hq2,by simp,by simp⟩
 ·obtain ⟨y1,y2,l,k1,k2,rfl,fr,rfl⟩:=y
  obtain ⟨d1,e1,v1⟩:=dvs_get hd (k1 xs hq)
  obtain ⟨d2,e2,v2⟩:=dvs_get hd2 (k2 ys hq2)
  exact ⟨same_new fr _,.tup [d1,d2],zipD_at e1 e2,.tup (SqU.of upd_same) (.cons (v1.mono (same_new fr _)) (.cons (v2.mono (same_new fr _)) .nil))⟩
noncomputable def fItZ (f:Me->Res (List D)):Me->Res (List D):=fun m=>(f m).bind fun d=>match d with
 |[.lst ds,.lst es]=>.ok (zipD ds es)
 |_=>.stuck
theorem fi_zip {E:XK}{fs:Me->Res (List D)}{elts:List Expr}{x1}{pt:Pos}{a b:Expr}{p pos:Pos}(hg:Gl X "zip")(hm:X.mg "zip" = none)(ha:FAE X E [a,b] fs)(hs:starEach [a,b] X.env=[(false,eval a X.env),(false,eval b X.env)]:=by rfl)(hs2:starEach [b] X.env=[(false,eval b X.env)]:=by rfl):FI X E (.Tuple elts x1 pt) (.Call (.Name "zip" p) [a,b] [] pos) (fItZ fs):=
 pi_weak (pi_zip hg hm ha hs hs2) fun σ H R hE=>xq5 hE fun O0 M0 H0 ow m Re q=>⟨O0,M0,H0,ow,m,Re,q.bind.imp (Same.refl _) fun ds q vs H' g hv=>by
  have z:∃xs ys,ds=[.lst xs,.lst ys]:=by
   cases ds with
   |nil=>exact q.elim
   |cons d ds=>cases d with
    |lst xs=>cases ds with
     |nil=>exact q.elim
     |cons e ds=>cases e with
      |lst ys=>cases ds with
       |nil=>exact ⟨xs,ys,rfl⟩
       |cons _ _=>exact q.elim
      |_=>exact q.elim
    |_=>exact q.elim
  obtain ⟨ds,es,rfl⟩:=z
  cases hv with
  |cons h1 h3=>cases h3 with
  |cons h2 h4=>
   cases h4
   cases h1 with
   |lst hl hd=>
    cases h2 with
    |lst hl2 hd2=>exact ⟨_,_,rfl,⟨_,hl.sq⟩,⟨_,hl2.sq⟩,q _ H' g (it_zip (fun O' H2 ev=>⟨_,(lstAt_kp ev.2 hl).sq,hd.go (Re.mono g).mutk ev⟩) fun O' H2 ev=>⟨_,(lstAt_kp ev.2 hl2).sq,hd2.go (Re.mono g).mutk ev⟩)⟩⟩
theorem fiw_zip {E:XK}{fs:Me->Res (List D)}{elts:List Expr}{x1}{pt:Pos}{a b:Expr}{p pos:Pos}(hg:Gl X "zip")(hm:X.mg "zip" = none)(ha:FAB X E [a,b] fs)(hs:starEach [a,b] X.env=[(false,eval a X.env),(false,eval b X.env)]:=by rfl)(hs2:starEach [b] X.env=[(false,eval b X.env)]:=by rfl):FIw X E (.Tuple elts x1 pt) (.Call (.Name "zip" p) [a,b] [] pos) (fItZ fs):=
 pi_weak (pi_zip hg hm ha hs hs2) fun σ H R hE=>xq5 hE fun O0 M0 H0 ow m Re q=>⟨O0,M0,H0,ow,m,Re,q.bind.imp (Same.refl _) fun ds q vs H' g hv=>by
  have z:∃xs ys,ds=[.lst xs,.lst ys]:=by
   cases ds with
   |nil=>exact q.elim
   |cons d ds=>cases d with
    |lst xs=>cases ds with
     |nil=>exact q.elim
     |cons e ds=>cases e with
      |lst ys=>cases ds with
       |nil=>exact ⟨xs,ys,rfl⟩
       |cons _ _=>exact q.elim
      |_=>exact q.elim
    |_=>exact q.elim
  obtain ⟨ds,es,rfl⟩:=z
  cases hv with
  |cons h1 h3=>cases h3 with
  |cons h2 h4=>
   cases h4
   obtain ⟨l,xs,rfl,hl,hd⟩:=dw_lst h1
   obtain ⟨l2,ys,rfl,hl2,hd2⟩:=dw_lst h2
   exact ⟨_,_,rfl,⟨_,hl⟩,⟨_,hl2⟩,q _ H' g (it_zip (fun O' H2 ⟨sub,g2⟩=>⟨_,sqL_mono hl g2,hd.go (Re.mono g).mutk ⟨sub,.of g2⟩⟩) fun O' H2 ⟨sub,g2⟩=>⟨_,sqL_mono hl2 g2,hd2.go (Re.mono g).mutk ⟨sub,.of g2⟩⟩)⟩⟩
end
open PySem PySem.Spec PyProof.Rows L2 Hd
section
variable {X:Cx}{E:XK}{e:Expr}{fa:Me->Res (D×Me)}{pos apos cpos np:Pos}{x:Str}
end
end F
namespace L2
open PySem PySem.Spec PyProof.Rows
section
variable {X:Cx}{tg:Expr}
end
end L2
namespace F
open PySem PySem.Spec PyProof.Rows L2 Hd
section
variable {X:Cx}{E:XK}{tg e a b c:Expr}{f:Me->Res D}{fs:Me->Res (List D)}{fa:Me->Res (D×Me)}{p pos:Pos}
noncomputable def gStuck:Me->Res (Fl×Me):=fun _=>.stuck
theorem fs_stuck {st:Stmt}:FS X E st gStuck:=fun _ _ _ _ _ _ ⟨_,_,_,_,_,_,z⟩=>z.elim
variable {x:Str}{np apos cpos:Pos}
end
section
variable {X:Cx}{E:XK}{e ke:Expr}{f fk:Me->Res D}{pos np apos cpos:Pos}{x:Str}
end
end F
namespace L2
open PySem PySem.Spec PyProof.Rows
section
variable {X:Cx}{e st:Expr}{te:TE}{tst:TO}{p2 pos:Pos}
end
end L2
namespace F
open PySem PySem.Spec PyProof.Rows L2 Hd
section
variable {X:Cx}{E:XK}{e st:Expr}{f:Me->Res D}{fk:Me->Res (Option Int)}{p2 pos:Pos}
end
open PySem PySem.Spec PyProof.Rows L2 Hd
section
variable {X:Cx}{E:XK}{e ke:Expr}{f fk:Me->Res D}{fa:Me->Res (D×Me)}{x:Str}{np apos cpos pos spos:Pos}
end
open PySem PySem.Spec PyProof.Rows L2 Hd
section
variable {X:Cx}
variable {E:XK}{a b:Expr}{pos:Pos}{fa fb:Me->Res D}
end
open PySem L2 Hd
noncomputable def fFnC (Φ:List D->Res (Bool×D))(fs:Me->Res (List D)):Me->Res D:=fun m=>(fs m).bind fun ds=>(Φ ds).bind fun r=>if flat2 r.2=true then .ok r.2 else .stuck
end F
namespace Hd
open PySem L2
end Hd
namespace F
open PySem L2 Hd
open PySem L2 Hd
section
variable {X:Cx}{E:XK}{es:List Expr}{b:Expr}{fs:Me->Res (List D)}{fa fb:Me->Res D}{pos:Pos}
end
open PySem PySem.Spec PyProof.Rows L2 Hd
section
variable {G:Gx}{O:Addr->Prop}{H0 H H' H1:Hp}
theorem TupI.mono (g:Same H1 H'):∀{qs:List Addr} {vs:List V} {ds:List D},TupI G H0 H1 qs vs ds->TupI G H0 H' qs vs ds
 |_,_,_,.nil=>.nil
 |_,_,_,.flat h f t=>.flat (h.mono g) f (TupI.mono g t)
 |_,_,_,.new n e hs f nq t=>.new n (g _ _ e) (hs.mono g) f nq (TupI.mono g t)
theorem TupI.dvs:∀{qs:List Addr} {vs:List V} {ds:List D},TupI G H0 H' qs vs ds->(∀q∈qs,¬O q)->DVs G O H' vs ds
 |_,_,_,.nil,_=>.nil
 |_,_,_,.flat h f t,hq=>.cons (h.flat2 f) (TupI.dvs t hq)
 |_,_,_,.new n e hs f nq t,hq=>.cons (.lst (.inl ⟨hq _ List.mem_cons_self,.inl e⟩) (hs.flat2 f)) (TupI.dvs t fun q z=>hq q (List.mem_cons_of_mem _ z))
theorem TupI.len:∀{qs:List Addr} {vs:List V} {ds:List D},TupI G H0 H' qs vs ds->vs.length=ds.length
 |_,_,_,.nil=>rfl
 |_,_,_,.flat _ _ t=>congrArg (· + 1) (TupI.len t)
 |_,_,_,.new _ _ _ _ _ t=>congrArg (· + 1) (TupI.len t)
noncomputable def hidD:List D->List Addr->List D
 |[],_=>[]
 | .lst es::ds,as=>match as with
  |a::as=>.adr a::hidD ds as
  |[]=>.lst es::hidD ds []
 |d::ds,as=>d::hidD ds as
noncomputable def lstsD:List D->List D
 |[]=>[]
 | .lst es::ds=>.lst es::lstsD ds
 |_::ds=>lstsD ds
theorem hid_flat {d:D}{ds:List D}{as:List Addr}(f:flat2 d=true):hidD (d::ds) as=d::hidD ds as/\lstsD (d::ds)=lstsD ds:=by
 cases d with
 |lst es=>cases f
 |_=>exact ⟨rfl,rfl⟩
theorem TupI.hid:∀{qs:List Addr} {vs:List V} {ds:List D},TupI G H0 H' qs vs ds->DVs G O H' vs (hidD ds qs)
 |_,_,_,.nil=>.nil
 |_,_,_,.flat h f t=>by rw [(hid_flat f).1]; exact .cons (h.flat2 f) (TupI.hid t)
 |_,_,_,.new n e hs f nq t=>.cons (.adr _) (TupI.hid t)
inductive LsAt (G:Gx)(H0 H':Hp):List Addr->List D->Prop where
 |nil:LsAt G H0 H' [] []
 |cons {q:Addr} {xs:List V} {es:List D} {qs:List Addr} {ds:List D}:H0 q=none->H' q=some (.lst xs)->DVs G (fun _=>False) H' xs es->flat2s es=true->q∉qs->LsAt G H0 H' qs ds->LsAt G H0 H' (q::qs) (.lst es::ds)
theorem TupI.ls:∀{qs:List Addr} {vs:List V} {ds:List D},TupI G H0 H' qs vs ds->LsAt G H0 H' qs (lstsD ds)
 |_,_,_,.nil=>.nil
 |_,_,_,.flat h f t=>by rw [(hid_flat (as:=[]) f).2]; exact TupI.ls t
 |_,_,_,.new n e hs f nq t=>.cons n e hs f nq (TupI.ls t)
theorem LsAt.len:∀{qs:List Addr} {ds:List D},LsAt G H0 H' qs ds->qs.length=ds.length
 |_,_,.nil=>rfl
 |_,_,.cons _ _ _ _ _ t=>congrArg (· + 1) (LsAt.len t)
theorem LsAt.nd:∀{qs:List Addr} {ds:List D},LsAt G H0 H' qs ds->qs.Nodup
 |_,_,.nil=>List.nodup_nil
 |_,_,.cons _ _ _ _ n t=>List.nodup_cons.mpr ⟨n,LsAt.nd t⟩
theorem LsAt.free:∀{qs:List Addr} {ds:List D},LsAt G H0 H' qs ds->∀q∈qs,H0 q=none
 |_,_,.nil,_,h=>by cases h
 |_,_,.cons n _ _ _ _ t,q,h=>by
  rcases List.mem_cons.mp h with rfl | h
  ·exact n
  ·exact LsAt.free t q h
theorem LsAt.at:∀{qs:List Addr} {ds:List D},LsAt G H0 H' qs ds->∀(k:Nat) (a:Addr),qs[k]? = some a->∃es xs,ds[k]? = some (D.lst es)/\H' a=some (.lst xs)/\DVs G (fun _=>False) H' xs es/\flat2s es=true
 |_,_,.nil,k,a,h=>by simp at h
 |_,_,.cons _ e hs f _ _,0,a,h=>by simp at h; subst h; exact ⟨_,_,rfl,e,hs,f⟩
 |_,_,.cons _ _ _ _ _ t,k+1,a,h=>LsAt.at t k a (by simpa using h)
theorem LsAt.imp (g:∀q,H q=none->H0 q=none):∀{qs:List Addr} {ds:List D},LsAt G H H' qs ds->LsAt G H0 H' qs ds
 |_,_,.nil=>.nil
 |_,_,.cons n e hs f nq t=>.cons (g _ n) e hs f nq (LsAt.imp g t)
end
noncomputable def setHs:Me->Nat->List Addr->List D->Me
 |m,j,a::as,d::ds=>setHs (m.set j (.hd true a d)) (j+1) as ds
 |m,_,_,_=>m
noncomputable def owH (ow:Os)(j:Nat)(as:List Addr):Os:=fun k=>if j<=k/\k<j+as.length then as[k - j]? else ow k
theorem setHs_len:∀(as:List Addr) (ds:List D) (m:Me) (j:Nat),(setHs m j as ds).length=m.length
 |[],_,_,_=>by rw [setHs]; intro _ _ _ _ z; cases z
 |_::_,[],_,_=>by rw [setHs]; intro _ _ _ _ _ z; cases z
 |a::as,d::ds,m,j=>by rw [setHs,setHs_len as ds]; simp
theorem setHs_out:∀(as:List Addr) (ds:List D) (m:Me) (j k:Nat),k<j\/j+as.length<=k->(setHs m j as ds)[k]? = m[k]?
 |[],_,_,_,_,_=>by rw [setHs]; intro _ _ _ _ z; cases z
 |_::_,[],_,_,_,_=>by rw [setHs]; intro _ _ _ _ _ z; cases z
 |a::as,d::ds,m,j,k,h=>by
  rw [List.length_cons] at h
  rw [setHs,setHs_out as ds _ _ _ (by omega),List.getElem?_set_ne (by omega)]
theorem setHs_in:∀(as:List Addr) (ds:List D) (m:Me) (j i:Nat) (a:Addr) (d:D),j+as.length<=m.length->as[i]? = some a->ds[i]? = some d->(setHs m j as ds)[j+i]? = some (.hd true a d)
 |[],_,_,_,_,_,_,_,h,_=>by simp at h
 |_::_,[],_,_,_,_,_,_,_,h=>by simp at h
 |b::as,e::ds,m,j,0,a,d,hl,h1,h2=>by
  simp at h1 h2
  rw [List.length_cons] at hl
  rw [setHs,setHs_out as ds _ _ _ (by omega),Nat.add_zero,List.getElem?_set_self (by omega),h1,h2]
 |b::as,e::ds,m,j,i+1,a,d,hl,h1,h2=>by
  rw [List.length_cons] at hl
  rw [setHs,show j+(i+1)=(j+1)+i by omega]
  exact setHs_in as ds _ (j+1) i a d (by rw [List.length_set]; omega) (by simpa using h1) (by simpa using h2)
section
variable {G:Gx}{O0 M0:Addr->Prop}{H0 H H':Hp}{ow:Os}{σ:L2.St}{m:Me}
theorem RelS.hide {as:List Addr}{ls:List D}{j:Nat}(R:RelS G O0 M0 H0 ow σ H m)(g:Same H H')(L:LsAt G H H' as ls)(hj:j+as.length<=m.length):
  RelS G O0 M0 H0 (owH ow j as) σ H' (setHs m j as ls)/\Go O0 ow H (owH ow j as) H':=by
 have nw:∀a∈as,¬Ow O0 ow a:=fun a h=>R.toRel.noOw (L.free a h)
 have inv:∀k b,owH ow j as k=some b->(∃i,k=j+i/\as[i]? = some b)\/((k<j\/j+as.length<=k)/\ow k=some b):=fun k b e=>by
  unfold owH at e
  split at e
  ·rename_i q; exact .inl ⟨k - j,by omega,e⟩
  ·rename_i q; exact .inr ⟨by omega,e⟩
 have eo:∀k,(k<j\/j+as.length<=k)->owH ow j as k=ow k:=fun k h=>by unfold owH; rw [if_neg (by omega)]
 have ei:∀i a,as[i]? = some a->owH ow j as (j+i)=some a:=fun i a h=>by
  have:=get_lt h
  unfold owH; rw [if_pos (by omega),show j+i - j=i by omega]; exact h
 have out:∀b,Ow O0 (owH ow j as) b->Ow O0 ow b\/b∈as:=fun b z=>by
  rcases z with z | ⟨k,e⟩
  ·exact .inl (.inl z)
  ·rcases inv k b e with ⟨i,_,z⟩ | ⟨_,z⟩
   ·exact .inr (List.mem_of_getElem? z)
   ·exact .inl (.inr ⟨k,z⟩)
 have sub:∀b,Ow O0 (owH ow j as) b->Ow O0 ow b\/H b=none:=fun b z=>(out b z).imp id fun h=>L.free b h
 have R':=R.mono g
 refine ⟨⟨⟨by rw [setHs_len]; exact R.len,R'.keep,R'.m0,fun b z=>?_,fun k a e=>?_,fun k l a a1 a2=>?_,fun k hk=>?_,fun k s e=>?_⟩,fun k dd e=>?_⟩,.of g,fun k a e=>?_,(Go.refl (O0:=O0) (ow:=ow) g).dom⟩
 ·rcases out b z with z | z
  ·exact R'.mutk b z
  ·obtain ⟨i,hi⟩:=List.getElem?_of_mem z
   obtain ⟨es,xs,_,e,_⟩:=L.at i b hi
   exact .inl ⟨xs,e⟩
 ·rcases inv k a e with ⟨i,_,z⟩ | ⟨_,z⟩
  ·exact fun w=>nw a (List.mem_of_getElem? z) (.inl w)
  ·exact R.no0 k a z
 ·rcases inv k a a1 with ⟨i,u,z⟩ | ⟨_,z⟩ <;> rcases inv l a a2 with ⟨i',v,y⟩ | ⟨_,y⟩
  ·have:i=i':=by
    have h1:=get_lt z
    have h2:=get_lt y
    rw [List.getElem?_eq_getElem h1] at z
    rw [List.getElem?_eq_getElem h2] at y
    injection z with z
    injection y with y
    rcases Nat.lt_trichotomy i i' with w | w | w
    ·exact absurd (z.trans y.symm) ((List.pairwise_iff_getElem.mp L.nd) i i' h1 h2 w)
    ·exact w
    ·exact absurd (y.trans z.symm) ((List.pairwise_iff_getElem.mp L.nd) i' i h2 h1 w)
   omega
  ·exact absurd (.inr ⟨l,y⟩) (nw a (List.mem_of_getElem? z))
  ·exact absurd (.inr ⟨k,z⟩) (nw a (List.mem_of_getElem? y))
  ·exact R.inj k l a z y
 ·rw [setHs_len] at hk
  rw [eo k (by omega)]
  exact R.out k hk
 ·by_cases c:j<=k/\k<j+as.length
  ·have hi:k - j<as.length:=by omega
   obtain ⟨es,xs,e1,e2,e3,e4⟩:=L.at (k - j) as[k - j] (List.getElem?_eq_getElem hi)
   have w:=setHs_in as ls m j (k - j) _ _ hj (List.getElem?_eq_getElem hi) e1
   rw [show j+(k - j)=k by omega] at w
   rw [w] at e
   cases e
   have w2:=ei (k - j) _ (List.getElem?_eq_getElem hi)
   rw [show j+(k - j)=k by omega] at w2
   exact ⟨w2,fun _=>R.toRel.free0 (L.free _ (List.getElem_mem hi)),(fun z=>by cases z),xs,e2,e3.flat2 e4⟩
  ·rw [setHs_out as ls m j k (by omega)] at e
   rw [eo k (by omega)]
   exact ((R.slot k s e).anti sub fun _ _ b _=>Classical.em _).mono g
 ·by_cases c:j<=k/\k<j+as.length
  ·have hi:k - j<as.length:=by omega
   obtain ⟨es,xs,e1,e2,e3,e4⟩:=L.at (k - j) as[k - j] (List.getElem?_eq_getElem hi)
   have w:=setHs_in as ls m j (k - j) _ _ hj (List.getElem?_eq_getElem hi) e1
   rw [show j+(k - j)=k by omega] at w
   rw [w] at e
   cases e
  ·rw [setHs_out as ls m j k (by omega)] at e
   exact R.nb k dd e
 ·rcases inv k a e with ⟨i,_,z⟩ | ⟨_,z⟩
  ·exact .inr (L.free a (List.mem_of_getElem? z))
  ·exact .inl (.inr ⟨k,z⟩)
end
noncomputable def tAI (is:List Nat)(G:Gx)(E:XK)(f:Me->Res (List D)):TA:=fun σ H Q=>∃O0 M0 H0 ow m,Rel G O0 M0 H0 ow σ H m/\Pu G E (f m) H fun ds=>∀vs H' qs,Same H H'->TupI G H0 H' qs vs ds->(∀q∈qs,¬O0 q/\(H q=none\/∃i∈is,ow i=some q))->Q vs H'
noncomputable abbrev FAI (is:List Nat)(X:Cx)(E:XK)(es:List Expr)(f:Me->Res (List D)):Prop:=PA X es (tAI is (gx X) E f)
noncomputable def fConsF (fa:Me->Res D)(fs:Me->Res (List D)):Me->Res (List D):=fun m=>(fa m).bind fun x=>if flat2 x=true then (fs m).bind fun xs=>.ok (x::xs) else .stuck
noncomputable def fConsN (fa:Me->Res D)(fs:Me->Res (List D)):Me->Res (List D):=fun m=>(fa m).bind fun x=>if flatL x=true then (fs m).bind fun xs=>.ok (x::xs) else .stuck
noncomputable def owF (m:Me)(i:Nat):Option D:=match m[i]? with
 |some (.ow d)=>if flatL d=true then some d else none
 |_=>none
noncomputable def gRetT (fs:Me->Res (List D)):Me->Res (Fl×Me):=fun m=>(fs m).bind fun ds=>if ds.length<=sizeLine then .ok (.rt true (.tup ds),m.map fun _=>.un) else .stuck
section
variable {X:Cx}{E:XK}{is:List Nat}{e:Expr}{es:List Expr}{x:Str}{np pos pos':Pos}{fa:Me->Res D}{fs:Me->Res (List D)}
theorem fai_nil:FAI [] X E [] fNil:=pa_weak pa_nil fun σ H Q hE=>xq5 hE fun O0 M0 H0 ow m R q=>q [] H [] (Same.refl _) .nil fun _ z=>by cases z
theorem fai_flat (ha:FE X E e fa)(hr:FAI is X E es fs)(hs:starEach (e::es) X.env=(false,eval e X.env)::starEach es X.env:=by rfl):FAI is X E (e::es) (fConsF fa fs):=
 pa_weak (pa_cons ha hr hs) fun σ H Q hE=>xq5 hE fun O0 M0 H0 ow m R q=>⟨O0,M0,H0,ow,m,R,q.bind.imp (Same.refl _) fun d q v H1 g1 hv=>⟨O0,M0,H0,ow,m,R.mono g1,by
  obtain ⟨hf,q⟩:=pu_if' q
  exact q.bind.imp g1 fun ds q vs H2 qs g2 ti hq=>q (v::vs) H2 qs (g1.trans g2) (.flat ((hv.mono g2).flat2 hf) hf ti) fun z hz=>⟨(hq z hz).1,(hq z hz).2.imp g1.free id⟩⟩⟩
theorem fai_new (ha:FN X E e fa)(hr:FAI is X E es fs)(hs:starEach (e::es) X.env=(false,eval e X.env)::starEach es X.env:=by rfl):FAI is X E (e::es) (fConsN fa fs):=
 pa_weak (pa_cons ha hr hs) fun σ H Q hE=>xq5 hE fun O0 M0 H0 ow m R q=>⟨O0,M0,H0,ow,m,R,q.bind.imp (Same.refl _) fun d q p H1 g1 n ov=>⟨O0,M0,H0,ow,m,R.mono g1,by
  obtain ⟨hf,q⟩:=pu_if' q
  cases d with
  |lst es=>
   obtain ⟨xs,e,hs⟩:=ov
   refine q.bind.imp g1 fun ds q vs H2 qs g2 ti hq=>q (.ref p::vs) H2 (p::qs) (g1.trans g2) (.new (R.free0 n) (g2 _ _ e) ((hs.flat2 hf).mono g2) hf (fun hp=>?_) ti) fun z hz=>?_
   ·rcases (hq p hp).2 with w | ⟨i,_,w⟩
    ·rw [w] at e; cases e
    ·exact R.noOw n (.inr ⟨i,w⟩)
   ·rcases List.mem_cons.mp hz with rfl | hz
    ·exact ⟨fun w=>R.noOw n (.inl w),.inl n⟩
    ·exact ⟨(hq z hz).1,(hq z hz).2.imp g1.free id⟩
  |_=>cases hf⟩⟩
theorem fs_retT {x1}(h:FAI is X E es fs):FS X E (.Return (some (.Tuple es x1 pos')) pos) (gRetT fs):=ps_weak (ps_ret (pe_tupG h)) fun W σ H hE=>xq5 hE fun O0 M0 H0 ow m R q=>
 ⟨O0,M0,H0,ow,m,R.toRel,(Ss.pu R.toRel q).imp (Same.refl _) fun ds q vs H1 qs g1 ti hq=>by
  by_cases hz:ds.length<=sizeLine
  ·rw [if_pos hz] at q
   refine ⟨by rw [ti.len]; exact hz,fun p H' g e=>?_⟩
   obtain ⟨R2,g2⟩:=(R.mono (g1.trans g)).forget (m':=m) rfl
   have ti2:=ti.mono g
   have dv:=ti2.dvs (O:=Ow O0 fun _=>none) (fun q hq'=>by rw [Ow_none]; exact (hq q hq').1)
   exact q (.ref p) _ σ H' R2 ((Go.refl (g1.trans g)).trans g2) (.tup (SqU.of e) dv) fun _=>.inr ⟨p,vs,ds,qs,rfl,rfl,SqU.of e,ti2⟩
  ·rw [if_neg hz] at q; exact q.elim⟩
end
section
variable {X:Cx}{E:XK}{j k:Nat}{c m:Str}{ps:List Str}{Φ:List D->Res (Bool×D)}{apos pos:Pos}{o e:Expr}{es:List Expr}{f0:Me->Res D}{fs:Me->Res (List D)}{pl:Sem Bool}
theorem fn_mt0 (Fh:FMd X.prog X.w X.K X.mg X.base k c m ps Φ)(hr:Room j X.A)(hx:Passes (CX1 X.prog X.w) X E)(h0:FV X E o f0)(hk:k<=j:=by decide)
  (ht:eval (.Call (.Attribute o m apos) [] [] pos) X.env=(do
   let ov ← eval o X.env
   standAt apos.atName
   let (f,first) ← holding [ov] (getMethod ov m pl)
   callWith pos f first (backTo pos (starEach [] X.env)) (backToKw pos (keywordEach [] X.env))):=by rfl):
  FN X E (.Call (.Attribute o m apos) [] [] pos) (fMtN c m Φ f0 fNil):=
 pe_mt0 Fh hr hx h0 hk ht fun σ H Q hE=>xq5 hE fun O0 M0 H0 ow me R q=>⟨O0,M0,H0,ow,me,R,q.bind.imp (Same.refl _) fun d q=>by
  obtain ⟨ob,q⟩:=pu_if' q
  have q:Pu (gx X) E ((Φ [d]).bind fun r=>if (r.1 && flatL r.2)=true then .ok r.2 else .stuck) H _:=q
  refine ⟨ob,q.bind.imp (Same.refl _) fun r q v H1 H' g1 g2 hv fr=>?_⟩
  obtain ⟨hf,q⟩:=pu_if q
  obtain ⟨p,rfl,n,ov⟩:=res_new (mk_mono R.mutk g1) hf fr
  exact q p H' (g1.trans g2) (g1.free n) ov⟩
end
open Classical in
noncomputable def gUniT (n:Nat)(h:List Addr->Res (Fl×Me))(m:Me):Res (Fl×Me):=
 if H:∃p:Bool×D,∀as:List Addr,as.length=n->as.Nodup->∃m',h as=.ok (.rt p.1 p.2,m')/\m'.length=m.length then .ok (.rt (Classical.choose H).1 (Classical.choose H).2,m.map fun _=>.un) else .stuck
theorem gUniT_eq {n:Nat}{h:List Addr->Res (Fl×Me)}{m:Me}{fr:Bool}{d:D}(H:∀as:List Addr,as.length=n->as.Nodup->∃m',h as=.ok (.rt fr d,m')/\m'.length=m.length):gUniT n h m=.ok (.rt fr d,m.map fun _=>.un):=by
 have Hx:∃p:Bool×D,∀as:List Addr,as.length=n->as.Nodup->∃m',h as=.ok (.rt p.1 p.2,m')/\m'.length=m.length:=⟨(fr,d),H⟩
 obtain ⟨m1,e1,_⟩:=Classical.choose_spec Hx (List.range n) List.length_range List.nodup_range
 obtain ⟨m2,e2,_⟩:=H (List.range n) List.length_range List.nodup_range
 rw [e1] at e2
 unfold gUniT
 rw [dif_pos Hx]
 injection e2 with e2
 injection e2 with e2 _
 injection e2 with e3 e4
 rw [e3,e4]
noncomputable def gNewT (i j:Nat)(Φ:List D->Res (Bool×D))(fs:Me->Res (List D))(k:Me->Res (Fl×Me)):Me->Res (Fl×Me):=fun m=>
 (fs m).bind fun ds=>match Φ ds with
  | .ok (true,.tup es)=>if j+(lstsD es).length<=m.length then gUniT (lstsD es).length (fun as=>k ((setHs m j as (lstsD es)).set i (.fz (.tup (hidD es as))))) m else .stuck
  |_=>.stuck
section
variable {X:Cx}{E:XK}{jj k:Nat}{x y:Str}{ps:List Str}{Φ:List D->Res (Bool×D)}{py pos cpos np:Pos}{e:Expr}{es:List Expr}{fs:Me->Res (List D)}{rest:List Stmt}{kk:Me->Res (Fl×Me)}
theorem fss_newT (i j:Nat)(Fh:FF X.prog X.w X.K X.mg X.base k x ps Φ)(hr:Room jj X.A)(hx:Passes (CX1 X.prog X.w) X E)(hN:X.N.Nodup)(hi:X.N[i]? = some y)(hy:Loc X.env.scope y)(ha:FAE X E (e::es) fs)(h3:FSs X E rest kk)(hk:k<=jj:=by decide)(hg:Gl X x:=by rfl)
  (hdb:(x == ("__debug__" : Str))=false:=by decide) (he:starEach (e::es) X.env=(false,eval e X.env)::starEach es X.env:=by rfl) (hpl:(backTo cpos (starEach es X.env)).any (·.1)=false:=by rfl)
  (hs:swapsWith (.Call (.Name x np) (e::es) [] cpos) (some (.Name y py)) pos.line X.env=pure false:=by rfl)
  (hf:X.fn y=true\/X.env.scope.names.lookup y=some .local:=by first | exact .inl rfl | exact .inr rfl | assumption):
  FSs X E (.Assign [.Name y py] (.Call (.Name x np) (e::es) [] cpos) pos::rest) (gNewT i j Φ fs kk):=by
 obtain ⟨f,fd,G,b,kp,hm⟩:=Fh.ex
 refine pss_weak (pss_cons (ps_set hN hi hy (pe_call G (hr.mono hk) hg hm kp b .nil hx ha hdb he hpl) hs hf) h3) fun W σ H hE=>xq5 hE fun O0 M0 H0 ow m R q=>?_
 refine ⟨O0,M0,H0,ow,m,R.toRel,(Ss.pu R.toRel q).imp (Same.refl _) fun ds q vs H1 g1 hvs=>?_⟩
 show spF _ _ (vs++[]) _ _ _
 rw [List.append_nil]
 refine ⟨_,ds,(R.mono g1).mutk,hvs,?_⟩
 cases z:Φ ds with
 |exc c=>rw [z] at q; exact q.elim
 |stuck=>rw [z] at q; exact q.elim
 |ok r=>
  obtain ⟨b,d⟩:=r
  cases b with
  |false=>rw [z] at q; exact q.elim
  |true=>
  cases d with
  |tup es=>
   rw [z] at q
   have q:Ss (gx X) E O0 M0 H0 ow H W (if j+(lstsD es).length<=m.length then gUniT (lstsD es).length (fun as=>kk ((setHs m j as (lstsD es)).set i (.fz (.tup (hidD es as))))) m else .stuck):=q
   by_cases hc:j+(lstsD es).length<=m.length
   case neg=>rw [if_neg hc] at q; exact q.elim
   rw [if_pos hc] at q
   unfold gUniT at q
   split at q
   case isFalse=>exact q.elim
   rename_i HU
   have sp:=Classical.choose_spec HU
   generalize hfd:Classical.choose HU=fd' at sp q
   obtain ⟨fr,dd⟩:=fd'
   intro v H' g2 hv hfr
   rcases hfr rfl with ⟨p,rfl,n,ov⟩ | ⟨p,xs,ds',qs,e1,rfl,sq,ti⟩
   ·exact ov.elim
   ·cases e1
    have L:=ti.ls.imp (H0:=H) fun q w=>g1.free w
    have ln:=L.len
    obtain ⟨R2,g3⟩:=R.hide (j:=j) (g1.trans g2) L (by rw [ln]; exact hc)
    have dv:DV (gx X) (Ow O0 (owH ow j qs)) H' (.ref p) (.tup (hidD es qs)):=.tup sq ti.hid
    have R3:=R2.set (i:=i) dv
    obtain ⟨m',eq,hlm⟩:=sp qs ln L.nd
    refine ⟨O0,M0,H0,_,_,R3,?_⟩
    have eq:kk ((setHs m j qs (lstsD es)).set i (.fz (.tup (hidD es qs))))=.ok (.rt fr dd,m'):=eq
    rw [eq]
    intro v ow' σ' H9 R9 g9 hv hfr
    obtain ⟨R10,g10⟩:=R9.forget (m':=m) hlm.symm
    refine q v _ σ' H9 R10 (((g3.trans Go.set).trans g9).trans g10) (hv.anti fun b z=>.inl (z.elim .inl fun ⟨_,e⟩=>by cases e)) fun z=>?_
    rcases hfr z with ⟨p0,u1,u2,u3⟩ | t
    ·exact .inl ⟨p0,u1,u2,u3.anti fun b z=>.inl (z.elim (fun w=>.inl (w.elim .inl fun ⟨_,e⟩=>by cases e)) .inr)⟩
    ·exact .inr t
  |_=>rw [z] at q; exact q.elim
end
noncomputable def vwT (m:Me):List Nat->List D->List D
 |[],ds=>ds
 |j::js,ds=>vwT m js (match m[j]? with
  |some (.hd _ A e)=>ds.map (subA A e)
  |_=>ds)
noncomputable def fViewT (i:Nat)(js:List Nat):Me->Res D:=fun m=>match m[i]? with
 |some (.fz (.tup ds))=>.ok (.tup (vwT m js ds))
 |_=>.stuck
theorem vwT_is {G:Gx}{O0 M0:Addr->Prop}{H0:Hp}{ow:Os}{σ:L2.St}{H:Hp}{m:Me}(R:Rel G O0 M0 H0 ow σ H m):∀(js:List Nat) {vs:List V} {ds:List D},DVs G (fun _=>False) H vs ds->DVs G (fun _=>False) H vs (vwT m js ds)
 |[],_,_,h=>h
 |j::js,vs,ds,h=>by
  refine vwT_is R js ?_
  split
  ·rename_i w A e q
   obtain ⟨x1,x2,x3,x4⟩:=R.slot j _ q
   exact sub_dvs ((x4.anti (O':=fun _=>False) fun _ z=>z.elim).dv id) h
  ·exact h
theorem fv_viewT {X:Cx}{E:XK}{x:Str}{np:Pos}(i:Nat)(js:List Nat)(hN:X.N[i]? = some x:=by rfl)(hv:Vis X.env.scope x:=by first | exact Or.inl rfl | exact Or.inr (Or.inl rfl) | exact Or.inr (Or.inr rfl))(hd:(x == ("__debug__" : Str))=false:=by decide)(hcd:(x == ("__classdict__" : Str))=false:=by decide):FV X E (.Name x np) (fViewT i js):=
 pe_weak (pe_var hN hv hd hcd) fun σ H Q hE=>xq5 hE fun O0 M0 H0 ow m R q=>by
  unfold fViewT at q
  split at q
  ·rename_i ds z
   obtain ⟨_,v,e,dv⟩:=R.slot i _ z
   refine ⟨v,e,q v H (Same.refl _) ?_⟩
   have dv:=dv.anti (O':=fun _=>False) fun _ z=>z.elim
   cases dv with
   |tup h hs=>exact .tup h (vwT_is R js hs)
  ·exact q.elim
noncomputable def tAV (G:Gx)(E:XK)(f:Me->Res (List D)):TA:=fun σ H Q=>∃O0 M0 H0 ow m,Rel G O0 M0 H0 ow σ H m/\Pu G E (f m) H fun ds=>∀vs H',Same H H'->DVs G (fun _=>False) H' vs ds->Q vs H'
noncomputable abbrev FAV (X:Cx)(E:XK)(es:List Expr)(f:Me->Res (List D)):Prop:=PA X es (tAV (gx X) E f)
section
variable {X:Cx}{E:XK}{j k:Nat}{x:Str}{ps:List Str}{Φ:List D->Res (Bool×D)}{p pos:Pos}{e:Expr}{es:List Expr}{fa:Me->Res D}{fs:Me->Res (List D)}
theorem fav_nil:FAV X E [] fNil:=pa_weak pa_nil fun σ H Q hE=>xq5 hE fun O0 M0 H0 ow m R q=>q [] H (Same.refl _) .nil
theorem fav_cons (ha:FV X E e fa)(hr:FAV X E es fs)(hs:starEach (e::es) X.env=(false,eval e X.env)::starEach es X.env:=by rfl):FAV X E (e::es) (fCons fa fs):=
 pa_weak (pa_cons ha hr hs) fun σ H Q hE=>xq5 hE fun O0 M0 H0 ow m R q=>⟨O0,M0,H0,ow,m,R,q.bind.imp (Same.refl _) fun d q v H1 g1 hv=>⟨O0,M0,H0,ow,m,R.mono g1,q.bind.imp g1 fun ds q vs H2 g2 hvs=>q _ H2 (g1.trans g2) (.cons (hv.mono g2) hvs)⟩⟩
theorem fe_fnV (Fh:FF X.prog X.w X.K X.mg X.base k x ps Φ)(hr:Room j X.A)(hx:Passes (CX1 X.prog X.w) X E)(ha:FAV X E (e::es) fs)(hk:k<=j:=by decide)(hg:Gl X x:=by rfl)
  (hdb:(x == ("__debug__" : Str))=false:=by decide) (he:starEach (e::es) X.env=(false,eval e X.env)::starEach es X.env:=by rfl) (hpl:(backTo pos (starEach es X.env)).any (·.1)=false:=by rfl):
  FE X E (.Call (.Name x p) (e::es) [] pos) (fFnC Φ fs):=by
 obtain ⟨f,fd,G,b,kp,m⟩:=Fh.ex
 refine pe_weak (pe_call G (hr.mono hk) hg m kp b .nil hx ha hdb he hpl) fun σ H Q hE=>xq5 hE fun O0 M0 H0 ow m R q=>⟨O0,M0,H0,ow,m,R,q.bind.imp (Same.refl _) fun ds q vs H1 g1 hv=>?_⟩
 show spF _ _ (vs++[]) _ _ _
 rw [List.append_nil]
 refine ⟨_,ds,fun _ z=>z.elim,hv,q.bind.imp g1 fun r q v H' g2 hv' _=>?_⟩
 obtain ⟨hf,q⟩:=pu_if q
 exact q v H' (g1.trans g2) (hv'.flat2 hf)
end
noncomputable def gAdrClear (j:Nat)(fb:Me->Res D):Me->Res (Fl×Me):=fun m=>(fb m).bind fun c=>(ofO (hdAt m j)).bind fun o=>match c,o.2.2 with
 | .adr a,.lst ds=>if a=o.2.1 then .ok (.nx,m.set j (.hd o.1 a (.lst []))) else .stuck
 |_,_=>.stuck
noncomputable def gAdrApp (j:Nat)(fb fv:Me->Res D):Me->Res (Fl×Me):=fun m=>(fb m).bind fun c=>(ofO (hdAt m j)).bind fun o=>match c,o.2.2 with
 | .adr a,.lst ds=>if a=o.2.1/\ds.length<sizeLine then (fv m).bind fun d=>.ok (.nx,m.set j (.hd o.1 a (.lst (ds++[d])))) else .stuck
 |_,_=>.stuck
section
variable {X:Cx}{E:XK}{b e:Expr}{fb f:Me->Res D}{pos apos cpos:Pos}
theorem fs_adrClear (j:Nat)(hb:FE X E b fb)
  (hbase:attributeBase b "clear" X.env (eval b X.env)=eval b X.env:=by rfl) (hline:(apos.endLine == cpos.line)=true:=by rfl)
  (hsw:swapsWith (.Call (.Attribute b "clear" apos) [] [] cpos) none pos.line X.env=pure false:=by rfl):FS X E (.Expr (.Call (.Attribute b "clear" apos) [] [] cpos) pos) (gAdrClear j fb):=
 ps_weak (ps_expr (pe_bm0 PySem.F.plainAttrs_list PySem.F.slot_list_clear PySem.F.type_list_clear mt_clear hb hbase hline) hsw) fun W σ H hE=>xq5 hE fun O0 M0 H0 ow m R q=>
  ⟨O0,M0,H0,ow,m,R.toRel,(Ss.pu R.toRel q).imp (Same.refl _) fun c q vc H1 g1 hc=>by
   have R1:=R.mono g1
   obtain ⟨o,ho,q⟩:=Ss.ofO q
   obtain ⟨w,a,dd⟩:=o
   have ho:=hdAt_is ho
   cases c with
   |adr a'=>
    cases hc
    cases dd with
    |lst ds=>
     have q':Ss (gx X) E O0 M0 H0 ow H W (if a'=a then .ok (.nx,m.set j (.hd w a' (.lst []))) else .stuck):=q
     clear q
     by_cases hz:a'=a
     ·rw [if_pos hz] at q'
      subst hz
      obtain ⟨x1,x2,x3,xs,e4,e5⟩:=R1.slot j _ ho
      obtain ⟨R2,g2⟩:=R1.putH (o:=.lst []) (d':=.lst []) ho (.inl ⟨_,rfl⟩) (fun kp=>⟨_,L2.upd_same,.nil⟩)
      exact ⟨.inl ⟨rfl,xs,SqL.of e4⟩,a',xs,rfl,rfl,e4,q' _ _ _ R2 ((Go.refl g1).trans g2)⟩
     ·rw [if_neg hz] at q'; exact q'.elim
    |_=>exact q.elim
   |_=>exact q.elim⟩
theorem fs_adrApp (j:Nat)(hb:FE X E b fb)(he:FE X E e f)
  (hbase:attributeBase b "append" X.env (eval b X.env)=eval b X.env:=by rfl)
  (hfew:((backTo cpos (starEach [e] X.env)).all (fun x=>!x.1) && (backToKw cpos (keywordEach [] X.env)).all (fun x=>x.1.isSome) && decide ([e].length+([]:List Keyword).length+(if ([]:List Keyword).isEmpty then 0 else 1)<30))=true:=by rfl)
  (hline:(apos.endLine == cpos.line)=true:=by rfl) (hs:starEach [e] X.env=(false,eval e X.env)::starEach [] X.env:=by rfl) (hplain:(backTo cpos (starEach [] X.env)).any (·.1)=false:=by rfl)
  (hsw:swapsWith (.Call (.Attribute b "append" apos) [e] [] cpos) none pos.line X.env=pure false:=by rfl):
  FS X E (.Expr (.Call (.Attribute b "append" apos) [e] [] cpos) pos) (gAdrApp j fb f):=
 ps_weak (ps_expr (pe_bm PySem.F.plainAttrs_list PySem.F.slot_list_append PySem.F.type_list_append mt_append hb (pa_cons he pa_nil hs) hbase hfew hline hs hplain) hsw) fun W σ H hE=>xq5 hE fun O0 M0 H0 ow m R q=>
  ⟨O0,M0,H0,ow,m,R.toRel,(Ss.pu R.toRel q).imp (Same.refl _) fun c q vc H1 g1 hc=>by
   have R1:=R.mono g1
   obtain ⟨o,ho,q⟩:=Ss.ofO q
   obtain ⟨w,a,dd⟩:=o
   have ho:=hdAt_is ho
   cases c with
   |adr a'=>
    cases hc
    cases dd with
    |lst ds=>
     have q':Ss (gx X) E O0 M0 H0 ow H W (if a'=a/\ds.length<sizeLine then (f m).bind fun d=>.ok (.nx,m.set j (.hd w a' (.lst (ds++[d])))) else .stuck):=q
     clear q
     by_cases hz:a'=a/\ds.length<sizeLine
     ·rw [if_pos hz] at q'
      obtain ⟨rfl,hz⟩:=hz
      obtain ⟨x1,x2,x3,xs,e4,e5⟩:=R1.slot j _ ho
      refine ⟨.inl ⟨rfl,xs,SqL.of e4⟩,O0,M0,H0,ow,m,R1.toRel,(Ss.pu R1.toRel (q'.go (Go.refl g1))).imp (Same.refl _) fun d q v H2 g2 hv=>?_⟩
      have R2:=R1.mono g2
      obtain ⟨R3,g3⟩:=R2.putH (o:=.lst (xs++[v])) (d':=.lst (ds++[d])) ho (.inl ⟨_,rfl⟩) (fun kp=>⟨_,L2.upd_same,(dvs_app (e5.mono g2) (.cons hv .nil)).kp R2.mutk kp⟩)
      exact ⟨a',xs,v,rfl,rfl,g2 _ _ e4,by rw [dvs_len e5]; exact hz,q _ _ _ R3 ((Go.refl g2).trans g3)⟩
     ·rw [if_neg hz] at q'; exact q'.elim
    |_=>exact q.elim
   |_=>exact q.elim⟩
end
end F
namespace K35
open PySem L2 Hd F
noncomputable section
noncomputable def T_common_divisor_1 : Me → Res Bool :=
 (fCmpT gNe (fVarB 3) (fC (.int 0)))
noncomputable def B_common_divisor_2 : Me → Res (Fl × Me) :=
 (gSeq (gSet 4 (fBin gMod (fVarB 2) (fVarB 3)))
 (gSeq (gSet 2 (fVar 3))
 (gSet 3 (fVar 4))))
noncomputable def L_common_divisor_3 : Me → Res (Fl × Me) :=
 (gWhile T_common_divisor_1 B_common_divisor_2)
noncomputable def c_common_divisor (l_3 : Me → Res (Fl × Me)) : Me → Res (Fl × Me) :=
 (gSeq (gSet 2 (fCall gAbs (fCons (fVarB 0) fNil)))
 (gSeq (gSet 3 (fCall gAbs (fCons (fVarB 1) fNil)))
 (gSeq l_3
 (gRet (fVar 2)))))
noncomputable def g_common_divisor : Me → Res (Fl × Me) :=
 (c_common_divisor L_common_divisor_3)
noncomputable def F_common_divisor:List D->Res (Bool×D):=runF 5 2 g_common_divisor
noncomputable def c_lowest (φ_common_divisor : List D → Res (Bool × D)) : Me → Res (Fl × Me) :=
 (gSeq (gSet 2 (fFn φ_common_divisor (fCons (fVar 0) (fCons (fVar 1) fNil))))
 (gSeq (gIf (fCmpT gLt (fVarB 1) (fC (.int 0))) (gSet 2 (fUn gNeg (fVarB 2))) gNx)
 (gRet (fTup (fCons (fBin gDiv (fVarB 0) (fVarB 2)) (fCons (fBin gDiv (fVarB 1) (fVarB 2)) fNil))))))
noncomputable def g_lowest : Me → Res (Fl × Me) :=
 (c_lowest F_common_divisor)
noncomputable def F_lowest:List D->Res (Bool×D):=runF 3 2 g_lowest
noncomputable def B_scale_of_1 : Me → Res (Fl × Me) :=
 (gSet 1 (fBin gDiv (fBin gMul (fVarB 1) (fBin gIx (fVarB 2) (fC (.int 1)))) (fFn F_common_divisor (fCons (fVar 1) (fCons (fBin gIx (fVarB 2) (fC (.int 1))) fNil)))))
noncomputable def L_scale_of_2 : Me → Res (Fl × Me) :=
 (gFor (fItL (fVar 0)) (hName 2) B_scale_of_1)
noncomputable def c_scale_of (l_2 : Me → Res (Fl × Me)) : Me → Res (Fl × Me) :=
 (gSeq (gSet 1 (fC (.int 1)))
 (gSeq l_2
 (gRet (fVar 1))))
noncomputable def g_scale_of : Me → Res (Fl × Me) :=
 (c_scale_of L_scale_of_2)
noncomputable def F_scale_of:List D->Res (Bool×D):=runF 3 1 g_scale_of
noncomputable def E_made_whole_1 : Me → Res D :=
 (fBin gMul (fBin gIx (fVarB 0) (fC (.int 0))) (fBin gDiv (fVarB 1) (fBin gIx (fVarB 0) (fC (.int 1)))))
noncomputable def Q_made_whole_2 : Me → Res D :=
 (fComp 1 [1] (fItL (fVarB 0)) (hName 0) fAll E_made_whole_1)
noncomputable def c_made_whole (l_2 : Me → Res D) : Me → Res (Fl × Me) :=
 (gRetN l_2)
noncomputable def g_made_whole : Me → Res (Fl × Me) :=
 (c_made_whole Q_made_whole_2)
noncomputable def F_made_whole:List D->Res (Bool×D):=runF 2 2 g_made_whole
noncomputable def c_refuse_great_seeking : Me → Res (Fl × Me) :=
 (gSeq (gIf (fCmpT gGt (fCall gLen (fCons (fVarB 0) fNil)) (fC (.int 8))) gStuck gNx)
 (gIf (fCmpT gGt (fCall gLen (fCons (fVarB 1) fNil)) (fC (.int 8))) gStuck gNx))
noncomputable def g_refuse_great_seeking : Me → Res (Fl × Me) :=
 c_refuse_great_seeking
noncomputable def F_refuse_great_seeking:List D->Res (Bool×D):=runF 2 2 g_refuse_great_seeking
noncomputable def E_Corner_first_line_1 : Me → Res D :=
 (fIf (fCmpT gEq (fVarB 0) (fVarB 1)) (fC (.int 1)) (fC (.int 0)))
noncomputable def Q_Corner_first_line_2 : Me → Res D :=
 (fComp 1 [1] (fItR1 (fCons (fCall gLen (fCons (fFld "Corner" "scales" (fVarB 0)) fNil)) fNil)) (hName 0) fAll E_Corner_first_line_1)
noncomputable def c_Corner_first_line (φ_made_whole : List D → Res (Bool × D)) (l_2 : Me → Res D) : Me → Res (Fl × Me) :=
 (gSeq (gSet 4 l_2)
 (gSeq (gSet 5 (fBin gIx (fFld "Corner" "scales" (fVarB 0)) (fVarB 1)))
 (gRetN (fBin gCatL (fBin gAdd (fFn φ_made_whole (fCons (fVar 2) (fCons (fVar 5) fNil))) (fVarB 4)) (fFn φ_made_whole (fCons (fLst (fCons (fVar 3) fNil)) (fCons (fVar 5) fNil)))))))
noncomputable def g_Corner_first_line : Me → Res (Fl × Me) :=
 (c_Corner_first_line F_made_whole Q_Corner_first_line_2)
noncomputable def F_Corner_first_line:List D->Res (Bool×D):=runF 6 4 g_Corner_first_line
noncomputable def E_Corner_first_wish_line_1 : Me → Res D :=
 (fUn gNeg (fVarB 0))
noncomputable def Q_Corner_first_wish_line_2 : Me → Res D :=
 (fComp 1 [] (fItL (fVarB 3)) (hName 0) fAll E_Corner_first_wish_line_1)
noncomputable def E_Corner_first_wish_line_3 : Me → Res D :=
 (fC (.int 0))
noncomputable def Q_Corner_first_wish_line_4 : Me → Res D :=
 (fComp 1 [] (fItL (fFld "Corner" "scales" (fVarB 0))) (hName 0) fAll E_Corner_first_wish_line_3)
noncomputable def c_Corner_first_wish_line (φ_made_whole : List D → Res (Bool × D)) (l_2 : Me → Res D) (l_4 : Me → Res D) : Me → Res (Fl × Me) :=
 (gSeq (gSet 3 (fFn φ_made_whole (fCons (fVar 2) (fCons (fBin gIx (fFld "Corner" "wish_scales" (fVarB 0)) (fVarB 1)) fNil))))
 (gRetN (fBin gCatL (fBin gAdd l_2 l_4) (fLst (fCons (fC (.int 0)) fNil)))))
noncomputable def g_Corner_first_wish_line : Me → Res (Fl × Me) :=
 (c_Corner_first_wish_line F_made_whole Q_Corner_first_wish_line_2 Q_Corner_first_wish_line_4)
noncomputable def F_Corner_first_wish_line:List D->Res (Bool×D):=runF 4 3 g_Corner_first_wish_line
noncomputable def E_Corner___init___1 : Me → Res D :=
 (fFn F_scale_of (fCons (fBin gAdd (fVarB 0) (fLst (fCons (fVar 1) fNil))) fNil))
noncomputable def Q_Corner___init___2 : Me → Res D :=
 (fComp 2 [] (fItZ (fCons (fVarB 1) (fCons (fVarB 2) fNil))) (hTup 2 (hCons (hName 0) (hCons (hName 1) hNil))) fAll E_Corner___init___1)
noncomputable def E_Corner___init___3 : Me → Res D :=
 (fFn F_scale_of (fCons (fVar 0) fNil))
noncomputable def Q_Corner___init___4 : Me → Res D :=
 (fComp 1 [] (fItL (fVarB 3)) (hName 0) fAll E_Corner___init___3)
noncomputable def E_Corner___init___5 : Me → Res D :=
 (fMt "Corner" "first_line" F_Corner_first_line (fVarB 1) (fCons (fVarB 0) (fCons (fBin gIx (fVarB 2) (fVarB 0)) (fCons (fBin gIx (fVarB 3) (fVarB 0)) fNil))))
noncomputable def Q_Corner___init___6 : Me → Res D :=
 (fComp 1 [0, 1, 2] (fItR1 (fCons (fCall gLen (fCons (fVarB 1) fNil)) fNil)) (hName 0) fAll E_Corner___init___5)
noncomputable def E_Corner___init___7 : Me → Res D :=
 (fMt "Corner" "first_wish_line" F_Corner_first_wish_line (fVarB 2) (fCons (fVarB 0) (fCons (fVarB 1) fNil)))
noncomputable def Q_Corner___init___8 : Me → Res D :=
 (fComp 2 [0] (fItE (fCons (fVarB 3) fNil)) (hTup 2 (hCons (hName 0) (hCons (hName 1) hNil))) fAll E_Corner___init___7)
noncomputable def E_Corner___init___9 : Me → Res D :=
 (fBin gAdd (fFld "Corner" "wide" (fVarB 1)) (fVarB 0))
noncomputable def Q_Corner___init___10 : Me → Res D :=
 (fComp 1 [0] (fItR1 (fCons (fCall gLen (fCons (fVarB 1) fNil)) fNil)) (hName 0) fAll E_Corner___init___9)
noncomputable def c_Corner___init__ (l_2 : Me → Res D) (l_4 : Me → Res D) (l_6 : Me → Res D) (l_8 : Me → Res D) (l_10 : Me → Res D) : Me → Res (Me × D) :=
 (gSeqI (gFldSet 0 "Corner" "wide" (fCall gLen (fCons (fBin gIx (fVarB 3) (fC (.int 0))) fNil)))
 (gSeqI (gFldSet 0 "Corner" "scales" l_2)
 (gSeqI (gFldSet 0 "Corner" "wish_scales" l_4)
 (gSeqI (gFldSet 0 "Corner" "lines" l_6)
 (gSeqI (gFldSet 0 "Corner" "wish_lines" l_8)
 (gSeqI (gFldSet 0 "Corner" "bottom" (fC (.int 1)))
 (fun m => if isOb "Corner" "" ((ioAtP m 0).getD .non) = true then gLastI l_10 m else .stuck)))))))
noncomputable def g_Corner___init__ : Me → Res (Me × D) :=
 c_Corner___init__ Q_Corner___init___2 Q_Corner___init___4 Q_Corner___init___6 Q_Corner___init___8 Q_Corner___init___10
noncomputable def F_Corner___init__:List D->Res (List Str×List D×D):=runI 4 4 "Corner" g_Corner___init__
noncomputable def E_Corner_helping_column_1 : Me → Res D :=
 (fCmp gEq (fBin gIx (fVarB 0) (fVarB 1)) (fC (.int 0)))
noncomputable def Q_Corner_helping_column_2 : Me → Res D :=
 (fComp 1 [2] (fItL (fSl (fFld "Corner" "wish_lines" (fVarB 0)) fO0 (fO1 (fVarB 1)))) (hName 0) fAll E_Corner_helping_column_1)
noncomputable def B_Corner_helping_column_3 : Me → Res (Fl × Me) :=
 (gSeq (gSet 3 (fCall gAll (fCons Q_Corner_helping_column_2 fNil)))
 (gIf (fAndT (fTv (fVar 3)) (fCmpT gLt (fBin gIx (fBin gIx (fFld "Corner" "wish_lines" (fVarB 0)) (fVarB 1)) (fVarB 2)) (fC (.int 0)))) (gRet (fVar 2)) gNx))
noncomputable def L_Corner_helping_column_4 : Me → Res (Fl × Me) :=
 (gFor (fItR1 (fCons (fBin gAdd (fFld "Corner" "wide" (fVarB 0)) (fCall gLen (fCons (fFld "Corner" "lines" (fVarB 0)) fNil))) fNil)) (hName 2) B_Corner_helping_column_3)
noncomputable def c_Corner_helping_column (l_4 : Me → Res (Fl × Me)) : Me → Res (Fl × Me) :=
 (gSeq l_4
 (gRet (fC .non)))
noncomputable def g_Corner_helping_column : Me → Res (Fl × Me) :=
 (c_Corner_helping_column L_Corner_helping_column_4)
noncomputable def F_Corner_helping_column:List D->Res (Bool×D):=runF 4 2 g_Corner_helping_column
noncomputable def c_Corner_ends_ahead : Me → Res (Fl × Me) :=
 (gSeq (gSet 4 (fBin gMul (fBin gIx (fBin gIx (fFld "Corner" "lines" (fVarB 0)) (fVarB 1)) (fUn gNeg (fC (.int 1)))) (fBin gIx (fBin gIx (fFld "Corner" "lines" (fVarB 0)) (fVarB 2)) (fVarB 3))))
 (gSeq (gSet 5 (fBin gMul (fBin gIx (fBin gIx (fFld "Corner" "lines" (fVarB 0)) (fVarB 2)) (fUn gNeg (fC (.int 1)))) (fBin gIx (fBin gIx (fFld "Corner" "lines" (fVarB 0)) (fVarB 1)) (fVarB 3))))
 (gSeq (gIf (fCmpT gEq (fVarB 4) (fVarB 5)) (gRet (fCmp gLt (fBin gIx (fFld "Corner" "held_columns" (fVarB 0)) (fVarB 1)) (fBin gIx (fFld "Corner" "held_columns" (fVarB 0)) (fVarB 2)))) gNx)
 (gRet (fCmp gLt (fVarB 4) (fVarB 5))))))
noncomputable def g_Corner_ends_ahead : Me → Res (Fl × Me) :=
 c_Corner_ends_ahead
noncomputable def F_Corner_ends_ahead:List D->Res (Bool×D):=runF 6 4 g_Corner_ends_ahead
noncomputable def B_Corner_ending_line_1 : Me → Res (Fl × Me) :=
 (gIf (fAndT (fCmpT gGt (fBin gIx (fVarB 4) (fVarB 1)) (fC (.int 0))) (fOrT (fCmpT gIs (fVarB 2) (fC .non)) (fTv (fMt "Corner" "ends_ahead" F_Corner_ends_ahead (fVarB 0) (fCons (fVarB 3) (fCons (fVarB 2) (fCons (fVarB 1) fNil))))))) (gSet 2 (fVar 3)) gNx)
noncomputable def L_Corner_ending_line_2 : Me → Res (Fl × Me) :=
 (gFor (fItE (fCons (fFld "Corner" "lines" (fVarB 0)) fNil)) (hTup 2 (hCons (hName 3) (hCons (hName 4) hNil))) B_Corner_ending_line_1)
noncomputable def c_Corner_ending_line (l_2 : Me → Res (Fl × Me)) : Me → Res (Fl × Me) :=
 (gSeq (gSet 2 (fC .non))
 (gSeq l_2
 (gRet (fVar 2))))
noncomputable def g_Corner_ending_line : Me → Res (Fl × Me) :=
 (c_Corner_ending_line L_Corner_ending_line_2)
noncomputable def F_Corner_ending_line:List D->Res (Bool×D):=runF 5 2 g_Corner_ending_line
noncomputable def E_Corner_cleared_1 : Me → Res D :=
 (fBin gDiv (fBin gSub (fBin gMul (fVarB 0) (fVarB 3)) (fBin gMul (fVarB 4) (fVarB 1))) (fFld "Corner" "bottom" (fVarB 2)))
noncomputable def Q_Corner_cleared_2 : Me → Res D :=
 (fComp 2 [0, 4, 5] (fItZ (fCons (fVarB 1) (fCons (fVarB 2) fNil))) (hTup 2 (hCons (hName 0) (hCons (hName 1) hNil))) fAll E_Corner_cleared_1)
noncomputable def c_Corner_cleared (l_2 : Me → Res D) : Me → Res (Fl × Me) :=
 (gSeq (gSet 4 (fBin gIx (fVarB 2) (fVarB 3)))
 (gSeq (gSet 5 (fBin gIx (fVarB 1) (fVarB 3)))
 (gRetN l_2)))
noncomputable def g_Corner_cleared : Me → Res (Fl × Me) :=
 (c_Corner_cleared Q_Corner_cleared_2)
noncomputable def F_Corner_cleared:List D->Res (Bool×D):=runF 6 4 g_Corner_cleared
noncomputable def E_Corner_turn_about_1 : Me → Res D :=
 (fMt "Corner" "cleared" F_Corner_cleared (fVarB 3) (fCons (fVarB 0) (fCons (fVarB 1) (fCons (fVarB 2) fNil))))
noncomputable def Q_Corner_turn_about_2 : Me → Res D :=
 (fComp 1 [3, 2, 0] (fItL (fFld "Corner" "wish_lines" (fVarB 0))) (hName 0) fAll E_Corner_turn_about_1)
noncomputable def E_Corner_turn_about_3 : Me → Res D :=
 (fMt "Corner" "cleared" F_Corner_cleared (fVarB 3) (fCons (fVarB 0) (fCons (fVarB 1) (fCons (fVarB 2) fNil))))
noncomputable def Q_Corner_turn_about_4 : Me → Res D :=
 (fComp 1 [3, 2, 0] (fItL (fFld "Corner" "lines" (fVarB 0))) (hName 0) fAll E_Corner_turn_about_3)
noncomputable def c_Corner_turn_about (l_2 : Me → Res D) (l_4 : Me → Res D) : Me → Res (Fl × Me) :=
 (gSeq (gSet 3 (fBin gIx (fFld "Corner" "lines" (fVarB 0)) (fVarB 1)))
 (gSeq (gFldSet 0 "Corner" "wish_lines" l_2)
 (gSeq (gFldIx 0 "Corner" "lines" l_4 1 3)
 (gSeq (gAdrSetIx 4 (fFld "Corner" "held_columns" (fVarB 0)) (fVar 1) (fVar 2))
 (gFldSet 0 "Corner" "bottom" (fBin gIx (fVarB 3) (fVarB 2)))))))
noncomputable def g_Corner_turn_about : Me → Res (Fl × Me) :=
 (c_Corner_turn_about Q_Corner_turn_about_2 Q_Corner_turn_about_4)
noncomputable def F_Corner_turn_about:List D->D->Addr×D->Res (D×D×D):=runM 5 3 g_Corner_turn_about
noncomputable def T_Corner_climb_1 : Me → Res Bool :=
 (fCmpT gIsnt (fVarB 2) (fC .non))
noncomputable def B_Corner_climb_2 : Me → Res (Fl × Me) :=
 (gSeq (gSet 3 (fMt "Corner" "ending_line" F_Corner_ending_line (fView 0 4) (fCons (fVarB 2) fNil)))
 (gSeq (gIf (fCmpT gIs (fVarB 3) (fC .non)) (gRet (fVar 2)) gNx)
 (gSeq (gExX (fxM "Corner" "turn_about" F_Corner_turn_about 0 4 (fCons (fVar 3) (fCons (fVar 2) fNil))))
 (gSet 2 (fMt "Corner" "helping_column" F_Corner_helping_column (fView 0 4) (fCons (fVarB 1) fNil))))))
noncomputable def L_Corner_climb_3 : Me → Res (Fl × Me) :=
 (gWhile T_Corner_climb_1 B_Corner_climb_2)
noncomputable def c_Corner_climb (φ_Corner_helping_column : List D → Res (Bool × D)) (l_3 : Me → Res (Fl × Me)) : Me → Res (Fl × Me) :=
 (gSeq (gSet 2 (fMt "Corner" "helping_column" φ_Corner_helping_column (fView 0 4) (fCons (fVarB 1) fNil)))
 (gSeq l_3
 (gRet (fC .non))))
noncomputable def g_Corner_climb : Me → Res (Fl × Me) :=
 (c_Corner_climb F_Corner_helping_column L_Corner_climb_3)
noncomputable def F_Corner_climb:List D->D->Addr×D->Res (D×D×D):=runM 5 2 g_Corner_climb
noncomputable def E_Corner_amounts_1 : Me → Res D :=
 (fC (.tup [(.int 0), (.int 1)]))
noncomputable def Q_Corner_amounts_2 : Me → Res D :=
 (fComp 1 [] (fItR1 (fCons (fFld "Corner" "wide" (fVarB 0)) fNil)) (hName 0) fAll E_Corner_amounts_1)
noncomputable def B_Corner_amounts_3 : Me → Res (Fl × Me) :=
 (gIf (fCmpT gLt (fVarB 3) (fFld "Corner" "wide" (fVarB 0))) (gSetIx 2 (fVar 3) (fFn F_lowest (fCons (fVar 4) (fCons (fFld "Corner" "bottom" (fVarB 0)) fNil)))) gNx)
noncomputable def L_Corner_amounts_4 : Me → Res (Fl × Me) :=
 (gFor (fItZ (fCons (fFld "Corner" "held_columns" (fVarB 0)) (fCons (fVar 1) fNil))) (hTup 2 (hCons (hName 3) (hCons (hName 4) hNil))) B_Corner_amounts_3)
noncomputable def c_Corner_amounts (l_2 : Me → Res D) (l_4 : Me → Res (Fl × Me)) : Me → Res (Fl × Me) :=
 (gSeq (gOwn 2 l_2)
 (gSeq l_4
 (gRetV 2)))
noncomputable def g_Corner_amounts : Me → Res (Fl × Me) :=
 (c_Corner_amounts Q_Corner_amounts_2 L_Corner_amounts_4)
noncomputable def F_Corner_amounts:List D->Res (Bool×D):=runF 5 2 g_Corner_amounts
noncomputable def E_Corner_fit_1 : Me → Res D :=
 (fBin gIx (fVarB 0) (fUn gNeg (fC (.int 1))))
noncomputable def Q_Corner_fit_2 : Me → Res D :=
 (fComp 1 [] (fItL (fFld "Corner" "lines" (fVarB 0))) (hName 0) fAll E_Corner_fit_1)
noncomputable def c_Corner_fit (φ_Corner_amounts : List D → Res (Bool × D)) (l_2 : Me → Res D) : Me → Res (Fl × Me) :=
 (gRetN (fMtN "Corner" "amounts" φ_Corner_amounts (fVarB 0) (fCons l_2 fNil)))
noncomputable def g_Corner_fit : Me → Res (Fl × Me) :=
 (c_Corner_fit F_Corner_amounts Q_Corner_fit_2)
noncomputable def F_Corner_fit:List D->Res (Bool×D):=runF 1 1 g_Corner_fit
noncomputable def E_Corner_way_along_1 : Me → Res D :=
 (fUn gNeg (fBin gIx (fVarB 0) (fVarB 1)))
noncomputable def Q_Corner_way_along_2 : Me → Res D :=
 (fComp 1 [1] (fItL (fFld "Corner" "lines" (fVarB 0))) (hName 0) fAll E_Corner_way_along_1)
noncomputable def c_Corner_way_along (φ_Corner_amounts : List D → Res (Bool × D)) (l_2 : Me → Res D) : Me → Res (Fl × Me) :=
 (gSeq (gOwn 2 (fMtN "Corner" "amounts" φ_Corner_amounts (fVarB 0) (fCons l_2 fNil)))
 (gSeq (gIf (fCmpT gLt (fVarB 1) (fFld "Corner" "wide" (fVarB 0))) (gSetIx 2 (fVar 1) (fC (.tup [(.int 1), (.int 1)]))) gNx)
 (gRetV 2)))
noncomputable def g_Corner_way_along : Me → Res (Fl × Me) :=
 (c_Corner_way_along F_Corner_amounts Q_Corner_way_along_2)
noncomputable def F_Corner_way_along:List D->Res (Bool×D):=runF 3 2 g_Corner_way_along
noncomputable def E_Corner_prices_1 : Me → Res D :=
 (fFn F_lowest (fCons (fBin gMul (fBin gIx (fVarB 3) (fBin gAdd (fFld "Corner" "wide" (fVarB 4)) (fVarB 0))) (fVarB 1)) (fCons (fVar 2) fNil)))
noncomputable def Q_Corner_prices_2 : Me → Res D :=
 (fComp 2 [3, 2, 0] (fItE (fCons (fFld "Corner" "scales" (fVarB 0)) fNil)) (hTup 2 (hCons (hName 0) (hCons (hName 1) hNil))) fAll E_Corner_prices_1)
noncomputable def c_Corner_prices (l_2 : Me → Res D) : Me → Res (Fl × Me) :=
 (gSeq (gSet 2 (fBin gIx (fFld "Corner" "wish_lines" (fVarB 0)) (fVarB 1)))
 (gSeq (gSet 3 (fBin gMul (fFld "Corner" "bottom" (fVarB 0)) (fBin gIx (fFld "Corner" "wish_scales" (fVarB 0)) (fVarB 1))))
 (gRetN l_2)))
noncomputable def g_Corner_prices : Me → Res (Fl × Me) :=
 (c_Corner_prices Q_Corner_prices_2)
noncomputable def F_Corner_prices:List D->Res (Bool×D):=runF 4 2 g_Corner_prices
noncomputable def c_solve (φ_refuse_great_seeking : List D → Res (Bool × D)) (φ_Corner___init__ : List D → Res (List Str × List D × D)) (φ_Corner_climb : List D → D → Addr × D → Res (D × D × D)) (φ_Corner_fit : List D → Res (Bool × D)) (φ_Corner_way_along : List D → Res (Bool × D)) (φ_Corner_prices : List D → Res (Bool × D)) : Me → Res (Fl × Me) :=
 (gSeq (gEx (fFn φ_refuse_great_seeking (fCons (fVar 0) (fCons (fVar 2) fNil))))
 (gNewO 3 5 "Corner" "held_columns" φ_Corner___init__ (fCons (fVar 0) (fCons (fVar 1) (fCons (fLst (fCons (fVar 2) fNil)) fNil)))
 (gSeq (gSetX 4 (fxM "Corner" "climb" φ_Corner_climb 3 5 (fCons (fC (.int 0)) fNil)))
 (gSeq (gIf (fCmpT gIsnt (fVarB 4) (fC .non)) (gRetT (fConsF (fC (.str "endless")) (fConsN (fMtN "Corner" "fit" φ_Corner_fit (fView 3 5) fNil) (fConsN (fMtN "Corner" "way_along" φ_Corner_way_along (fView 3 5) (fCons (fVarB 4) fNil)) fNil)))) gNx)
 (gRetT (fConsF (fC (.str "best")) (fConsN (fMtN "Corner" "fit" φ_Corner_fit (fView 3 5) fNil) (fConsN (fMtN "Corner" "prices" φ_Corner_prices (fView 3 5) (fCons (fC (.int 0)) fNil)) fNil))))))))
noncomputable def g_solve : Me → Res (Fl × Me) :=
 (c_solve F_refuse_great_seeking F_Corner___init__ F_Corner_climb F_Corner_fit F_Corner_way_along F_Corner_prices)
noncomputable def F_solve:List D->Res (Bool×D):=runF 6 3 g_solve
noncomputable def c__law_cell_at : Me → Res (Fl × Me) :=
 (gSeq (gIf (fCmpT gLt (fVarB 1) (fCall gLen (fCons (fVarB 0) fNil))) (gRet (fBin gIx (fVarB 0) (fVarB 1))) gNx)
 (gRet (fC (.int 0))))
noncomputable def g__law_cell_at : Me → Res (Fl × Me) :=
 c__law_cell_at
noncomputable def F__law_cell_at:List D->Res (Bool×D):=runF 2 2 g__law_cell_at
noncomputable def T__law_divisor_1 : Me → Res Bool :=
 (fCmpT gNe (fVarB 1) (fC (.int 0)))
noncomputable def B__law_divisor_2 : Me → Res (Fl × Me) :=
 (gPar 0 1 (fCons (fVar 1) (fCons (fBin gMod (fVarB 0) (fVarB 1)) fNil)))
noncomputable def L__law_divisor_3 : Me → Res (Fl × Me) :=
 (gWhile T__law_divisor_1 B__law_divisor_2)
noncomputable def c__law_divisor (l_3 : Me → Res (Fl × Me)) : Me → Res (Fl × Me) :=
 (gSeq l_3
 (gRet (fCall gAbs (fCons (fVarB 0) fNil))))
noncomputable def g__law_divisor : Me → Res (Fl × Me) :=
 (c__law_divisor L__law_divisor_3)
noncomputable def F__law_divisor:List D->Res (Bool×D):=runF 2 2 g__law_divisor
noncomputable def c__law_lowest (φ__law_divisor : List D → Res (Bool × D)) : Me → Res (Fl × Me) :=
 (gSeq (gSet 2 (fFn φ__law_divisor (fCons (fVar 0) (fCons (fVar 1) fNil))))
 (gRet (fTup (fCons (fBin gDiv (fVarB 0) (fVarB 2)) (fCons (fBin gDiv (fVarB 1) (fVarB 2)) fNil)))))
noncomputable def g__law_lowest : Me → Res (Fl × Me) :=
 (c__law_lowest F__law_divisor)
noncomputable def F__law_lowest:List D->Res (Bool×D):=runF 3 2 g__law_lowest
noncomputable def c__law_number (φ__law_lowest : List D → Res (Bool × D)) : Me → Res (Fl × Me) :=
 (gSeq (gIf (fCmpT gEq (fVarB 1) (fC (.int 0))) (gRet (fTup (fCons (fBin gSub (fBin gMod (fVarB 0) (fC (.int 6))) (fC (.int 2))) (fCons (fC (.int 1)) fNil)))) gNx)
 (gSeq (gIf (fCmpT gEq (fVarB 1) (fC (.int 1))) (gRet (fTup (fCons (fBin gIx (fLst (fCons (fC (.int 0)) (fCons (fC (.int 1)) (fCons (fC (.int 0)) (fCons (fUn gNeg (fC (.int 1))) (fCons (fC (.int 0)) (fCons (fC (.int 1)) fNil))))))) (fBin gMod (fVarB 0) (fC (.int 6)))) (fCons (fC (.int 1)) fNil)))) gNx)
 (gSeq (gIf (fCmpT gEq (fVarB 1) (fC (.int 2))) (gRet (fFn φ__law_lowest (fCons (fBin gSub (fBin gMod (fVarB 0) (fC (.int 601))) (fC (.int 200))) (fCons (fBin gAdd (fC (.int 1)) (fBin gMod (fBin gDiv (fVarB 0) (fC (.int 601))) (fC (.int 30)))) fNil)))) gNx)
 (gRet (fFn φ__law_lowest (fCons (fBin gSub (fBin gMod (fVarB 0) (fBin gMul (fC (.int 2)) (fBin gPow (fC (.int 10)) (fC (.int 9))))) (fBin gPow (fC (.int 10)) (fC (.int 9)))) (fCons (fBin gAdd (fC (.int 1)) (fBin gMod (fBin gDiv (fVarB 0) (fC (.int 7))) (fC (.int 997)))) fNil)))))))
noncomputable def g__law_number : Me → Res (Fl × Me) :=
 (c__law_number F__law_lowest)
noncomputable def F__law_number:List D->Res (Bool×D):=runF 2 2 g__law_number
noncomputable def c__law_bound (φ__law_number : List D → Res (Bool × D)) : Me → Res (Fl × Me) :=
 (gSeq (gIf (fAndT (fCmpT gEq (fVarB 2) (fC (.int 1))) (fCmpT gLt (fBin gMod (fVarB 0) (fC (.int 4))) (fC (.int 3)))) (gRet (fTup (fCons (fC (.int 0)) (fCons (fC (.int 1)) fNil)))) gNx)
 (gSeq (gSet 3 (fFn φ__law_number (fCons (fBin gDiv (fVarB 0) (fC (.int 4))) (fCons (fVar 1) fNil))))
 (gRet (fTup (fCons (fCall gAbs (fCons (fBin gIx (fVarB 3) (fC (.int 0))) fNil)) (fCons (fBin gIx (fVarB 3) (fC (.int 1))) fNil))))))
noncomputable def g__law_bound : Me → Res (Fl × Me) :=
 (c__law_bound F__law_number)
noncomputable def F__law_bound:List D->Res (Bool×D):=runF 4 3 g__law_bound
noncomputable def B__law_fraction_1 : Me → Res (Fl × Me) :=
 (gIf (fOrT (fNotT (fTv (fIsi "int" (fVarB 1)))) (fTv (fIsi "bool" (fVarB 1)))) (gRet (fC (.bl false))) gNx)
noncomputable def L__law_fraction_2 : Me → Res (Fl × Me) :=
 (gFor (fItT (fVar 0)) (hName 1) B__law_fraction_1)
noncomputable def c__law_fraction (φ__law_divisor : List D → Res (Bool × D)) (l_2 : Me → Res (Fl × Me)) : Me → Res (Fl × Me) :=
 (gSeq (gIf (fOrT (fNotT (fTv (fIsi "tuple" (fVarB 0)))) (fCmpT gNe (fCall gLen (fCons (fVarB 0) fNil)) (fC (.int 2)))) (gRet (fC (.bl false))) gNx)
 (gSeq l_2
 (gRet (fAnd (fCmp gGt (fBin gIx (fVarB 0) (fC (.int 1))) (fC (.int 0))) (fCmp gEq (fFn φ__law_divisor (fCons (fBin gIx (fVarB 0) (fC (.int 0))) (fCons (fBin gIx (fVarB 0) (fC (.int 1))) fNil))) (fC (.int 1)))))))
noncomputable def g__law_fraction : Me → Res (Fl × Me) :=
 (c__law_fraction F__law_divisor L__law_fraction_2)
noncomputable def F__law_fraction:List D->Res (Bool×D):=runF 2 1 g__law_fraction
noncomputable def B__law_list_1 : Me → Res (Fl × Me) :=
 (gIf (fOrT (fNotT (fTv (fFn F__law_fraction (fCons (fVar 2) fNil)))) (fCmpT gLt (fBin gIx (fVarB 2) (fC (.int 0))) (fC (.int 0)))) (gRet (fC (.bl false))) gNx)
noncomputable def L__law_list_2 : Me → Res (Fl × Me) :=
 (gFor (fItL (fVar 0)) (hName 2) B__law_list_1)
noncomputable def c__law_list (l_2 : Me → Res (Fl × Me)) : Me → Res (Fl × Me) :=
 (gSeq (gIf (fOrT (fNotT (fTv (fIsi "list" (fVarB 0)))) (fCmpT gNe (fCall gLen (fCons (fVarB 0) fNil)) (fVarB 1))) (gRet (fC (.bl false))) gNx)
 (gSeq l_2
 (gRet (fC (.bl true)))))
noncomputable def g__law_list : Me → Res (Fl × Me) :=
 (c__law_list L__law_list_2)
noncomputable def F__law_list:List D->Res (Bool×D):=runF 3 2 g__law_list
noncomputable def B__law_dot_1 : Me → Res (Fl × Me) :=
 (gSeq (gSet 2 (fBin gAdd (fBin gMul (fBin gMul (fVarB 2) (fBin gIx (fVarB 4) (fC (.int 1)))) (fBin gIx (fVarB 5) (fC (.int 1)))) (fBin gMul (fBin gMul (fBin gIx (fVarB 4) (fC (.int 0))) (fBin gIx (fVarB 5) (fC (.int 0)))) (fVarB 3))))
 (gSet 3 (fBin gMul (fBin gMul (fVarB 3) (fBin gIx (fVarB 4) (fC (.int 1)))) (fBin gIx (fVarB 5) (fC (.int 1))))))
noncomputable def L__law_dot_2 : Me → Res (Fl × Me) :=
 (gFor (fItZ (fCons (fVar 0) (fCons (fVar 1) fNil))) (hTup 2 (hCons (hName 4) (hCons (hName 5) hNil))) B__law_dot_1)
noncomputable def c__law_dot (l_2 : Me → Res (Fl × Me)) : Me → Res (Fl × Me) :=
 (gSeq (gSet 2 (fC (.int 0)))
 (gSeq (gSet 3 (fC (.int 1)))
 (gSeq l_2
 (gRet (fTup (fCons (fVar 2) (fCons (fVar 3) fNil)))))))
noncomputable def g__law_dot : Me → Res (Fl × Me) :=
 (c__law_dot L__law_dot_2)
noncomputable def F__law_dot:List D->Res (Bool×D):=runF 6 2 g__law_dot
noncomputable def c__law_most : Me → Res (Fl × Me) :=
 (gRet (fCmp gLe (fBin gMul (fBin gIx (fVarB 0) (fC (.int 0))) (fBin gIx (fVarB 1) (fC (.int 1)))) (fBin gMul (fBin gIx (fVarB 1) (fC (.int 0))) (fBin gIx (fVarB 0) (fC (.int 1))))))
noncomputable def g__law_most : Me → Res (Fl × Me) :=
 c__law_most
noncomputable def F__law_most:List D->Res (Bool×D):=runF 2 2 g__law_most
noncomputable def B__law_right_1 : Me → Res (Fl × Me) :=
 (gIf (fNotT (fTv (fFn F__law_most (fCons (fFn F__law_dot (fCons (fVar 4) (fCons (fBin gIx (fVarB 0) (fC (.int 1))) fNil))) (fCons (fVar 5) fNil))))) (gRet (fC (.bl false))) gNx)
noncomputable def L__law_right_2 : Me → Res (Fl × Me) :=
 (gFor (fItZ (fCons (fVar 1) (fCons (fVar 2) fNil))) (hTup 2 (hCons (hName 4) (hCons (hName 5) hNil))) B__law_right_1)
noncomputable def B__law_right_3 : Me → Res (Fl × Me) :=
 (gIf (fCmpT gGt (fBin gIx (fFn F__law_dot (fCons (fVar 4) (fCons (fBin gIx (fVarB 0) (fC (.int 2))) fNil))) (fC (.int 0))) (fC (.int 0))) (gRet (fC (.bl false))) gNx)
noncomputable def L__law_right_4 : Me → Res (Fl × Me) :=
 (gFor (fItL (fVar 1)) (hName 4) B__law_right_3)
noncomputable def E__law_right_5 : Me → Res D :=
 (fBin gIx (fVarB 0) (fVarB 1))
noncomputable def Q__law_right_6 : Me → Res D :=
 (fComp 1 [6] (fItL (fVarB 1)) (hName 0) fAll E__law_right_5)
noncomputable def B__law_right_7 : Me → Res (Fl × Me) :=
 (gIf (fNotT (fTv (fFn F__law_most (fCons (fVar 7) (fCons (fFn F__law_dot (fCons Q__law_right_6 (fCons (fBin gIx (fVarB 0) (fC (.int 2))) fNil))) fNil))))) (gRet (fC (.bl false))) gNx)
noncomputable def L__law_right_8 : Me → Res (Fl × Me) :=
 (gFor (fItE (fCons (fVar 3) fNil)) (hTup 2 (hCons (hName 6) (hCons (hName 7) hNil))) B__law_right_7)
noncomputable def c__law_right (φ__law_list : List D → Res (Bool × D)) (φ__law_dot : List D → Res (Bool × D)) (l_2 : Me → Res (Fl × Me)) (l_4 : Me → Res (Fl × Me)) (l_8 : Me → Res (Fl × Me)) : Me → Res (Fl × Me) :=
 (gSeq (gIf (fOrT (fNotT (fTv (fIsi "tuple" (fVarB 0)))) (fOrT (fCmpT gNe (fCall gLen (fCons (fVarB 0) fNil)) (fC (.int 3))) (fNotT (fTv (fFn φ__law_list (fCons (fBin gIx (fVarB 0) (fC (.int 1))) (fCons (fCall gLen (fCons (fVarB 3) fNil)) fNil))))))) (gRet (fC (.bl false))) gNx)
 (gSeq l_2
 (gSeq (gIf (fCmpT gEq (fBin gIx (fVarB 0) (fC (.int 0))) (fC (.str "endless"))) (gSeq (gIf (fNotT (fTv (fFn φ__law_list (fCons (fBin gIx (fVarB 0) (fC (.int 2))) (fCons (fCall gLen (fCons (fVarB 3) fNil)) fNil))))) (gRet (fC (.bl false))) gNx)
 (gSeq l_4
 (gRet (fCmp gGt (fBin gIx (fFn φ__law_dot (fCons (fVar 3) (fCons (fBin gIx (fVarB 0) (fC (.int 2))) fNil))) (fC (.int 0))) (fC (.int 0)))))) gNx)
 (gSeq (gIf (fOrT (fCmpT gNe (fBin gIx (fVarB 0) (fC (.int 0))) (fC (.str "best"))) (fNotT (fTv (fFn φ__law_list (fCons (fBin gIx (fVarB 0) (fC (.int 2))) (fCons (fCall gLen (fCons (fVarB 1) fNil)) fNil)))))) (gRet (fC (.bl false))) gNx)
 (gSeq l_8
 (gSeq (gSet 8 (fFn φ__law_dot (fCons (fVar 3) (fCons (fBin gIx (fVarB 0) (fC (.int 1))) fNil))))
 (gSeq (gSet 9 (fFn φ__law_dot (fCons (fVar 2) (fCons (fBin gIx (fVarB 0) (fC (.int 2))) fNil))))
 (gRet (fCmp gEq (fBin gMul (fBin gIx (fVarB 8) (fC (.int 0))) (fBin gIx (fVarB 9) (fC (.int 1)))) (fBin gMul (fBin gIx (fVarB 9) (fC (.int 0))) (fBin gIx (fVarB 8) (fC (.int 1)))))))))))))
noncomputable def g__law_right : Me → Res (Fl × Me) :=
 (c__law_right F__law_list F__law_dot L__law_right_2 L__law_right_4 L__law_right_8)
noncomputable def F__law_right:List D->Res (Bool×D):=runF 10 4 g__law_right
noncomputable def E__law_round_right_1 : Me → Res D :=
 (fBin gAdd (fSl (fVarB 0) (fO1 (fVarB 1)) fO0) (fSl (fVarB 0) fO0 (fO1 (fVarB 1))))
noncomputable def Q__law_round_right_2 : Me → Res D :=
 (fComp 1 [5] (fItL (fBin gAdd (fSl (fVarB 2) (fO1 (fVarB 6)) fO0) (fSl (fVarB 2) fO0 (fO1 (fVarB 6))))) (hName 0) fAll E__law_round_right_1)
noncomputable def E__law_round_right_3 : Me → Res D :=
 (fCall gList (fCons (fVarB 0) fNil))
noncomputable def Q__law_round_right_4 : Me → Res D :=
 (fComp 1 [] (fItL (fVarB 7)) (hName 0) fAll E__law_round_right_3)
noncomputable def B__law_round_right_5 : Me → Res (Fl × Me) :=
 (gSeq (gSet 5 (fBin gMod (fVarB 4) (fC (.int 4))))
 (gSeq (gSet 6 (fBin gDiv (fVarB 4) (fC (.int 4))))
 (gSeq (gSet 7 Q__law_round_right_2)
 (gSeq (gSet 8 (fBin gAdd (fSl (fVarB 3) (fO1 (fVarB 6)) fO0) (fSl (fVarB 3) fO0 (fO1 (fVarB 6)))))
 (gSeq (gSet 9 (fBin gAdd (fSl (fVarB 1) (fO1 (fVarB 5)) fO0) (fSl (fVarB 1) fO0 (fO1 (fVarB 5)))))
 (gIf (fNotT (fTv (fFn F__law_right (fCons (fFn F_solve (fCons Q__law_round_right_4 (fCons (fCall gList (fCons (fVarB 8) fNil)) (fCons (fCall gList (fCons (fVarB 9) fNil)) fNil)))) (fCons (fVar 7) (fCons (fVar 8) (fCons (fVar 9) fNil))))))) (gRet (fC (.bl false))) gNx))))))
noncomputable def L__law_round_right_6 : Me → Res (Fl × Me) :=
 (gFor (fItT (fTup (fCons (fC (.int 0)) (fCons (fBin gMod (fVarB 0) (fC (.int 12))) fNil)))) (hName 4) B__law_round_right_5)
noncomputable def c__law_round_right (l_6 : Me → Res (Fl × Me)) : Me → Res (Fl × Me) :=
 (gSeq (gSet 1 (fLst (fCons (fTup (fCons (fC (.int 10)) (fCons (fC (.int 1)) fNil))) (fCons (fTup (fCons (fUn gNeg (fC (.int 57))) (fCons (fC (.int 1)) fNil))) (fCons (fTup (fCons (fUn gNeg (fC (.int 9))) (fCons (fC (.int 1)) fNil))) (fCons (fTup (fCons (fUn gNeg (fC (.int 24))) (fCons (fC (.int 1)) fNil))) fNil))))))
 (gSeq (gSet 2 (fLst (fCons (fLst (fCons (fTup (fCons (fC (.int 1)) (fCons (fC (.int 2)) fNil))) (fCons (fTup (fCons (fUn gNeg (fC (.int 11))) (fCons (fC (.int 2)) fNil))) (fCons (fTup (fCons (fUn gNeg (fC (.int 5))) (fCons (fC (.int 2)) fNil))) (fCons (fTup (fCons (fC (.int 9)) (fCons (fC (.int 1)) fNil))) fNil))))) (fCons (fLst (fCons (fTup (fCons (fC (.int 1)) (fCons (fC (.int 2)) fNil))) (fCons (fTup (fCons (fUn gNeg (fC (.int 3))) (fCons (fC (.int 2)) fNil))) (fCons (fTup (fCons (fUn gNeg (fC (.int 1))) (fCons (fC (.int 2)) fNil))) (fCons (fTup (fCons (fC (.int 1)) (fCons (fC (.int 1)) fNil))) fNil))))) (fCons (fLst (fCons (fTup (fCons (fC (.int 1)) (fCons (fC (.int 1)) fNil))) (fCons (fTup (fCons (fC (.int 0)) (fCons (fC (.int 1)) fNil))) (fCons (fTup (fCons (fC (.int 0)) (fCons (fC (.int 1)) fNil))) (fCons (fTup (fCons (fC (.int 0)) (fCons (fC (.int 1)) fNil))) fNil))))) fNil)))))
 (gSeq (gSet 3 (fLst (fCons (fTup (fCons (fC (.int 0)) (fCons (fC (.int 1)) fNil))) (fCons (fTup (fCons (fC (.int 0)) (fCons (fC (.int 1)) fNil))) (fCons (fTup (fCons (fC (.int 1)) (fCons (fC (.int 1)) fNil))) fNil)))))
 (gSeq l_6
 (gRet (fC (.bl true)))))))
noncomputable def g__law_round_right : Me → Res (Fl × Me) :=
 (c__law_round_right L__law_round_right_6)
noncomputable def F__law_round_right:List D->Res (Bool×D):=runF 10 1 g__law_round_right
noncomputable def E_law_1 : Me → Res D :=
 (fFn F__law_number (fCons (fFn F__law_cell_at (fCons (fVar 2) (fCons (fBin gAdd (fVarB 3) (fVarB 0)) fNil))) (fCons (fVar 1) fNil)))
noncomputable def Q_law_2 : Me → Res D :=
 (fComp 1 [4, 0, 6] (fItR1 (fCons (fVarB 3) fNil)) (hName 0) fAll E_law_1)
noncomputable def E_law_3 : Me → Res D :=
 (fFn F__law_bound (fCons (fFn F__law_cell_at (fCons (fVar 3) (fCons (fBin gAdd (fVarB 4) (fVarB 0)) fNil))) (fCons (fVar 1) (fCons (fVar 2) fNil))))
noncomputable def Q_law_4 : Me → Res D :=
 (fComp 1 [4, 5, 0, 6] (fItR1 (fCons (fVarB 2) fNil)) (hName 0) fAll E_law_3)
noncomputable def E_law_5 : Me → Res D :=
 (fFn F__law_number (fCons (fFn F__law_cell_at (fCons (fVar 2) (fCons (fBin gAdd (fVarB 3) (fVarB 0)) fNil))) (fCons (fVar 1) fNil)))
noncomputable def Q_law_6 : Me → Res D :=
 (fComp 1 [4, 0, 6] (fItR1 (fCons (fVarB 3) fNil)) (hName 0) fAll E_law_5)
noncomputable def B_law_7 : Me → Res (Fl × Me) :=
 (gSeq (gAppend 9 Q_law_6)
 (gSet 6 (fBin gAdd (fVarB 6) (fVarB 3))))
noncomputable def L_law_8 : Me → Res (Fl × Me) :=
 (gFor (fItR1 (fCons (fVarB 2) fNil)) (hName 10) B_law_7)
noncomputable def E_law_9 : Me → Res D :=
 (fCall gList (fCons (fVarB 0) fNil))
noncomputable def Q_law_10 : Me → Res D :=
 (fComp 1 [] (fItL (fVarB 9)) (hName 0) fAll E_law_9)
noncomputable def c_law (φ_solve : List D → Res (Bool × D)) (φ__law_cell_at : List D → Res (Bool × D)) (φ__law_right : List D → Res (Bool × D)) (φ__law_round_right : List D → Res (Bool × D)) (l_2 : Me → Res D) (l_4 : Me → Res D) (l_8 : Me → Res (Fl × Me)) (l_10 : Me → Res D) : Me → Res (Fl × Me) :=
 (gSeq (gSet 1 (fFn φ__law_cell_at (fCons (fVar 0) (fCons (fC (.int 0)) fNil))))
 (gSeq (gIf (fNotT (fTv (fFn φ__law_round_right (fCons (fVar 1) fNil)))) (gRet (fC (.bl false))) gNx)
 (gSeq (gSet 2 (fBin gMod (fVarB 1) (fC (.int 9))))
 (gSeq (gSet 3 (fBin gAdd (fC (.int 1)) (fBin gMod (fBin gDiv (fVarB 1) (fC (.int 9))) (fC (.int 8)))))
 (gSeq (gSet 4 (fBin gMod (fBin gDiv (fVarB 1) (fC (.int 72))) (fC (.int 4))))
 (gSeq (gSet 5 (fBin gMod (fBin gDiv (fVarB 1) (fC (.int 288))) (fC (.int 2))))
 (gSeq (gSet 6 (fC (.int 1)))
 (gSeq (gSet 7 l_2)
 (gSeq (gSet 6 (fBin gAdd (fVarB 6) (fVarB 3)))
 (gSeq (gSet 8 l_4)
 (gSeq (gSet 6 (fBin gAdd (fVarB 6) (fVarB 2)))
 (gSeq (gOwn 9 (fLst fNil))
 (gSeq l_8
 (gLet 9 (gSeq (gSet 11 (fTup (fCons l_10 (fCons (fCall gList (fCons (fVarB 8) fNil)) (fCons (fCall gList (fCons (fVarB 7) fNil)) fNil)))))
 (gNewT 12 14 φ_solve (fCons (fBin gIx (fVarB 11) (fC (.int 0))) (fCons (fBin gIx (fVarB 11) (fC (.int 1))) (fCons (fBin gIx (fVarB 11) (fC (.int 2))) fNil)))
 (gSeq (gIf (fOrT (fCmpT gNe (fVarB 11) (fTup (fCons (fVar 9) (fCons (fVar 8) (fCons (fVar 7) fNil))))) (fNotT (fTv (fFnC φ__law_right (fCons (fViewT 12 [14, 15]) (fCons (fVarB 9) (fCons (fVarB 8) (fCons (fVarB 7) fNil)))))))) (gRet (fC (.bl false))) gNx)
 (gSeq (gSet 13 (fTup (fCons (fBin gIx (fVarB 12) (fC (.int 0))) (fCons (fCall gList (fCons (fAdr 14 (fBin gIx (fVarB 12) (fC (.int 1)))) fNil)) (fCons (fCall gList (fCons (fAdr 15 (fBin gIx (fVarB 12) (fC (.int 2)))) fNil)) fNil)))))
 (gSeq (gAdrClear 14 (fBin gIx (fVarB 12) (fC (.int 1))))
 (gSeq (gAdrApp 15 (fBin gIx (fVarB 12) (fC (.int 2))) (fTup (fCons (fC (.int 5)) (fCons (fC (.int 1)) fNil))))
 (gRet (fCmp gEq (fFn φ_solve (fCons (fVar 9) (fCons (fVar 8) (fCons (fVar 7) fNil)))) (fVarB 13)))))))))))))))))))))))
noncomputable def g_law : Me → Res (Fl × Me) :=
 (c_law F_solve F__law_cell_at F__law_right F__law_round_right Q_law_2 Q_law_4 L_law_8 Q_law_10)
noncomputable def F_law:List D->Res (Bool×D):=runF 16 1 g_law
end
end K35
namespace Hd
noncomputable def gI (a b:Int):Int:=(Int.gcd a b:Nat)
theorem gI_step {a b:Int}(ha:0<=a)(hb:0<b):gI b (a % b)=gI a b:=by
 unfold gI Int.gcd
 have e:(a % b).natAbs=a.natAbs % b.natAbs:=by
  obtain ⟨n,rfl⟩:=Int.eq_ofNat_of_zero_le ha
  obtain ⟨m,rfl⟩:=Int.eq_ofNat_of_zero_le (Int.le_of_lt hb)
  rfl
 rw [e,Nat.gcd_comm a.natAbs b.natAbs,Nat.gcd_rec b.natAbs a.natAbs,Nat.gcd_comm]
theorem gI_zero {a:Int}(ha:0<=a):gI a 0=a:=by
 unfold gI
 rw [Int.gcd_zero_right]
 omega
theorem gI_abs (a b:Int):gI (if a<0 then -a else a) (if b<0 then -b else b)=gI a b:=by
 unfold gI Int.gcd
 have h:∀x:Int,(if x<0 then -x else x).natAbs=x.natAbs:=fun x=>by split <;> omega
 rw [h,h]
theorem gI_nn (a b:Int):0<=gI a b:=Int.natCast_nonneg _
theorem gI_pos {a b:Int}(hb:b≠0):0<gI a b:=by
 have:0<Int.gcd a b:=Nat.pos_of_ne_zero fun h=>hb (Int.gcd_eq_zero_iff.mp h).2
 unfold gI; omega
theorem gI_left (a b:Int):gI a b ∣ a:=Int.gcd_dvd_left a b
theorem gI_right (a b:Int):gI a b ∣ b:=Int.gcd_dvd_right a b
theorem gI_le {a b:Int}(hb:b≠0):(gI a b).natAbs<=b.natAbs:=by
 have h:(gI a b).natAbs ∣ b.natAbs:=Int.natAbs_dvd_natAbs.mpr (gI_right a b)
 exact Nat.le_of_dvd (by omega) h
noncomputable def dv (t b:Int):Int:=if b<0 then -gI t b else gI t b
theorem dv_ne {t b:Int}(hb:b≠0):dv t b≠0:=by
 have:=gI_pos (a:=t) hb
 unfold dv; split <;> omega
theorem dv_abs (t b:Int):(dv t b).natAbs=(gI t b).natAbs:=by unfold dv; split <;> omega
noncomputable def lt (t b:Int):Int:=t.fdiv (dv t b)
noncomputable def lb (t b:Int):Int:=b.fdiv (dv t b)
theorem fdiv_exact {a d q:Int}(hd:d≠0)(h:a=d * q):a.fdiv d=q:=by
 rw [h]
 exact Int.mul_fdiv_cancel_left q hd
theorem dv_left (t b:Int):dv t b ∣ t:=by
 unfold dv; split
 ·exact Int.neg_dvd.mpr (gI_left t b)
 ·exact gI_left t b
theorem dv_right (t b:Int):dv t b ∣ b:=by
 unfold dv; split
 ·exact Int.neg_dvd.mpr (gI_right t b)
 ·exact gI_right t b
theorem lt_mul {t b:Int}(hb:b≠0):dv t b * lt t b=t:=by
 obtain ⟨q,hq⟩:=dv_left t b
 have e:lt t b=q:=fdiv_exact (dv_ne hb) hq
 rw [e]; exact hq.symm
theorem lb_mul {t b:Int}(hb:b≠0):dv t b * lb t b=b:=by
 obtain ⟨q,hq⟩:=dv_right t b
 have e:lb t b=q:=fdiv_exact (dv_ne hb) hq
 rw [e]; exact hq.symm
theorem lb_pos {t b:Int}(hb:b≠0):1<=lb t b:=by
 have e:=lb_mul (t:=t) hb
 have g:=gI_pos (a:=t) hb
 by_cases h:lb t b<=0
 ·exfalso
  unfold dv at e
  split at e
  ·have:0<=-gI t b * lb t b:=Int.mul_nonneg_of_nonpos_of_nonpos (by omega) h
   omega
  ·have:gI t b * lb t b<=0:=Int.mul_nonpos_of_nonneg_of_nonpos (by omega) h
   omega
 ·omega
theorem low_gcd {t b:Int}(hb:b≠0):gI (lt t b) (lb t b)=1:=by
 have e1:=lt_mul (t:=t) hb
 have e2:=lb_mul (t:=t) hb
 have g:=gI_pos (a:=t) hb
 have q:gI t b=(dv t b).natAbs * gI (lt t b) (lb t b):=by
  have:Int.gcd (dv t b * lt t b) (dv t b * lb t b)=(dv t b).natAbs * Int.gcd (lt t b) (lb t b):=Int.gcd_mul_left ..
  rw [e1,e2] at this
  unfold gI
  rw [this]
  push_cast
  rfl
 have ed:((dv t b).natAbs:Int)=gI t b:=by rw [dv_abs]; have:=gI_nn t b; omega
 rw [ed] at q
 have h:gI t b * gI (lt t b) (lb t b)=gI t b * 1:=by rw [Int.mul_one]; exact q.symm
 exact Int.eq_of_mul_eq_mul_left (by omega) h
theorem low_cross {t b:Int}(hb:b≠0):lt t b * b=t * lb t b:=by
 have e1:=lt_mul (t:=t) hb
 have e2:=lb_mul (t:=t) hb
 calc lt t b * b=lt t b * (dv t b * lb t b):=by rw [e2]
  _=(dv t b * lt t b) * lb t b:=by rw [← Int.mul_assoc,Int.mul_comm (lt t b) (dv t b)]
  _=t * lb t b:=by rw [e1]
theorem lt_le {t b:Int}(hb:b≠0):(lt t b).natAbs<=t.natAbs:=by
 have e:=lt_mul (t:=t) hb
 have h:(lt t b).natAbs ∣ t.natAbs:=Int.natAbs_dvd_natAbs.mpr ⟨dv t b,by rw [Int.mul_comm]; exact e.symm⟩
 by_cases z:t=0
 ·have:lt t b=0:=by
   have e':dv t b * lt t b=0:=e.trans z
   rcases Int.mul_eq_zero.mp e' with h | h
   ·exact absurd h (dv_ne hb)
   ·exact h
  rw [this]; exact Nat.zero_le _
 ·exact Nat.le_of_dvd (by omega) h
theorem lb_le {t b:Int}(hb:b≠0):(lb t b).natAbs<=b.natAbs:=by
 have e:=lb_mul (t:=t) hb
 have h:(lb t b).natAbs ∣ b.natAbs:=Int.natAbs_dvd_natAbs.mpr ⟨dv t b,by rw [Int.mul_comm]; exact e.symm⟩
 exact Nat.le_of_dvd (by omega) h
theorem mul_lt {a b:Int}{m n:Nat}(ha:a.natAbs<2 ^ m)(hb:b.natAbs<2 ^ n):(a * b).natAbs<2 ^ (m+n):=by
 rw [Int.natAbs_mul,Nat.pow_add]
 exact Nat.mul_lt_mul'' ha hb
theorem add_lt {a b:Int}{m:Nat}(ha:a.natAbs<2 ^ m)(hb:b.natAbs<2 ^ m):(a+b).natAbs<2 ^ (m+1):=by
 rw [Nat.pow_succ]
 omega
theorem lt_mono {n m k:Nat}(h:n<2 ^ m)(hk:m<=k):n<2 ^ k:=Nat.lt_of_lt_of_le h (Nat.pow_le_pow_right (by decide) hk)
noncomputable abbrev Q2:=Int×Int
end Hd
namespace F
open PySem L2 Hd
@[simp] theorem szl:sizeLine=16777216:=by decide
theorem map_toNat_inj:∀{a b:List Char},a.map Char.toNat=b.map Char.toNat->a=b
 |[],[],_=>rfl
 |[],_::_,h=>by simp at h
 |_::_,[],h=>by simp at h
 |x::a,y::b,h=>by
  have h':x.toNat=y.toNat/\a.map Char.toNat=b.map Char.toNat:=by simpa using h
  rw [Char.toNat_inj.mp h'.1,map_toNat_inj h'.2]
@[simp] theorem ofS_inj {a b:String}:(Str.ofString a=Str.ofString b)↔a=b:=by
 constructor
 ·intro h
  rw [Str.ofString_eq_toList,Str.ofString_eq_toList] at h
  have h2:(a.toList.map Char.toNat).toArray=(b.toList.map Char.toNat).toArray:=congrArg Str.cps h
  have h3:a.toList.map Char.toNat=b.toList.map Char.toNat:=by simpa using congrArg Array.toList h2
  exact String.toList_inj.mp (map_toNat_inj h3)
 ·intro h; rw [h]
mutual
noncomputable def okD:D->Bool
 | .non | .bl _ | .int _=>true
 | .str x=>PyData.strOk x
 | .tup xs=>okDs xs
 | .lst xs=>okDs xs
 | .exc _ | .dct _ _ | .dcu _ _ | .dcf _ _ | .adr _ | .ins _ _ _=>false
noncomputable def okDs:List D->Bool
 |[]=>true
 |x::xs=>okD x && okDs xs
end
mutual
noncomputable def depD:D->Nat
 | .non | .bl _ | .int _ | .str _=>0
 | .tup xs=>depDs xs+1
 | .lst xs=>depDs xs+1
 | .exc _ | .dct _ _ | .dcu _ _ | .dcf _ _ | .adr _ | .ins _ _ _=>0
noncomputable def depDs:List D->Nat
 |[]=>0
 |x::xs=>max (depD x) (depDs xs)
end
mutual
theorem toPy_ok:∀d:D,okD d=true->∃p,toPy d=some p/\p.canLay0=true/\p.depth=depD d/\PyData.eqv p p=true
 | .non,_=>⟨.none,by simp [toPy],by simp [PyData.canLay0],by simp [PyData.depth,depD],by simp [PyData.eqv]⟩
 | .bl b,_=>⟨.bool b,by simp [toPy],by simp [PyData.canLay0],by simp [PyData.depth,depD],by simp [PyData.eqv]⟩
 | .int b,_=>⟨.int b,by simp [toPy],by simp [PyData.canLay0],by simp [PyData.depth,depD],by simp [PyData.eqv]⟩
 | .str b,h=>⟨.str b,by simp [toPy],by simpa [PyData.canLay0,okD] using h,by simp [PyData.depth,depD],by simp [PyData.eqv]⟩
 | .tup xs,h=>by
  obtain ⟨ps,h1,h2,h3,h4⟩:=toPys_ok xs (by simpa [okD] using h)
  exact ⟨.tuple ps,by simp [toPy,h1],by simpa [PyData.canLay0] using h2,by simp [PyData.depth,depD,h3],by simpa [PyData.eqv] using h4⟩
 | .lst xs,h=>by
  obtain ⟨ps,h1,h2,h3,h4⟩:=toPys_ok xs (by simpa [okD] using h)
  exact ⟨.list ps,by simp [toPy,h1],by simpa [PyData.canLay0] using h2,by simp [PyData.depth,depD,h3],by simpa [PyData.eqv] using h4⟩
 | .exc _,h=>by simp [okD] at h
 | .dct _ _,h=>by simp [okD] at h
 | .dcu _ _,h=>by simp [okD] at h
 | .adr _,h=>by simp [okD] at h
 | .ins _ _ _,h=>by simp [okD] at h
 | .dcf _ _,h=>by simp [okD] at h
theorem toPys_ok:∀ds:List D,okDs ds=true->∃ps,toPys ds=some ps/\PyData.canLayAll0 ps=true/\PyData.depthAll ps=depDs ds/\PyData.eqvAll ps ps=true
 |[],_=>⟨[],by simp [toPys],by simp [PyData.canLayAll0],by simp [PyData.depthAll,depDs],by simp [PyData.eqvAll]⟩
 |d::ds,h=>by
  have h':okD d=true/\okDs ds=true:=by simpa [okDs] using h
  obtain ⟨p,h1,h2,h3,h4⟩:=toPy_ok d h'.1
  obtain ⟨ps,k1,k2,k3,k4⟩:=toPys_ok ds h'.2
  exact ⟨p::ps,by simp [toPys,h1,k1],by simp [PyData.canLayAll0,h2,k2],by simp [PyData.depthAll,depDs,h3,k3],by simp [PyData.eqvAll,h4,k4]⟩
end
theorem eqDeep_self {d:D}(h:okD d=true)(hd:depD d<=64):eqDeep d d=some true:=by
 obtain ⟨p,h1,h2,h3,h4⟩:=toPy_ok d h
 unfold eqDeep
 rw [h1]
 have:SeqAt.shaped p=true:=by unfold SeqAt.shaped; rw [h2,decide_eq_true (by omega)]; rfl
 simp [this,h4]
theorem gEq_self {d:D}(h:okD d=true)(hd:depD d<=64):gEq d d=some true:=by
 cases d with
 |non=>rfl
 |bl b=>simp [gEq]
 |int b=>simp [gEq]
 |str b=>simp [gEq]
 |tup xs=>exact eqDeep_self h hd
 |lst xs=>exact eqDeep_self h hd
 |exc c=>simp [okD] at h
 |dct _ _=>simp [okD] at h
 |dcu _ _=>simp [okD] at h
 |adr _=>simp [okD] at h
 |ins _ _ _=>simp [okD] at h
 |dcf _ _=>simp [okD] at h
theorem gNe_self {d:D}(h:okD d=true)(hd:depD d<=64):gNe d d=some false:=by unfold gNe; rw [gEq_self h hd]; rfl
@[simp] theorem gEq_int (i j:Int):gEq (.int i) (.int j)=some (decide (i=j)):=rfl
@[simp] theorem gEq_str (i j:Str):gEq (.str i) (.str j)=some (decide (i=j)):=rfl
@[simp] theorem gEq_bl (i j:Bool):gEq (.bl i) (.bl j)=some (decide (i=j)):=rfl
@[simp] theorem gNe_int (i j:Int):gNe (.int i) (.int j)=some (!decide (i=j)):=rfl
@[simp] theorem gNe_str (i j:Str):gNe (.str i) (.str j)=some (!decide (i=j)):=rfl
@[simp] theorem gNe_bl (i j:Bool):gNe (.bl i) (.bl j)=some (!decide (i=j)):=rfl
theorem loop_inv {h:D->Me->Option Me}{g:Me->Res (Fl×Me)}(P:Nat->Me->Prop):∀(ds:List D) (i:Nat) (m:Me),P i m->(∀j d m,ds[j]? = some d->P (i+j) m->∃m1 m2,h d m=some m1/\g m1=.ok (.nx,m2)/\P (i+j+1) m2)->
  ∃m',loopL h g ds m=.ok (.nx,m')/\P (i+ds.length) m'
 |[],i,m,p,_=>⟨m,rfl,p⟩
 |d::ds,i,m,p,st=>by
  obtain ⟨m1,m2,e1,e2,p2⟩:=st 0 d m rfl p
  obtain ⟨m',e,q⟩:=loop_inv P ds (i+1) m2 p2 fun j d m hj p=>by
   have:=st (j+1) d m (by simpa using hj) (by rw [show i+(j+1)=i+1+j by omega]; exact p)
   rw [show i+(j+1)+1=i+1+j+1 by omega] at this
   exact this
  refine ⟨m',?_,by rw [show i+(d::ds).length=i+1+ds.length by simp; omega]; exact q⟩
  unfold loopL
  rw [e1]
  simp only [e2]
  exact e
noncomputable def qD (d:Q2):D:=.tup [.int d.1,.int d.2]
mutual
inductive Gm where
 |fin (d:Q2)
 |deal (n:Str) (ws:Ws)
 |move (s:Int) (n:Str) (ws:Ws)
inductive Ws where
 |nil
 |cons (l:D) (g:Gm) (r:Ws)
end
mutual
noncomputable def dp:Gm->Nat
 | .fin _=>0
 | .deal _ ws=>dpW ws+1
 | .move _ _ ws=>dpW ws+1
noncomputable def dpW:Ws->Nat
 | .nil=>0
 | .cons _ g r=>max (dp g) (dpW r)
end
end F
namespace K35
open PySem L2 Hd F
theorem wh_step {t:Me->Res Bool}{b:Me->Res (Fl×Me)}{n:Nat}{m m':Me}{r:Res (Fl×Me)}(h1:t m=.ok true)(h2:b m=.ok (.nx,m'))(h3:wh t b n m'=some r):wh t b (n+1) m=some r:=by
 unfold wh
 rw [h1,h2]
 exact h3
theorem wh_done {t:Me->Res Bool}{b:Me->Res (Fl×Me)}{m:Me}(h1:t m=.ok false):wh t b 1 m=some (.ok (.nx,m)):=by
 unfold wh
 rw [h1]
theorem cd_loop (x y:Sl):∀(n:Nat) (a b:Int) (z:Sl),b.toNat=n->0<=a->0<=b->∃k z',wh T_common_divisor_1 B_common_divisor_2 k [x,y,.fz (.int a),.fz (.int b),z] =
  some (.ok (.nx,[x,y,.fz (.int (gI a b)),.fz (.int 0),z'])):=by
 intro n
 induction n using Nat.strongRecOn with
 |_ n ih=>
  intro a b z hn ha hb
  by_cases h0:b=0
  ·subst h0
   refine ⟨1,z,?_⟩
   rw [gI_zero ha]
   exact wh_done rfl
  ·have hb':0<b:=by omega
   have hm:=Int.emod_lt_of_pos a hb'
   have hm0:=Int.emod_nonneg a h0
   obtain ⟨k,z',e⟩:=ih (a % b).toNat (by omega) b (a % b) (.fz (.int (a % b))) rfl hb hm0
   rw [gI_step ha hb'] at e
   refine ⟨k+1,z',wh_step (m':=[x,y,.fz (.int b),.fz (.int (a % b)),.fz (.int (a % b))]) ?_ ?_ e⟩
   ·simp [T_common_divisor_1,fCmpT,fVarB,fC,h0]
   ·simp [B_common_divisor_2,gSeq,gSet,fBin,fVarB,fVar,gMod,mdI,h0,hb']
theorem F_common_divisor_eq (a b:Int):F_common_divisor [.int a,.int b]=.ok (false,.int (gI a b)):=by
 obtain ⟨k,z',e⟩:=cd_loop (.fz (.int a)) (.fz (.int b)) _ (if a<0 then -a else a) (if b<0 then -b else b) .un rfl (by split <;> omega) (by split <;> omega)
 rw [gI_abs] at e
 have e2:=gWhile_eq k e
 simp [F_common_divisor,runF,g_common_divisor,c_common_divisor,L_common_divisor_3,gSeq,gSet,fCall,fCons,fNil,fVarB,gAbs,e2,gRet,Me.let,Sl.let,fVar]
theorem bg_of {i:Int}{k:Nat}(h:i.natAbs<2 ^ k)(hk:k<=60000:=by decide):Bg i:=bg_is (lt_mono h hk)
theorem bq_of {i:Int}{k:Nat}(h:i.natAbs<2 ^ k)(hk:k<=8900:=by decide):Bq i:=bq_is (lt_mono h hk)
theorem dv_is {t b:Int}(hb:0<b):dv t b=gI t b:=if_neg (by omega)
theorem dvI_lt {t b:Int}(hb:0<b):dvI t (gI t b)=lt t b:=by
 have:=gI_pos (a:=t) (b:=b) (by omega)
 unfold dvI lt
 rw [dv_is hb,if_pos this,Int.fdiv_eq_ediv_of_nonneg t (by omega)]
theorem dvI_lb {t b:Int}(hb:0<b):dvI b (gI t b)=lb t b:=by
 have:=gI_pos (a:=t) (b:=b) (by omega)
 unfold dvI lb
 rw [dv_is hb,if_pos this,Int.fdiv_eq_ediv_of_nonneg b (by omega)]
theorem gI_bq {t b:Int}(hb:0<b)(hB:Bq b):Bq (gI t b):=by
 have h1:=gI_le (a:=t) (b:=b) (by omega)
 unfold Bq at hB ⊢
 omega
noncomputable def low (t b:Int):Q2:=(lt t b,lb t b)
theorem F_lowest_eq {t b:Int}(hb:0<b)(hB:Bq b):F_lowest [.int t,.int b]=.ok (false,qD (low t b)):=by
 have hg:gI t b≠0:=by have:=gI_pos (a:=t) (b:=b) (by omega); omega
 have h:¬b<0:=by omega
 simp [hg,F_lowest,runF,g_lowest,c_lowest,gSeq,gSet,fFn,fCons,fNil,fVar,fVarB,F_common_divisor_eq,gIf,fCmpT,fC,gLt,h,gNx,gRet,Me.let,Sl.let,fTup,fBin,gDiv,gI_bq hb hB,dvI_lt hb,dvI_lb hb,qD,low]
theorem ix0 {a b:D}:atI [a,b] 0=some a:=rfl
theorem ix1 {a b:D}:atI [a,b] 1=some b:=rfl
open PySem L2 Hd F
noncomputable def rg (n:Nat)(f:Nat->D):List D:=(List.range n).map f
section
variable {n:Nat}{f g:Nat->D}
theorem rg_len:(rg n f).length=n:=by simp [rg]
theorem rg_get {i:Nat}(h:i<n):(rg n f)[i]? = some (f i):=by simp [rg,h]
theorem rg_at' {i:Int}(h0:0<=i)(h:i<n):atI (rg n f) i=some (f i.toNat):=by
 unfold atI ixN
 rw [rg_len,if_pos h0,if_pos h]
 exact rg_get (by omega)
theorem rg_at {i:Nat}(h:i<n):atI (rg n f) (i:Int)=some (f i):=rg_at' (by omega) (by omega)
theorem rg_last:atI (rg (n+1) f) (-1)=some (f n):=by
 unfold atI ixN
 rw [rg_len,if_neg (by decide),if_pos (by omega)]
 show (rg (n+1) f)[(-1+((n+1:Nat):Int)).toNat]? = _
 rw [show (-1+((n+1:Nat):Int)).toNat=n by omega]
 exact rg_get (by omega)
theorem rg_ext (h:∀i,i<n->f i=g i):rg n f=rg n g:=by
 unfold rg
 exact List.map_congr_left fun i hi=>h i (List.mem_range.mp hi)
theorem rg_set (p:Nat)(v:D):(rg n f).set p v=rg n (fun i=>if i=p then v else f i):=by
 apply List.ext_getElem?
 intro i
 by_cases hi:i<n
 ·rw [rg_get hi,List.getElem?_set]
  by_cases q:p=i
  ·subst q; simp [rg_len,hi]
  ·rw [if_neg q,if_neg (Ne.symm q),rg_get hi]
 ·rw [List.getElem?_eq_none (by rw [List.length_set,rg_len]; omega),List.getElem?_eq_none (by rw [rg_len]; omega)]
theorem rg_enum:enumD (rg n f)=rg n fun i=>.tup [.int i,f i]:=by
 apply List.ext_getElem?
 intro i
 by_cases hi:i<n
 ·simp [enumD,rg_get hi]
 ·rw [List.getElem?_eq_none (by rw [enumD_len,rg_len]; omega),List.getElem?_eq_none (by rw [rg_len]; omega)]
theorem rg_zip:zipD (rg n f) (rg n g)=rg n fun i=>.tup [f i,g i]:=by
 apply List.ext_getElem?
 intro i
 by_cases hi:i<n
 ·rw [rg_get hi]; exact zipD_at (rg_get hi) (rg_get hi)
 ·rw [List.getElem?_eq_none (by rw [zipD_len,rg_len,rg_len]; omega),List.getElem?_eq_none (by rw [rg_len]; omega)]
theorem rg_cons:rg (n+1) f=f 0::rg n (fun i=>f (i+1)):=by
 unfold rg
 rw [List.range_succ_eq_map,List.map_cons,List.map_map]
 rfl
theorem rg_snoc:rg (n+1) f=rg n f++[f n]:=by
 unfold rg
 rw [List.range_succ,List.map_append]
 rfl
theorem comp_rg {h:D->Me->Option Me}{ft:Me->Res Bool}{fe:Me->Res D}{m0:Me}(φ:Nat->D)(H:∀i,i<n->∃m1,h (f i) m0=some m1/\ft m1=.ok true/\fe m1=.ok (φ i)):compL h ft fe m0 (rg n f)=.ok (rg n φ):=by
 induction n generalizing f φ with
 |zero=>rfl
 |succ n ih=>
  obtain ⟨m1,e1,e2,e3⟩:=H 0 (by omega)
  have:=ih (f:=fun i=>f (i+1)) (fun i=>φ (i+1)) fun i hi=>H (i+1) (by omega)
  rw [rg_cons,rg_cons]
  unfold compL
  simp only [e1,e2,e3,this]
theorem loop_rg {h:D->Me->Option Me}{k:Me->Res (Fl×Me)}(P:Nat->Me->Prop){m:Me}(h0:P 0 m)(H:∀i m,i<n->P i m->∃m1 m2,h (f i) m=some m1/\k m1=.ok (.nx,m2)/\P (i+1) m2):∃m',loopL h k (rg n f) m=.ok (.nx,m')/\P n m':=by
 obtain ⟨m',e,p⟩:=loop_inv (h:=h) (g:=k) P (rg n f) 0 m h0 fun j d m hj p=>by
  have hl:j<n:=by have:=(List.getElem?_eq_some_iff.mp hj).1; rwa [rg_len] at this
  rw [rg_get hl] at hj
  cases hj
  rw [Nat.zero_add] at p ⊢
  exact H j m hl p
 rw [rg_len,Nat.zero_add] at p
 exact ⟨m',e,p⟩
end
theorem itR {f:Me->Res (List D)}{m:Me}{j:Int}{n:Nat}(h:f m=.ok [.int j])(e:j=n)(hn:n<=1000):fItR1 f m=.ok (rg n fun i=>.int i):=by
 have h1:-(2 ^ 62)<=j/\j<2 ^ 62:=by
  have e1:(-(2 ^ 62):Int)<=0:=by decide
  have e2:(1001:Int)<=2 ^ 62:=by decide
  exact ⟨Int.le_trans e1 (by omega),Int.lt_of_lt_of_le (by omega) e2⟩
 unfold fItR1
 rw [h,Res.bind_ok]
 show (if -(2 ^ 62)<=j/\j<2 ^ 62 then _ else _)=_
 rw [if_pos h1,e]
 rfl
noncomputable def iL (n:Nat)(f:Nat->Int):D:=.lst (rg n fun i=>.int (f i))
theorem loop_find {h:D->Me->Option Me}{k:Me->Res (Fl×Me)}:∀{n:Nat} {f:Nat->D} (P:Nat->Me->Prop) (Q:Nat->Bool->D->Prop) {m:Me},P 0 m->(∀i m,i<n->P i m->∃m1 m2,h (f i) m=some m1/\((k m1=.ok (.nx,m2)/\P (i+1) m2)\/∃fr v,k m1=.ok (.rt fr v,m2)/\Q i fr v))->
  (∃m',loopL h k (rg n f) m=.ok (.nx,m')/\P n m')\/∃i fr v m',i<n/\loopL h k (rg n f) m=.ok (.rt fr v,m')/\Q i fr v
 |0,f,P,Q,m,h0,_=>.inl ⟨m,rfl,h0⟩
 |n+1,f,P,Q,m,h0,H=>by
  obtain ⟨m1,m2,e1,e2⟩:=H 0 m (by omega) h0
  rw [rg_cons]
  rcases e2 with ⟨e2,p⟩ | ⟨fr,v,e2,q⟩
  ·have e:loopL h k (f 0::rg n fun i=>f (i+1)) m=loopL h k (rg n fun i=>f (i+1)) m2:=by
    rw [loopL]
    simp only [e1,e2]
   rw [e]
   rcases loop_find (n:=n) (f:=fun i=>f (i+1)) (fun i m=>P (i+1) m) (fun i=>Q (i+1)) p (fun i m hi p=>H (i+1) m (by omega) p) with z | ⟨i,fr,v,m',hi,e3,q⟩
   ·exact .inl z
   ·exact .inr ⟨i+1,fr,v,m',by omega,e3,q⟩
  ·refine .inr ⟨0,fr,v,m2,by omega,?_,q⟩
   rw [loopL]
   simp only [e1,e2]
noncomputable def fN:List Str:=["wide", "scales", "wish_scales", "lines", "wish_lines", "bottom", "held_columns"]
noncomputable def obj (m n:Nat)(s:Nat->Int)(ws:Int)(c:Nat->Nat->Int)(wl:Nat->Int)(bt:Int)(h:D):D:=.ins "Corner" fN [.int m,iL n s,.lst [.int ws],.lst (rg n fun r=>iL (m+n+1) (c r)),.lst [iL (m+n+1) wl],.int bt,h]
noncomputable def fdD:Option Nat->D
 |none=>.non
 |some p=>.int p
theorem okr_fd {fd:Option Nat}:okRes (false,fdD fd)=true:=by cases fd <;> rfl
section
variable {m n:Nat}{s:Nat->Int}{ws bt:Int}{c:Nat->Nat->Int}{wl:Nat->Int}{h:D}
theorem f_wide:gFld "Corner" "wide" (obj m n s ws c wl bt h)=some (.int m):=by simp [gFld,obj,fN,valS]
theorem f_scales:gFld "Corner" "scales" (obj m n s ws c wl bt h)=some (iL n s):=by simp [gFld,obj,fN,valS]
theorem f_ws:gFld "Corner" "wish_scales" (obj m n s ws c wl bt h)=some (.lst [.int ws]):=by simp [gFld,obj,fN,valS]
theorem f_lines:gFld "Corner" "lines" (obj m n s ws c wl bt h)=some (.lst (rg n fun r=>iL (m+n+1) (c r))):=by simp [gFld,obj,fN,valS]
theorem f_wl:gFld "Corner" "wish_lines" (obj m n s ws c wl bt h)=some (.lst [iL (m+n+1) wl]):=by simp [gFld,obj,fN,valS]
theorem f_bt:gFld "Corner" "bottom" (obj m n s ws c wl bt h)=some (.int bt):=by simp [gFld,obj,fN,valS]
theorem f_held:gFld "Corner" "held_columns" (obj m n s ws c wl bt h)=some h:=by simp [gFld,obj,fN,valS]
theorem ob_m {x:Str}(hm:fN.contains x=false):isOb "Corner" x (obj m n s ws c wl bt h)=true:=by
 show (decide (Str.ofString "Corner" = Str.ofString "Corner") && !fN.contains x)=true; rw [hm]; simp
theorem ix_line {i:Nat}(hi:i<n):gIx (.lst (rg n fun r=>iL (m+n+1) (c r))) (.int i)=some (iL (m+n+1) (c i)):=rg_at hi
theorem ix_col {k:Nat}{f:Nat->Int}{i:Nat}(hi:i<k):gIx (iL k f) (.int i)=some (.int (f i)):=rg_at hi
theorem ix_end {k:Nat}{f:Nat->Int}:gIx (iL (k+1) f) (.int (-1))=some (.int (f k)):=rg_last
theorem cut0 {d:D}:cut [d] none (some 0)=[]:=by simp [cut,HT.sIx]
theorem help_it {a b:Sl}{z:D}(hm:m<=8)(hn:n<=8):fItR1 (fCons (fBin gAdd (fFld "Corner" "wide" (fVarB 0)) (fCall gLen (fCons (fFld "Corner" "lines" (fVarB 0)) fNil))) fNil) [.fz (obj m n s ws c wl bt h),.fz z,a,b]=.ok (rg (m+n) fun i=>.int i):=
 itR (j:=(m:Int)+(n:Int)) (by simp [fCons,fNil,fBin,fFld,fVarB,f_wide,f_lines,fCall,gLen,gAdd,rg_len]) (by omega) (by omega)
theorem help_body {i:Nat}{z:Sl}(hi:i<m+n):B_Corner_helping_column_3 [.fz (obj m n s ws c wl bt h),.fz (.int 0),.fz (.int i),z]=if wl i<0 then .ok (.rt false (.int i),[.fz (obj m n s ws c wl bt h),.fz (.int 0),.fz (.int i),.fz (.bl true)]) else .ok (.nx,[.fz (obj m n s ws c wl bt h),.fz (.int 0),.fz (.int i),.fz (.bl true)]):=by
 have e:gIx (.lst [iL (m+n+1) wl]) (.int 0)=some (iL (m+n+1) wl):=rfl
 have e2:gIx (iL (m+n+1) wl) (.int i)=some (.int (wl i)):=rg_at (by omega)
 by_cases q:wl i<0
 ·simp [B_Corner_helping_column_3,gSeq,gSet,fCall,fCons,fNil,Q_Corner_helping_column_2,fComp,fItL,fSl,fFld,fVarB,f_wl,fO0,fO1,gSl,cut0,compL,gAll,boolL,gIf,fAndT,fTv,fVar,fCmpT,fBin,e,e2,fC,gLt,q,gRet,Me.let,Sl.let]
 ·simp [B_Corner_helping_column_3,gSeq,gSet,fCall,fCons,fNil,Q_Corner_helping_column_2,fComp,fItL,fSl,fFld,fVarB,f_wl,fO0,fO1,gSl,cut0,compL,gAll,boolL,gIf,fAndT,fTv,fVar,fCmpT,fBin,e,e2,fC,gLt,q,gNx]
theorem help_run {r:D}{m':Me}{o:D}(e:L_Corner_helping_column_4 [.fz o,.fz (.int 0),.un,.un]=.ok (.rt false r,m')):F_Corner_helping_column [o,.int 0]=.ok (false,r):=by
 simp only [F_Corner_helping_column,runF,g_Corner_helping_column,c_Corner_helping_column,gSeq,List.length_cons,List.length_nil,if_true,List.map_cons,List.map_nil,List.cons_append,List.nil_append,List.replicate]
 rw [e]
theorem help_run0 {m':Me}{o:D}(e:L_Corner_helping_column_4 [.fz o,.fz (.int 0),.un,.un]=.ok (.nx,m')):F_Corner_helping_column [o,.int 0]=.ok (false,.non):=by
 simp only [F_Corner_helping_column,runF,g_Corner_helping_column,c_Corner_helping_column,gSeq,List.length_cons,List.length_nil,if_true,List.map_cons,List.map_nil,List.cons_append,List.nil_append,List.replicate]
 rw [e]
 rfl
noncomputable def Helps (k:Nat)(wl:Nat->Int):Option Nat->Prop
 |none=>∀j,j<k->0<=wl j
 |some j=>j<k/\wl j<0/\∀i,i<j->0<=wl i
theorem help_eq (hm:m<=8)(hn:n<=8):∃fd,F_Corner_helping_column [obj m n s ws c wl bt h,.int 0]=.ok (false,fdD fd)/\Helps (m+n) wl fd:=by
 have e0:∀{r:Res (Fl×Me)},loopL (hName 2) B_Corner_helping_column_3 (rg (m+n) fun i=>.int i) [.fz (obj m n s ws c wl bt h),.fz (.int 0),.un,.un]=r->L_Corner_helping_column_4 [.fz (obj m n s ws c wl bt h),.fz (.int 0),.un,.un]=r:=fun e=>by
  unfold L_Corner_helping_column_4 gFor
  rw [help_it hm hn]
  exact e
 rcases loop_find (n:=m+n) (f:=fun i=>.int i) (h:=hName 2) (k:=B_Corner_helping_column_3) (m:=[.fz (obj m n s ws c wl bt h),.fz (.int 0),.un,.un]) (fun i x=>(∃a b,x=[.fz (obj m n s ws c wl bt h),.fz (.int 0),a,b])/\∀j,j<i->0<=wl j) (fun i fr v=>fr=false/\v=.int i/\wl i<0/\∀j,j<i->0<=wl j) ⟨⟨_,_,rfl⟩,fun j hj=>absurd hj (Nat.not_lt_zero _)⟩ (fun i x hi ⟨⟨a,b,em⟩,hp⟩=>by
  subst em
  have eb:=help_body (s:=s) (ws:=ws) (c:=c) (wl:=wl) (bt:=bt) (h:=h) (z:=b) hi
  by_cases q:wl i<0
  ·rw [if_pos q] at eb
   exact ⟨_,_,rfl,.inr ⟨_,_,eb,rfl,rfl,q,hp⟩⟩
  ·rw [if_neg q] at eb
   refine ⟨_,_,rfl,.inl ⟨eb,⟨_,_,rfl⟩,fun j hj=>?_⟩⟩
   by_cases w:j=i
   ·rw [w]; omega
   ·exact hp j (by omega)) with ⟨m',e,_,hp⟩ | ⟨i,fr,v,m',hi,e,rfl,rfl,h1,h2⟩
 ·exact ⟨none,help_run0 (e0 e),hp⟩
 ·exact ⟨some i,help_run (e0 e),hi,h1,h2⟩
end
open PySem L2 Hd F
section
variable {m n:Nat}{s:Nat->Int}{ws bt:Int}{c:Nat->Nat->Int}{wl:Nat->Int}{h:D}
theorem flat_ints (f:Nat->Int):∀l:List Nat,flat2s (l.map fun i=>D.int (f i))=true
 |[]=>rfl
 |a::l=>by
  show (true && flat2s (l.map fun i=>D.int (f i)))=true
  rw [flat_ints f l]; rfl
theorem flat_iL {f:Nat->Int}:flatL (iL n f)=true:=flat_ints f _
theorem okr_iL {f:Nat->Int}:okRes (true,iL n f)=true:=by
 unfold okRes
 rw [flat_iL]
 simp
noncomputable def clr (k:Nat)(bt:Int)(l t:Nat->Int):Nat->Int:=fun j=>(l j * t k - l k * t j) / bt
theorem cleared_eq {o:D}{l t:Nat->Int}{k:Nat}(hm:m<=8)(hn:n<=8)(hk:k<m+n+1)(hb:gFld "Corner" "bottom" o=some (.int bt))(h0:0<bt)(hB:Bq bt)(h1:∀j,Bg (l j))(h2:∀j,Bg (t j)):F_Corner_cleared [o,iL (m+n+1) l,iL (m+n+1) t,.int k]=.ok (true,iL (m+n+1) (clr k bt l t)):=by
 have bn:bt≠0:=by omega
 have eq:Q_Corner_cleared_2 [.fz o,.fz (iL (m+n+1) l),.fz (iL (m+n+1) t),.fz (.int k),.fz (.int (t k)),.fz (.int (l k))]=.ok (iL (m+n+1) (clr k bt l t)):=by
  have ei:fItZ (fCons (fVarB 1) (fCons (fVarB 2) fNil)) [.fz o,.fz (iL (m+n+1) l),.fz (iL (m+n+1) t),.fz (.int k),.fz (.int (t k)),.fz (.int (l k))]=.ok (rg (m+n+1) fun i=>.tup [.int (l i),.int (t i)]):=by
   simp [fItZ,fCons,fNil,fVarB,iL,rg_zip]
  have hl:(rg (m+n+1) fun i=>D.tup [.int (l i),.int (t i)]).length<=sizeLine:=by rw [rg_len,szl]; omega
  have ec:=comp_rg (n:=m+n+1) (f:=fun i=>D.tup [.int (l i),.int (t i)]) (h:=hTup 2 (hCons (hName 0) (hCons (hName 1) hNil))) (ft:=fAll) (fe:=E_Corner_cleared_1) (m0:=[.un,.un,.fz o,.fz (.int (t k)),.fz (.int (l k))]) (fun i=>.int (clr k bt l t i)) fun i hi=>⟨_,rfl,rfl,by
   simp [E_Corner_cleared_1,fBin,fVarB,gMul,F.gSub,h1,h2,fFld,hb,gDiv,dvI,bn,hB,h0,clr]⟩
  unfold Q_Corner_cleared_2 fComp
  rw [ei]
  show (if (rg (m+n+1) fun i=>D.tup [.int (l i),.int (t i)]).length<=sizeLine then _ else _)=_
  rw [if_pos hl]
  show (match compL (hTup 2 (hCons (hName 0) (hCons (hName 1) hNil))) fAll E_Corner_cleared_1 [.un,.un,.fz o,.fz (.int (t k)),.fz (.int (l k))] (rg (m+n+1) fun i=>D.tup [.int (l i),.int (t i)]) with | .ok ys=>Res.ok (D.lst ys) | _=>.stuck)=_
  rw [ec]
  rfl
 simp [F_Corner_cleared,runF,g_Corner_cleared,c_Corner_cleared,gSeq,gSet,fBin,fVarB,ix_col hk,gRetN,Me.let,Sl.let,eq]
theorem mt1 {o r:D}{cn mn:Str}{Φ:List D->Res (Bool×D)}{f0:Me->Res D}{fs:Me->Res (List D)}{m:Me}{ds:List D}{b:Bool}(h0:f0 m=.ok o)(ho:isOb cn mn o=true)(hf:fs m=.ok ds)(hΦ:Φ (o::ds)=.ok (b,r))(hr:okRes (b,r)=true):fMt cn mn Φ f0 fs m=.ok r:=by
 unfold fMt
 rw [h0,Res.bind_ok,if_pos ho,hf,Res.bind_ok,hΦ,Res.bind_ok,if_pos hr]
noncomputable def tc (k:Nat)(bt:Int)(c:Nat->Nat->Int)(p:Nat):Nat->Nat->Int:=fun r=>if r=p then c p else clr k bt (c r) (c p)
theorem put_wl {w:List D}:putS fN [.int m,iL n s,.lst [.int ws],.lst (rg n fun r=>iL (m+n+1) (c r)),.lst w,.int bt,h] "wish_lines" (.lst [iL (m+n+1) wl])=(fN,[.int m,iL n s,.lst [.int ws],.lst (rg n fun r=>iL (m+n+1) (c r)),.lst [iL (m+n+1) wl],.int bt,h]):=by simp [putS,fN]
theorem put_lines {w d e:D}{k:Int}:putS fN [.int m,iL n s,.lst [.int ws],w,e,.int k,h] "lines" d=(fN,[.int m,iL n s,.lst [.int ws],d,e,.int k,h]):=by simp [putS,fN]
theorem put_bt {w e:D}{k:Int}{d:D}:putS fN [.int m,iL n s,.lst [.int ws],w,e,.int k,h] "bottom" d=(fN,[.int m,iL n s,.lst [.int ws],w,e,d,h]):=by simp [putS,fN]
theorem set_fld {i:Nat}{f:Str}{g:Me->Res D}{m:Me}{d:D}{ns:List Str}{ds:List D}(hm:m[i]? = some (.io (.ins "Corner" ns ds)))(hg:g m=.ok d)(hl:ns.length<999):gFldSet i "Corner" f g m=.ok (.nx,m.set i (.io (.ins "Corner" (putS ns ds f d).1 (putS ns ds f d).2))):=by
 unfold gFldSet ownI
 rw [hg,Res.bind_ok,hm]
 show (if Str.ofString "Corner" = Str.ofString "Corner"/\ns.length<999 then _ else _)=_
 rw [if_pos ⟨rfl,hl⟩]
 rfl
theorem set_ix {i ik iv k:Nat}{f:Str}{g:Me->Res D}{m:Me}{dd:D}{xs:List D}{ns:List Str}{ds:List D}(hm:m[i]? = some (.io (.ins "Corner" ns ds)))(hg:g m=.ok (.lst xs))(hk:m[ik]? = some (.fz (.int k)))(hv:m[iv]? = some (.fz dd))(hl:ns.length<999)(hx:k<xs.length):gFldIx i "Corner" f g ik iv m=.ok (.nx,m.set i (.io (.ins "Corner" (putS ns ds f (.lst (xs.set k dd))).1 (putS ns ds f (.lst (xs.set k dd))).2))):=by
 have ex:ixN xs.length (k:Int)=some k:=by unfold ixN; rw [if_pos (by omega),if_pos (by omega)]; simp
 simp [gFldIx,hg,hk,hv,ownI,hm,hl,ex,putI]
theorem seq_ok {g k:Me->Res (Fl×Me)}{m m':Me}(e:g m=.ok (.nx,m')):gSeq g k m=k m':=by unfold gSeq; rw [e]
theorem runM_nx {N k:Nat}{g:Me->Res (Fl×Me)}{ds:List D}{d d' e:D}{y:Addr×D}{m':Me}(hn:ds.length+1=k)(h:g (F.stM N k ds d y)=.ok (.nx,m'))(h1:ioAtP m' 0=some d')(h2:hdF m' (N - 1) y.1=some e):runM N k g ds d y=.ok (.non,d',e):=by
 unfold runM
 rw [if_pos hn,h]
 simp only [h1,h2,ofO_some,Res.bind_ok]
theorem runM_rt {N k:Nat}{g:Me->Res (Fl×Me)}{ds:List D}{d d' e r:D}{b:Bool}{y:Addr×D}{m':Me}(hn:ds.length+1=k)(h:g (F.stM N k ds d y)=.ok (.rt b r,m'))(h1:ioAtP m' 0=some d')(h2:hdF m' (N - 1) y.1=some e):runM N k g ds d y=.ok (r,d',e):=by
 unfold runM
 rw [if_pos hn,h]
 simp only [h1,h2,ofO_some,Res.bind_ok]
theorem turn_eq {p k:Nat}{y:Addr}{H:Nat->D}(hm:m<=8)(hn:n<=8)(hp:p<n)(hk:k<m+n+1)(h0:0<bt)(hb:Bq bt)(hB:∀r j,Bg (c r j))(hw:∀j,Bg (wl j)):F_Corner_turn_about [.int p,.int k] (obj m n s ws c wl bt (.adr y)) (y,.lst (rg n H)) =
  .ok (.non,obj m n s ws (tc k bt c p) (clr k bt wl (c p)) (c p k) (.adr y),.lst (rg n fun i=>if i=p then .int k else H i)):=by
 have e1:gSet 3 (fBin gIx (fFld "Corner" "lines" (fVarB 0)) (fVarB 1)) [.io (obj m n s ws c wl bt (.adr y)),.fz (.int p),.fz (.int k),.un,.hd false y (.lst (rg n H))]=.ok (.nx,[.io (obj m n s ws c wl bt (.adr y)),.fz (.int p),.fz (.int k),.fz (iL (m+n+1) (c p)),.hd false y (.lst (rg n H))]):=by
  simp [gSet,fBin,fFld,fVarB,f_lines,ix_line hp]
 have e2:Q_Corner_turn_about_2 [.io (obj m n s ws c wl bt (.adr y)),.fz (.int p),.fz (.int k),.fz (iL (m+n+1) (c p)),.hd false y (.lst (rg n H))]=.ok (.lst [iL (m+n+1) (clr k bt wl (c p))]):=by
  have z:fMt "Corner" "cleared" F_Corner_cleared (fVarB 3) (fCons (fVarB 0) (fCons (fVarB 1) (fCons (fVarB 2) fNil))) [.fz (iL (m+n+1) wl),.fz (iL (m+n+1) (c p)),.fz (.int k),.bw (obj m n s ws c wl bt (.adr y))]=_:=mt1 (o:=obj m n s ws c wl bt (.adr y)) rfl (ob_m (by decide)) rfl (cleared_eq hm hn hk f_bt h0 hb hw (hB p)) okr_iL
  simp [Q_Corner_turn_about_2,fComp,fItL,fFld,fVarB,f_wl,cMe,Sl.bor,compL,hName,fAll,E_Corner_turn_about_1,z]
 have e3:Q_Corner_turn_about_4 [.io (obj m n s ws c (clr k bt wl (c p)) bt (.adr y)),.fz (.int p),.fz (.int k),.fz (iL (m+n+1) (c p)),.hd false y (.lst (rg n H))]=.ok (.lst (rg n fun r=>iL (m+n+1) (clr k bt (c r) (c p)))):=by
  have ec:=comp_rg (n:=n) (f:=fun r=>iL (m+n+1) (c r)) (h:=hName 0) (ft:=fAll) (fe:=E_Corner_turn_about_3) (m0:=[.un,.fz (iL (m+n+1) (c p)),.fz (.int k),.bw (obj m n s ws c (clr k bt wl (c p)) bt (.adr y))]) (fun r=>iL (m+n+1) (clr k bt (c r) (c p))) fun r hr=>⟨_,rfl,rfl,mt1 (o:=obj m n s ws c (clr k bt wl (c p)) bt (.adr y)) rfl (ob_m (by decide)) rfl (cleared_eq hm hn hk f_bt h0 hb (hB r) (hB p)) okr_iL⟩
  have hl:n<=16777216:=by omega
  simp [Q_Corner_turn_about_4,fComp,fItL,fFld,fVarB,f_lines,cMe,Sl.bor,rg_len,hl,ec]
 have e4:gFldIx 0 "Corner" "lines" Q_Corner_turn_about_4 1 3 [.io (obj m n s ws c (clr k bt wl (c p)) bt (.adr y)),.fz (.int p),.fz (.int k),.fz (iL (m+n+1) (c p)),.hd false y (.lst (rg n H))]=.ok (.nx,[.io (obj m n s ws (tc k bt c p) (clr k bt wl (c p)) bt (.adr y)),.fz (.int p),.fz (.int k),.fz (iL (m+n+1) (c p)),.hd false y (.lst (rg n H))]):=by
  have z:=set_ix (i:=0) (ik:=1) (iv:=3) (f:="lines") (g:=Q_Corner_turn_about_4) (m:=[.io (obj m n s ws c (clr k bt wl (c p)) bt (.adr y)),.fz (.int p),.fz (.int k),.fz (iL (m+n+1) (c p)),.hd false y (.lst (rg n H))]) rfl e3 rfl rfl (show fN.length<999 by decide) (by rw [rg_len]; exact hp)
  rw [put_lines,rg_set] at z
  have er:(rg n fun i=>if i=p then iL (m+n+1) (c p) else iL (m+n+1) (clr k bt (c i) (c p)))=rg n fun r=>iL (m+n+1) (tc k bt c p r):=rg_ext fun i _=>by
   unfold tc
   by_cases w:i=p
   ·rw [if_pos w,if_pos w]
   ·rw [if_neg w,if_neg w]
  rw [er] at z
  exact z
 have e5:gAdrSetIx 4 (fFld "Corner" "held_columns" (fVarB 0)) (fVar 1) (fVar 2) [.io (obj m n s ws (tc k bt c p) (clr k bt wl (c p)) bt (.adr y)),.fz (.int p),.fz (.int k),.fz (iL (m+n+1) (c p)),.hd false y (.lst (rg n H))]=.ok (.nx,[.io (obj m n s ws (tc k bt c p) (clr k bt wl (c p)) bt (.adr y)),.fz (.int p),.fz (.int k),.fz (iL (m+n+1) (c p)),.hd false y (.lst (rg n fun i=>if i=p then .int k else H i))]):=by
  have ex:ixN n (p:Int)=some p:=by unfold ixN; rw [if_pos (by omega),if_pos (by omega)]; simp
  simp [gAdrSetIx,fFld,fVarB,f_held,fVar,hdAt,rg_len,ex,rg_set]
 have e6:=set_fld (i:=0) (f:="bottom") (g:=fBin gIx (fVarB 3) (fVarB 2)) (m:=[.io (obj m n s ws (tc k bt c p) (clr k bt wl (c p)) bt (.adr y)),.fz (.int p),.fz (.int k),.fz (iL (m+n+1) (c p)),.hd false y (.lst (rg n fun i=>if i=p then .int k else H i))]) (d:=.int (c p k)) rfl (by simp [fBin,fVarB,ix_col hk]) (show fN.length<999 by decide)
 rw [put_bt] at e6
 have e7:=set_fld (i:=0) (f:="wish_lines") (g:=Q_Corner_turn_about_2) (m:=[.io (obj m n s ws c wl bt (.adr y)),.fz (.int p),.fz (.int k),.fz (iL (m+n+1) (c p)),.hd false y (.lst (rg n H))]) rfl e2 (show fN.length<999 by decide)
 rw [put_wl] at e7
 refine runM_nx (m':=[.io (obj m n s ws (tc k bt c p) (clr k bt wl (c p)) (c p k) (.adr y)),.fz (.int p),.fz (.int k),.fz (iL (m+n+1) (c p)),.hd false y (.lst (rg n fun i=>if i=p then .int k else H i))]) rfl ?_ rfl ?_
 ·show gSeq _ _ [.io (obj m n s ws c wl bt (.adr y)),.fz (.int p),.fz (.int k),.un,.hd false y (.lst (rg n H))]=_
  rw [seq_ok e1,seq_ok e7]
  refine (seq_ok e4).trans ?_
  rw [seq_ok e5]
  exact e6
 ·simp [hdF]
end
end K35
namespace Sx
noncomputable def sm:Nat->(Nat->Int)->Int
 |0,_=>0
 |n+1,f=>sm n f+f n
theorem sm_congr {f g:Nat->Int}:∀{n:Nat},(∀i,i<n->f i=g i)->sm n f=sm n g
 |0,_=>rfl
 |n+1,h=>by
  show sm n f+f n=sm n g+g n
  rw [sm_congr fun i hi=>h i (by omega),h n (by omega)]
theorem sm_zero {f:Nat->Int}{n:Nat}(h:∀i,i<n->f i=0):sm n f=0:=by
 induction n with
 |zero=>rfl
 |succ n ih=>
  show sm n f+f n=0
  rw [ih fun i hi=>h i (by omega),h n (by omega)]; rfl
theorem sm_add (f g:Nat->Int):∀n:Nat,sm n (fun i=>f i+g i)=sm n f+sm n g
 |0=>rfl
 |n+1=>by
  show sm n (fun i=>f i+g i)+(f n+g n)=sm n f+f n+(sm n g+g n)
  rw [sm_add f g n]; omega
theorem sm_mul (a:Int)(f:Nat->Int):∀n:Nat,sm n (fun i=>a * f i)=a * sm n f
 |0=>by show (0:Int)=a * 0; rw [Int.mul_zero]
 |n+1=>by
  show sm n (fun i=>a * f i)+a * f n=a * (sm n f+f n)
  rw [sm_mul a f n,Int.mul_add]
theorem sm_lin (a b:Int)(f g:Nat->Int)(n:Nat):sm n (fun i=>a * f i+b * g i)=a * sm n f+b * sm n g:=by
 rw [sm_add,sm_mul,sm_mul]
theorem sm_swap (f:Nat->Nat->Int)(k:Nat):∀n:Nat,sm n (fun i=>sm k fun j=>f i j)=sm k fun j=>sm n fun i=>f i j
 |0=>(sm_zero fun _ _=>rfl).symm
 |n+1=>by
  show sm n (fun i=>sm k fun j=>f i j)+sm k (f n)=sm k fun j=>sm n (fun i=>f i j)+f n j
  rw [sm_swap f k n,sm_add]
theorem sm_one {f:Nat->Int}{p:Nat}:∀{n:Nat},p<n->(∀i,i<n->i≠p->f i=0)->sm n f=f p
 |0,h,_=>absurd h (Nat.not_lt_zero _)
 |n+1,h,h0=>by
  show sm n f+f n=f p
  by_cases q:p=n
  ·subst q
   rw [sm_zero fun i hi=>h0 i (by omega) (by omega)]; omega
  ·rw [sm_one (p:=p) (by omega) fun i hi hp=>h0 i (by omega) hp,h0 n (by omega) (Ne.symm q)]; omega
theorem sm_two {f:Nat->Int}{p q:Nat}:∀{n:Nat},p<n->q<n->p≠q->(∀i,i<n->i≠p->i≠q->f i=0)->sm n f=f p+f q
 |0,h,_,_,_=>absurd h (Nat.not_lt_zero _)
 |n+1,hp,hq,hne,h0=>by
  show sm n f+f n=f p+f q
  by_cases e:p=n
  ·subst e
   rw [sm_one (p:=q) (by omega) fun i hi h=>h0 i (by omega) (by omega) h]; omega
  ·by_cases e2:q=n
   ·subst e2
    rw [sm_one (p:=p) (by omega) fun i hi h=>h0 i (by omega) h (by omega)]
   ·rw [sm_two (by omega) (by omega) hne fun i hi h h'=>h0 i (by omega) h h',h0 n (by omega) (Ne.symm e) (Ne.symm e2)]; omega
theorem sm_pos {f:Nat->Int}:∀{n:Nat},0<sm n f->∃i,i<n/\0<f i
 |0,h=>absurd h (by show ¬(0:Int)<0; omega)
 |n+1,h=>by
  have h:0<sm n f+f n:=h
  by_cases q:0<f n
  ·exact ⟨n,by omega,q⟩
  ·obtain ⟨i,h1,h2⟩:=sm_pos (f:=f) (n:=n) (by omega)
   exact ⟨i,by omega,h2⟩
noncomputable def upd {α:Type}(f:Nat->α)(p:Nat)(v:α):Nat->α:=fun k=>if k=p then v else f k
theorem upd_at {α:Type}{f:Nat->α}{p:Nat}{v:α}:upd f p v p=v:=if_pos rfl
theorem upd_ne {α:Type}{f:Nat->α}{p k:Nat}{v:α}(h:k≠p):upd f p v k=f k:=if_neg h
theorem upd_self {α:Type}{f:Nat->α}{p:Nat}:upd f p (f p)=f:=by
 funext k; unfold upd; split
 ·rename_i h; rw [h]
 ·rfl
theorem upd_comm {α:Type}{f:Nat->α}{p q:Nat}{u v:α}(h:p≠q):upd (upd f p u) q v=upd (upd f q v) p u:=by
 funext k; unfold upd
 by_cases a:k=q
 ·subst a; rw [if_pos rfl,if_neg (Ne.symm h),if_pos rfl]
 ·rw [if_neg a]
  by_cases b:k=p
  ·rw [if_pos b,if_pos b]
  ·rw [if_neg b,if_neg b,if_neg a]
noncomputable def skp (k l:Nat):Nat:=if l<k then l else l+1
noncomputable def sg:Nat->Int
 |0=>1
 |k+1=>-sg k
noncomputable def mnr (M:Nat->Nat->Int)(k:Nat):Nat->Nat->Int:=fun l i=>M (skp k l) (i+1)
noncomputable def det:Nat->(Nat->Nat->Int)->Int
 |0,_=>1
 |n+1,M=>sm (n+1) fun k=>sg k * M k 0 * det n (mnr M k)
theorem skp_lt {k l n:Nat}(hl:l<n):skp k l<n+1:=by unfold skp; split <;> omega
theorem det_congr:∀{n:Nat} {M N:Nat->Nat->Int},(∀k,k<n->∀i,i<n->M k i=N k i)->det n M=det n N
 |0,_,_,_=>rfl
 |n+1,M,N,h=>sm_congr fun k hk=>by
  rw [h k hk 0 (by omega),det_congr (M:=mnr M k) (N:=mnr N k) fun l hl i hi=>h (skp k l) (skp_lt hl) (i+1) (by omega)]
theorem mnr_at (M:Nat->Nat->Int)(p:Nat)(v:Nat->Int):mnr (upd M p v) p=mnr M p:=by
 funext l i
 unfold mnr upd
 rw [if_neg (by unfold skp; split <;> omega)]
theorem mnr_ne {M:Nat->Nat->Int}{p k:Nat}{v:Nat->Int}(h:k≠p):mnr (upd M p v) k=upd (mnr M k) (if p<k then p else p - 1) fun i=>v (i+1):=by
 funext l i
 unfold mnr upd
 by_cases q:p<k
 ·rw [if_pos q]
  by_cases e:l=p
  ·subst e
   rw [if_pos (by unfold skp; rw [if_pos q]),if_pos rfl]
  ·rw [if_neg (by unfold skp; split <;> omega),if_neg e]
 ·rw [if_neg q]
  by_cases e:l=p - 1
  ·subst e
   rw [if_pos (by unfold skp; split <;> omega),if_pos rfl]
  ·rw [if_neg (by unfold skp; split <;> omega),if_neg e]
theorem det_lin (a b:Int)(u v:Nat->Int):∀{n:Nat} (M:Nat->Nat->Int) {p:Nat},p<n->det n (upd M p fun i=>a * u i+b * v i)=a * det n (upd M p u)+b * det n (upd M p v)
 |0,_,_,h=>absurd h (Nat.not_lt_zero _)
 |n+1,M,p,h=>by
  show sm (n+1) _=a * sm (n+1) _+b * sm (n+1) _
  rw [← sm_lin]
  refine sm_congr fun k hk=>?_
  by_cases e:k=p
  ·subst e
   rw [mnr_at,mnr_at,mnr_at,upd_at,upd_at,upd_at]
   grind
  ·rw [mnr_ne e,mnr_ne e,mnr_ne e,upd_ne e,upd_ne e,upd_ne e]
   have:=det_lin a b (fun i=>u (i+1)) (fun i=>v (i+1)) (n:=n) (mnr M k) (p:=if p<k then p else p - 1) (by split <;> omega)
   rw [this]
   grind
theorem det_adj:∀{n:Nat} {M:Nat->Nat->Int} {p:Nat},p+1<n->(∀i,i<n->M p i=M (p+1) i)->det n M=0
 |0,_,_,h,_=>absurd h (Nat.not_lt_zero _)
 |n+1,M,p,h,e=>by
  show sm (n+1) _=0
  rw [sm_two (p:=p) (q:=p+1) (by omega) h (by omega)]
  ·have:det n (mnr M p)=det n (mnr M (p+1)):=det_congr fun l hl i hi=>by
    unfold mnr
    by_cases q:l=p
    ·subst q
     rw [show skp l l=l+1 by unfold skp; split <;> omega,show skp (l+1) l=l by unfold skp; split <;> omega,e (i+1) (by omega)]
    ·rw [show skp p l=skp (p+1) l by unfold skp; split <;> split <;> omega]
   rw [this,e 0 (by omega)]
   show sg p * _ * _ + -sg p * _ * _=0
   grind
  ·intro k hk h1 h2
   have:det n (mnr M k)=0:=by
    by_cases q:k<p
    ·refine det_adj (p:=p - 1) (by omega) fun i hi=>?_
     unfold mnr
     rw [show skp k (p - 1)=p by unfold skp; split <;> omega,show skp k (p - 1+1)=p+1 by unfold skp; split <;> omega]
     exact e (i+1) (by omega)
    ·refine det_adj (p:=p) (by omega) fun i hi=>?_
     unfold mnr
     rw [show skp k p=p by unfold skp; split <;> omega,show skp k (p+1)=p+1 by unfold skp; split <;> omega]
     exact e (i+1) (by omega)
   rw [this,Int.mul_zero]
theorem det_swp {n:Nat}{M:Nat->Nat->Int}{p q:Nat}(hp:p<n)(hq:q<n)(hne:p≠q)(z:∀w:Nat->Int,det n (upd (upd M p w) q w)=0)(u v:Nat->Int):det n (upd (upd M p u) q v)=-det n (upd (upd M p v) q u):=by
 have h:=z fun i=>1 * u i+1 * v i
 rw [det_lin 1 1 u v (upd M p _) hq,upd_comm hne,upd_comm hne,det_lin 1 1 u v (upd M q u) hp,det_lin 1 1 u v (upd M q v) hp,← upd_comm hne,← upd_comm hne,← upd_comm hne,← upd_comm hne,z u,z v] at h
 omega
theorem det_alt:∀(d:Nat) {n:Nat} {M:Nat->Nat->Int} {p:Nat},p+d+1<n->(∀i,i<n->M p i=M (p+d+1) i)->det n M=0
 |0,n,M,p,h,e=>det_adj h e
 |d+1,n,M,p,h,e=>by
  have z:∀w:Nat->Int,det n (upd (upd M (p+d+1) w) (p+d+2) w)=0:=fun w=>det_adj (p:=p+d+1) (by omega) fun i hi=>by
   rw [upd_ne (by omega),upd_at,upd_at]
  have s:=det_swp (M:=M) (p:=p+d+1) (q:=p+d+2) (by omega) (by omega) (by omega) z (M (p+d+1)) (M (p+d+2))
  rw [upd_self,upd_self] at s
  rw [s,det_alt d (p:=p) (by omega)]
  ·rfl
  ·intro i hi
   rw [upd_ne (by omega),upd_ne (by omega),upd_ne (by omega),upd_at]
   exact e i hi
theorem det_two {n:Nat}{M:Nat->Nat->Int}{p q:Nat}(hp:p<n)(hq:q<n)(hne:p≠q)(e:∀i,i<n->M p i=M q i):det n M=0:=by
 by_cases h:p<q
 ·exact det_alt (q - p - 1) (p:=p) (by omega) (by rwa [show p+(q - p - 1)+1=q by omega])
 ·exact det_alt (p - q - 1) (p:=q) (by omega) (by rw [show q+(p - q - 1)+1=p by omega]; exact fun i hi=>(e i hi).symm)
theorem det_swap {n:Nat}{M:Nat->Nat->Int}{p q:Nat}(hp:p<n)(hq:q<n)(hne:p≠q)(u v:Nat->Int):det n (upd (upd M p u) q v)=-det n (upd (upd M p v) q u):=
 det_swp hp hq hne (fun w=>det_two hp hq hne fun i hi=>by rw [upd_ne hne,upd_at,upd_at]) u v
theorem det_id:∀n:Nat,det n (fun k i=>if k=i then 1 else 0)=1
 |0=>rfl
 |n+1=>by
  show sm (n+1) _=1
  rw [sm_one (p:=0) (by omega)]
  ·have:det n (mnr (fun k i=>if k=i then (1:Int) else 0) 0)=det n (fun k i=>if k=i then 1 else 0):=det_congr fun k _ i _=>by
    unfold mnr
    rw [show skp 0 k=k+1 by unfold skp; split <;> omega]
    show (if k+1=i+1 then (1:Int) else 0)=if k=i then 1 else 0
    by_cases q:k=i
    ·rw [if_pos (by omega),if_pos q]
    ·rw [if_neg (by omega),if_neg q]
   rw [this,det_id n]; rfl
  ·intro k hk h
   show sg k * (if k=0 then (1:Int) else 0) * _=0
   rw [if_neg h]; simp
theorem det_sum {n:Nat}(M:Nat->Nat->Int){p:Nat}(hp:p<n)(V:Nat->Nat->Int)(x:Nat->Int):∀k:Nat,det n (upd M p fun i=>sm k fun j=>x j * V j i)=sm k fun j=>x j * det n (upd M p (V j))
 |0=>by
  have:=det_lin 0 0 (fun _=>0) (fun _=>0) M hp
  rw [Int.zero_mul,Int.zero_mul] at this
  show det n (upd M p fun _=>0)=0
  simpa using this
 |k+1=>by
  have:=det_lin 1 (x k) (fun i=>sm k fun j=>x j * V j i) (V k) M hp
  rw [det_sum M hp V x k,Int.one_mul] at this
  show _=(sm k fun j=>x j * det n (upd M p (V j)))+x k * det n (upd M p (V k))
  rw [← this]
  congr 2
  funext i
  show (sm k fun j=>x j * V j i)+x k * V k i=1 * _+_
  rw [Int.one_mul]
theorem det_mul {n:Nat}(M:Nat->Nat->Int){p:Nat}(hp:p<n)(a:Int)(u:Nat->Int):det n (upd M p fun i=>a * u i)=a * det n (upd M p u):=by
 have:=det_lin a 0 u u M hp
 rw [Int.zero_mul,Int.add_zero] at this
 rw [← this]
 congr 2
 funext i
 rw [Int.zero_mul,Int.add_zero]
noncomputable def fct:Nat->Nat
 |0=>1
 |n+1=>(n+1) * fct n
theorem sg_abs:∀k,(sg k).natAbs=1
 |0=>rfl
 |k+1=>by show (-sg k).natAbs=1; rw [Int.natAbs_neg,sg_abs k]
theorem sm_abs {f:Nat->Int}{B:Nat}:∀{n:Nat},(∀i,i<n->(f i).natAbs<=B)->(sm n f).natAbs<=n * B
 |0,_=>by show (0:Int).natAbs<=_; simp
 |n+1,h=>by
  have h1:=sm_abs (f:=f) (B:=B) (n:=n) fun i hi=>h i (by omega)
  have h2:=h n (by omega)
  have h3:=Int.natAbs_add_le (sm n f) (f n)
  show (sm n f+f n).natAbs<=(n+1) * B
  rw [Nat.add_mul,Nat.one_mul]
  omega
theorem det_abs {X:Nat}:∀{n:Nat} {M:Nat->Nat->Int},(∀k,k<n->∀i,i<n->(M k i).natAbs<=X)->(det n M).natAbs<=fct n * X ^ n
 |0,_,_=>by show (1:Int).natAbs<=1 * X ^ 0; simp
 |n+1,M,h=>by
  show (sm (n+1) _).natAbs<=(n+1) * fct n * X ^ (n+1)
  rw [Nat.mul_assoc]
  refine sm_abs fun k hk=>?_
  have h1:=det_abs (X:=X) (M:=mnr M k) fun l hl i hi=>h (skp k l) (skp_lt hl) (i+1) (by omega)
  rw [Int.natAbs_mul,Int.natAbs_mul,sg_abs,Nat.one_mul,Nat.pow_succ]
  calc (M k 0).natAbs * (det n (mnr M k)).natAbs<=X * (fct n * X ^ n):=Nat.mul_le_mul (h k hk 0 (by omega)) h1
   _=fct n * (X ^ n * X):=by ac_rfl
structure Crn where
 c:Nat->Nat->Int
 b:Int
 h:Nat->Nat
structure First (m n:Nat)(T:Nat->Nat->Int):Prop where
 one:∀i,i<n->∀k,k<n->T i (m+k)=if i=k then 1 else 0
 nn:∀i,i<n->0<=T i (m+n)
noncomputable def bas (T:Nat->Nat->Int)(h:Nat->Nat):Nat->Nat->Int:=fun k i=>T i (h k)
structure CInv (m n:Nat)(T:Nat->Nat->Int)(D:Crn):Prop where
 pos:0<D.b
 hlt:∀r,r<n->D.h r<m+n
 dt:D.b=det n (bas T D.h)
 eq:∀i,i<n->∀j,sm n (fun r=>D.c r j * T i (D.h r))=D.b * T i j
 row:∀r,r<n->∀j,D.c r j=sm n fun i=>D.c r (m+i) * T i j
 unit:∀r,r<n->∀k,k<n->D.c r (D.h k)=if r=k then D.b else 0
 nn:∀r,r<n->0<=D.c r (m+n)
section
variable {m n:Nat}{T:Nat->Nat->Int}{D:Crn}
theorem CInv.inj (I:CInv m n T D){r k:Nat}(hr:r<n)(hk:k<n)(e:D.h r=D.h k):r=k:=by
 by_cases q:r=k
 ·exact q
 ·have h1:=I.unit r hr k hk
  rw [if_neg q,← e,I.unit r hr r hr,if_pos rfl] at h1
  have:=I.pos
  omega
noncomputable def col (T:Nat->Nat->Int)(j:Nat):Nat->Int:=fun i=>T i j
theorem mul_cancel {a x y:Int}(ha:0<a)(h:a * x=a * y):x=y:=Int.eq_of_mul_eq_mul_left (by omega) h
theorem CInv.cr (I:CInv m n T D){r j:Nat}(hr:r<n):D.c r j=det n (upd (bas T D.h) r (col T j)):=by
 have e1:det n (upd (bas T D.h) r fun i=>D.b * col T j i)=sm n fun k=>D.c k j * det n (upd (bas T D.h) r (bas T D.h k)):=by
  rw [← det_sum (bas T D.h) hr (bas T D.h) (fun k=>D.c k j) n]
  refine det_congr fun k hk i hi=>?_
  by_cases q:k=r
  ·subst q
   rw [upd_at,upd_at]
   exact (I.eq i hi j).symm
  ·rw [upd_ne q,upd_ne q]
 rw [det_mul (bas T D.h) hr D.b (col T j),sm_one (p:=r) hr] at e1
 ·rw [upd_self,← I.dt,Int.mul_comm (D.c r j)] at e1
  exact (mul_cancel I.pos e1).symm
 ·intro k hk hne
  rw [det_two hr hk (Ne.symm hne) fun i hi=>by rw [upd_at,upd_ne hne],Int.mul_zero]
noncomputable def nxc (T:Nat->Nat->Int)(h:Nat->Nat)(n p q r j:Nat):Int:=det n (upd (upd (bas T h) p (col T q)) r (col T j))
theorem CInv.nx (I:CInv m n T D){p q r j:Nat}(hp:p<n)(hr:r<n)(hne:r≠p):D.b * nxc T D.h n p q r j=D.c r j * D.c p q - D.c r q * D.c p j:=by
 have e1:det n (upd (upd (bas T D.h) p (col T q)) r fun i=>D.b * col T j i)=sm n fun k=>D.c k j * det n (upd (upd (bas T D.h) p (col T q)) r (bas T D.h k)):=by
  rw [← det_sum (upd (bas T D.h) p (col T q)) hr (bas T D.h) (fun k=>D.c k j) n]
  refine det_congr fun k hk i hi=>?_
  by_cases z:k=r
  ·subst z
   rw [upd_at,upd_at]
   exact (I.eq i hi j).symm
  ·rw [upd_ne z,upd_ne z]
 rw [det_mul _ hr D.b (col T j),sm_two (p:=r) (q:=p) hr hp hne] at e1
 ·have a1:det n (upd (upd (bas T D.h) p (col T q)) r (bas T D.h r))=D.c p q:=by
   rw [I.cr hp,upd_comm (Ne.symm hne),upd_self]
  have a2:det n (upd (upd (bas T D.h) p (col T q)) r (bas T D.h p))=-D.c r q:=by
   rw [det_swap hp hr (Ne.symm hne),upd_self,I.cr hr]
  rw [a1,a2] at e1
  show D.b * det n _=_
  rw [e1]
  grind
 ·intro k hk h1 h2
  rw [det_two hr hk (Ne.symm h1) fun i hi=>by rw [upd_at,upd_ne h1,upd_ne h2],Int.mul_zero]
noncomputable def turn (D:Crn)(p q:Nat):Crn:=⟨fun r j=>if r=p then D.c p j else (D.c r j * D.c p q - D.c r q * D.c p j) / D.b,D.c p q,upd D.h p q⟩
theorem turn_at {p q j:Nat}:(turn D p q).c p j=D.c p j:=if_pos rfl
theorem CInv.turn_ne (I:CInv m n T D){p q r j:Nat}(hp:p<n)(hr:r<n)(hne:r≠p):D.b * (turn D p q).c r j=D.c r j * D.c p q - D.c r q * D.c p j:=by
 have e:=I.nx (q:=q) (j:=j) hp hr hne
 show D.b * (if r=p then _ else _)=_
 rw [if_neg hne,← e,Int.mul_ediv_cancel_left _ (by have:=I.pos; omega)]
theorem bas_upd {h:Nat->Nat}{p q:Nat}:bas T (upd h p q)=upd (bas T h) p (col T q):=by
 funext k i
 unfold bas upd col
 split <;> rfl
theorem CInv.turn (I:CInv m n T D){p q:Nat}(hp:p<n)(hq:q<m+n)(hpos:0<D.c p q)(best:∀r,r<n->0<D.c r q->D.c p (m+n) * D.c r q<=D.c r (m+n) * D.c p q):CInv m n T (turn D p q) where
 pos:=hpos
 hlt:=fun r hr=>by
  show upd D.h p q r<m+n
  unfold upd
  split
  ·exact hq
  ·exact I.hlt r hr
 dt:=by
  show D.c p q=det n (bas T (upd D.h p q))
  rw [bas_upd,I.cr hp]
 eq:=fun i hi j=>by
  show sm n (fun r=>(Sx.turn D p q).c r j * T i (upd D.h p q r))=D.c p q * T i j
  refine mul_cancel I.pos ?_
  rw [← sm_mul]
  have e1:sm n (fun r=>D.b * ((Sx.turn D p q).c r j * T i (upd D.h p q r)))=sm n (fun r=>D.c p q * (D.c r j * T i (D.h r))+(-D.c p j) * (D.c r q * T i (D.h r)))+D.c p j * (D.b * T i q):=by
   have e2:∀r,r<n->D.b * ((Sx.turn D p q).c r j * T i (upd D.h p q r))=(D.c p q * (D.c r j * T i (D.h r))+(-D.c p j) * (D.c r q * T i (D.h r)))+(if r=p then D.c p j * (D.b * T i q) else 0):=fun r hr=>by
    by_cases z:r=p
    ·subst z
     rw [turn_at,upd_at,if_pos rfl]
     grind
    ·rw [upd_ne z,if_neg z,Int.add_zero,← Int.mul_assoc,I.turn_ne hp hr z]
     grind
   rw [sm_congr e2,sm_add]
   congr 1
   rw [sm_one (p:=p) hp fun r _ z=>if_neg z,if_pos rfl]
  rw [e1,sm_lin,I.eq i hi j,I.eq i hi q]
  grind
 row:=fun r hr j=>by
  by_cases z:r=p
  ·subst z
   rw [turn_at,I.row r hr j]
   exact sm_congr fun i _=>by rw [turn_at]
  ·refine mul_cancel I.pos ?_
   rw [I.turn_ne hp hr z,← sm_mul,I.row r hr j,I.row p hp j]
   have:∀i,i<n->D.b * ((Sx.turn D p q).c r (m+i) * T i j)=D.c p q * (D.c r (m+i) * T i j)+(-D.c r q) * (D.c p (m+i) * T i j):=fun i _=>by
    rw [← Int.mul_assoc,I.turn_ne hp hr z]
    grind
   rw [sm_congr this,sm_lin]
   grind
 unit:=fun r hr k hk=>by
  show (Sx.turn D p q).c r (upd D.h p q k)=if r=k then D.c p q else 0
  by_cases zk:k=p
  ·subst zk
   rw [upd_at]
   by_cases z:r=k
   ·subst z; rw [turn_at,if_pos rfl]
   ·rw [if_neg z]
    refine mul_cancel I.pos ?_
    rw [I.turn_ne hp hr z]
    grind
  ·rw [upd_ne zk]
   by_cases z:r=p
   ·subst z
    rw [turn_at,I.unit r hr k hk,if_neg (Ne.symm zk),if_neg (Ne.symm zk)]
   ·refine mul_cancel I.pos ?_
    rw [I.turn_ne hp hr z,I.unit r hr k hk,I.unit p hp k hk,if_neg (Ne.symm zk)]
    by_cases w:r=k
    ·rw [if_pos w,if_pos w]; grind
    ·rw [if_neg w,if_neg w]; grind
 nn:=fun r hr=>by
  by_cases z:r=p
  ·subst z; rw [turn_at]; exact I.nn r hr
  ·have e:=I.turn_ne (q:=q) (j:=m+n) hp hr z
   have h0:0<=D.c r (m+n) * D.c p q - D.c r q * D.c p (m+n):=by
    by_cases w:0<D.c r q
    ·have:=best r hr w
     rw [Int.mul_comm (D.c r q)]
     omega
    ·have a1:=Int.mul_nonneg (I.nn r hr) (Int.le_of_lt hpos)
     have a2:=Int.mul_nonneg (show 0<=-D.c r q by omega) (I.nn p hp)
     rw [Int.neg_mul] at a2
     omega
   rw [← e] at h0
   exact Int.nonneg_of_mul_nonneg_right h0 I.pos
theorem first_inv (F:First m n T):CInv m n T ⟨T,1,fun r=>m+r⟩ where
 pos:=by show (0:Int)<1; decide
 hlt:=fun r hr=>by show m+r<m+n; omega
 dt:=by
  show 1=det n fun k i=>T i (m+k)
  rw [← det_id n]
  refine det_congr fun k hk i hi=>?_
  rw [F.one i hi k hk]
  by_cases q:k=i
  ·rw [if_pos q,if_pos q.symm]
  ·rw [if_neg q,if_neg (Ne.symm q)]
 eq:=fun i hi j=>by
  show sm n (fun r=>T r j * T i (m+r))=1 * T i j
  rw [sm_one (p:=i) hi,F.one i hi i hi,if_pos rfl]
  ·omega
  ·intro r hr z
   rw [F.one i hi r hr,if_neg (Ne.symm z),Int.mul_zero]
 row:=fun r hr j=>by
  show T r j=sm n fun i=>T r (m+i) * T i j
  rw [sm_one (p:=r) hr,F.one r hr r hr,if_pos rfl]
  ·omega
  ·intro i hi z
   rw [F.one r hr i hi,if_neg (Ne.symm z),Int.zero_mul]
 unit:=fun r hr k hk=>F.one r hr k hk
 nn:=F.nn
noncomputable def wv (n:Nat)(D:Crn)(W:Nat->Int)(j:Nat):Int:=D.b * W j - sm n fun r=>D.c r j * W (D.h r)
theorem wv_turn (I:CInv m n T D){p q j:Nat}(W:Nat->Int)(hp:p<n):D.b * wv n (turn D p q) W j=wv n D W j * D.c p q - wv n D W q * D.c p j:=by
 unfold wv
 have e1:D.b * sm n (fun r=>(Sx.turn D p q).c r j * W ((Sx.turn D p q).h r))=sm n (fun r=>D.c p q * (D.c r j * W (D.h r))+(-D.c p j) * (D.c r q * W (D.h r)))+D.c p j * (D.b * W q):=by
  rw [← sm_mul]
  have e2:∀r,r<n->D.b * ((Sx.turn D p q).c r j * W ((Sx.turn D p q).h r))=(D.c p q * (D.c r j * W (D.h r))+(-D.c p j) * (D.c r q * W (D.h r)))+(if r=p then D.c p j * (D.b * W q) else 0):=fun r hr=>by
   show D.b * ((Sx.turn D p q).c r j * W (upd D.h p q r))=_
   by_cases z:r=p
   ·subst z
    rw [turn_at,upd_at,if_pos rfl]
    grind
   ·rw [upd_ne z,if_neg z,Int.add_zero,← Int.mul_assoc,I.turn_ne hp hr z]
    grind
  rw [sm_congr e2,sm_add]
  congr 1
  rw [sm_one (p:=p) hp fun r _ z=>if_neg z,if_pos rfl]
 rw [Int.mul_sub,e1,sm_lin]
 show D.b * (D.c p q * W j) - _=_
 grind
theorem wv_held (I:CInv m n T D)(W:Nat->Int){k:Nat}(hk:k<n):wv n D W (D.h k)=0:=by
 unfold wv
 rw [sm_one (p:=k) hk,I.unit k hk k hk,if_pos rfl]
 ·omega
 ·intro r hr z
  rw [I.unit r hr k hk,if_neg z,Int.zero_mul]
theorem wv_row (I:CInv m n T D){W:Nat->Int}(hW:∀j,m<=j->W j=0)(j:Nat):wv n D W j=D.b * W j+sm n fun i=>wv n D W (m+i) * T i j:=by
 have e1:∀i,i<n->wv n D W (m+i) * T i j=sm n fun r=>(-W (D.h r)) * (D.c r (m+i) * T i j):=fun i _=>by
  unfold wv
  rw [hW (m+i) (by omega),Int.mul_zero,Int.zero_sub,Int.neg_mul,Int.mul_comm,← sm_mul,← Int.neg_one_mul,← sm_mul]
  exact sm_congr fun r _=>by grind
 have e2:sm n (fun i=>wv n D W (m+i) * T i j)=sm n fun r=>(-W (D.h r)) * D.c r j:=by
  rw [sm_congr e1,sm_swap]
  exact sm_congr fun r hr=>by rw [sm_mul,← I.row r hr j]
 rw [e2]
 unfold wv
 rw [Int.sub_eq_add_neg,← Int.neg_one_mul,← sm_mul]
 congr 1
 exact sm_congr fun r _=>by grind
theorem wv_worth (I:CInv m n T D){W:Nat->Int}(hW:∀j,m<=j->W j=0):sm n (fun r=>D.c r (m+n) * W (D.h r))=-wv n D W (m+n):=by
 unfold wv
 rw [hW (m+n) (by omega)]
 omega
end
section
variable {m n:Nat}{T:Nat->Nat->Int}{W:Nat->Int}{A:Nat->Bool}
noncomputable def Help (m n:Nat)(W:Nat->Int)(A:Nat->Bool)(D:Crn)(q:Nat):Prop:=q<m+n/\A q=true/\wv n D W q<0/\∀j,j<q->A j=true->0<=wv n D W j
noncomputable def Ends (m n:Nat)(D:Crn)(q p:Nat):Prop:=p<n/\0<D.c p q/\∀r,r<n->0<D.c r q->r≠p->D.c p (m+n) * D.c r q<D.c r (m+n) * D.c p q\/(D.c p (m+n) * D.c r q=D.c r (m+n) * D.c p q/\D.h p<D.h r)
theorem Ends.best {D:Crn}{q p:Nat}(E:Ends m n D q p):∀r,r<n->0<D.c r q->D.c p (m+n) * D.c r q<=D.c r (m+n) * D.c p q:=fun r hr h=>by
 by_cases z:r=p
 ·subst z; exact Int.le_refl _
 ·rcases E.2.2 r hr h z with h | h <;> omega
noncomputable def Hd (n:Nat)(D:Crn)(v:Nat):Prop:=∃r,r<n/\D.h r=v
noncomputable def Nz (m n:Nat)(D:Crn)(v:Nat):Prop:=∃r,r<n/\D.h r=v/\D.c r (m+n)≠0
structure Ok (m n:Nat)(T:Nat->Nat->Int)(A:Nat->Bool)(D:Crn):Prop where
 I:CInv m n T D
 a:∀r,r<n->A (D.h r)=true
theorem Ok.turn {D:Crn}{p q:Nat}(O:Ok m n T A D)(H:Help m n W A D q)(E:Ends m n D q p):Ok m n T A (turn D p q):=by
 refine ⟨O.I.turn E.1 H.1 E.2.1 E.best,fun r hr=>?_⟩
 show A (upd D.h p q r)=true
 unfold upd
 split
 ·exact H.2.1
 ·exact O.a r hr
theorem hd_turn {D:Crn}{p q v:Nat}(hp:p<n)(h1:q≠v)(h2:D.h p≠v):Hd n (turn D p q) v↔Hd n D v:=by
 constructor
 ·intro ⟨r,hr,e⟩
  have e:upd D.h p q r=v:=e
  by_cases z:r=p
  ·subst z; rw [upd_at] at e; exact absurd e h1
  ·rw [upd_ne z] at e; exact ⟨r,hr,e⟩
 ·intro ⟨r,hr,e⟩
  have z:r≠p:=fun z=>by subst z; exact h2 e
  exact ⟨r,hr,by show upd D.h p q r=v; rw [upd_ne z]; exact e⟩
theorem nz_turn {D:Crn}(I:CInv m n T D){p q v:Nat}(hp:p<n)(hq:0<D.c p q)(h0:D.c p (m+n)=0):Nz m n (turn D p q) v↔Nz m n D v:=by
 have key:∀r,r<n->r≠p->((turn D p q).c r (m+n)=0↔D.c r (m+n)=0):=fun r hr z=>by
  have e:=I.turn_ne (q:=q) (j:=m+n) hp hr z
  rw [h0,Int.mul_zero,Int.sub_zero] at e
  have:=I.pos
  constructor
  ·intro w
   rw [w,Int.mul_zero] at e
   rcases Int.mul_eq_zero.mp e.symm with x | x
   ·exact x
   ·omega
  ·intro w
   rw [w,Int.zero_mul] at e
   rcases Int.mul_eq_zero.mp e with x | x
   ·omega
   ·exact x
 constructor
 ·intro ⟨r,hr,e,hz⟩
  by_cases z:r=p
  ·subst z; rw [turn_at] at hz; exact absurd h0 hz
  ·have e:upd D.h p q r=v:=e
   rw [upd_ne z] at e
   exact ⟨r,hr,e,fun w=>hz ((key r hr z).mpr w)⟩
 ·intro ⟨r,hr,e,hz⟩
  have z:r≠p:=fun z=>by subst z; exact hz h0
  exact ⟨r,hr,by show upd D.h p q r=v; rw [upd_ne z]; exact e,fun w=>hz ((key r hr z).mp w)⟩
structure Run (m n:Nat)(T:Nat->Nat->Int)(W:Nat->Int)(A:Nat->Bool)(L:Nat)(s:Nat->Crn)(p q:Nat->Nat):Prop where
 ok:∀i,i<=L->Ok m n T A (s i)
 help:∀i,i<L->Help m n W A (s i) (q i)
 ends:∀i,i<L->Ends m n (s i) (q i) (p i)
 next:∀i,i<L->s (i+1)=turn (s i) (p i) (q i)
 deg:∀i,i<L->(s i).c (p i) (m+n)=0
variable {L:Nat}{s:Nat->Crn}{p q:Nat->Nat}
theorem Run.nz (R:Run m n T W A L s p q)(v:Nat):∀i,i<=L->(Nz m n (s i) v↔Nz m n (s 0) v)
 |0,_=>Iff.rfl
 |i+1,h=>by
  rw [R.next i (by omega),nz_turn (R.ok i (by omega)).I (R.ends i (by omega)).1 (R.ends i (by omega)).2.1 (R.deg i (by omega))]
  exact R.nz v i (by omega)
theorem Run.chg (R:Run m n T W A L s p q){v a:Nat}:∀d,a+d<=L->(∀i,a<=i->i<a+d->q i≠v/\(s i).h (p i)≠v)->(Hd n (s (a+d)) v↔Hd n (s a) v)
 |0,_,_=>Iff.rfl
 |d+1,h,k=>by
  have hk:=k (a+d) (by omega) (by omega)
  show Hd n (s (a+d+1)) v↔_
  rw [R.next (a+d) (by omega),hd_turn (R.ends (a+d) (by omega)).1 hk.1 hk.2]
  exact R.chg d (by omega) fun i h1 h2=>k i h1 (by omega)
theorem Run.chg2 (R:Run m n T W A L s p q){v a b i j:Nat}(hb:b<=L)(k:∀i,a<=i->i<b->q i≠v/\(s i).h (p i)≠v)(h1:a<=i)(h2:i<=b)(h3:a<=j)(h4:j<=b):Hd n (s i) v↔Hd n (s j) v:=by
 have e1:=R.chg (v:=v) (a:=a) (i - a) (by omega) fun x hx hy=>k x hx (by omega)
 have e2:=R.chg (v:=v) (a:=a) (j - a) (by omega) fun x hx hy=>k x hx (by omega)
 rw [show a+(i - a)=i by omega] at e1
 rw [show a+(j - a)=j by omega] at e2
 exact e1.trans e2.symm
theorem cross {D E:Crn}(I:CInv m n T D)(J:CInv m n T E)(hW:∀j,m<=j->W j=0)(x:Nat):D.b * wv n E W x - sm n (fun r=>D.c r x * wv n E W (D.h r))=E.b * wv n D W x:=by
 have e1:∀r,r<n->D.c r x * wv n E W (D.h r)=E.b * (D.c r x * W (D.h r))+1 * sm n fun i=>wv n E W (m+i) * (D.c r x * T i (D.h r)):=fun r _=>by
  rw [wv_row J hW (D.h r),Int.mul_add,← sm_mul,Int.one_mul]
  congr 1
  ·grind
  ·exact sm_congr fun i _=>by grind
 rw [sm_congr e1,sm_lin,sm_swap]
 have e2:sm n (fun i=>sm n fun r=>wv n E W (m+i) * (D.c r x * T i (D.h r)))=D.b * sm n fun i=>wv n E W (m+i) * T i x:=by
  rw [← sm_mul]
  exact sm_congr fun i hi=>by
   rw [sm_mul,I.eq i hi x]
   grind
 rw [e2,wv_row J hW x]
 unfold wv
 grind
theorem Run.bland (R:Run m n T W A L s p q)(hW:∀j,m<=j->W j=0){a b t i j:Nat}(hb:b<=L)(k:∀i,a<=i->i<b->q i<=t/\(s i).h (p i)<=t)(h1:a<=i)(h2:i<b)(h3:a<=j)(h4:j<b)(hl:(s i).h (p i)=t)(he:q j=t):False:=by
 have Oi:=R.ok i (by omega)
 have Oj:=R.ok j (by omega)
 obtain ⟨a1,a2,a3,a4⟩:=R.help i (by omega)
 obtain ⟨b1,b2,b3⟩:=R.ends i (by omega)
 obtain ⟨c1,c2,c3,c4⟩:=R.help j (by omega)
 rw [he] at c1 c2 c3 c4
 have E:=cross (W:=W) Oi.I Oj.I hW (q i)
 have hs:q i<t:=by
  have h:=(k i h1 h2).1
  have:q i≠t:=fun z=>by
   have:=wv_held Oi.I W b1
   rw [hl,← z] at this
   omega
  omega
 have hs0:=c4 (q i) hs a2
 have e1:=Int.mul_nonneg (Int.le_of_lt Oi.I.pos) hs0
 have e2:(s j).b * wv n (s i) W (q i)<0:=Int.mul_neg_of_pos_of_neg Oj.I.pos a3
 obtain ⟨r,hr,hpos⟩:=sm_pos (f:=fun r=>(s i).c r (q i) * wv n (s j) W ((s i).h r)) (n:=n) (by omega)
 have hrp:r≠p i:=fun z=>by
  subst z
  rw [hl] at hpos
  have:=Int.mul_neg_of_pos_of_neg b2 c3
  omega
 have hv:(s i).h r≠t:=fun z=>hrp (Oi.I.inj hr b1 (by rw [z,hl]))
 have nh:¬Hd n (s j) ((s i).h r):=fun ⟨x,hx,e⟩=>by
  have:=wv_held Oj.I W hx
  rw [e] at this
  rw [this,Int.mul_zero] at hpos
  omega
 have hlt:(s i).h r<t:=by
  by_cases z:(s i).h r<=t
  ·omega
  ·exact absurd ((R.chg2 hb (fun x hx hy=>by have:=k x hx hy; omega) h1 (by omega) h3 (by omega)).mp ⟨r,hr,rfl⟩) nh
 have hw0:=c4 _ hlt (Oi.a r hr)
 have hc:0<(s i).c r (q i):=by
  by_cases z:0<(s i).c r (q i)
  ·exact z
  ·have:=Int.mul_nonneg (show 0<=-(s i).c r (q i) by omega) hw0
   rw [Int.neg_mul] at this
   omega
 have hz:(s i).c r (m+n)=0:=by
  by_cases z:(s i).c r (m+n)=0
  ·exact z
  ·have:Nz m n (s j) ((s i).h r):=(R.nz _ j (by omega)).mpr ((R.nz _ i (by omega)).mp ⟨r,hr,rfl,z⟩)
   obtain ⟨x,hx,e,_⟩:=this
   exact absurd ⟨x,hx,e⟩ nh
 have hd:=R.deg i (by omega)
 rcases b3 r hr hc hrp with h | ⟨_,h⟩
 ·rw [hd,hz,Int.zero_mul,Int.zero_mul] at h; omega
 ·rw [hl] at h; omega
theorem Run.len (R:Run m n T W A L s p q)(hW:∀j,m<=j->W j=0):∀k a b,a<=b->b<=L->(∀i,a<=i->i<b->q i<k/\(s i).h (p i)<k)->b - a+1<=2 ^ k
 |0,a,b,hab,hb,h=>by
  by_cases z:a=b
  ·subst z; simp
  ·have:=h a (by omega) (by omega); omega
 |k+1,a,b,hab,hb,h=>by
  have hp:2 ^ (k+1)=2 ^ k+2 ^ k:=by rw [Nat.pow_succ]; omega
  by_cases ex:∃i,a<=i/\i<b/\(q i=k\/(s i).h (p i)=k)
  ·obtain ⟨i,i1,i2,i3⟩:=ex
   have bl:∀x y,a<=x->x<b->a<=y->y<b->(s x).h (p x)=k->q y=k->False:=fun x y x1 x2 y1 y2 e1 e2=>R.bland hW hb (fun z z1 z2=>by have:=h z z1 z2; omega) x1 x2 y1 y2 e1 e2
   have inn:∀x y,a<=x->x<y->y<b->q x=k->q y=k->False:=fun x y x1 x2 y1 e1 e2=>by
    have hh:Hd n (s (x+1)) k:=by
     rw [R.next x (by omega)]
     exact ⟨p x,(R.ends x (by omega)).1,by show upd (s x).h (p x) (q x) (p x)=k; rw [upd_at,e1]⟩
    have hn:¬Hd n (s y) k:=fun ⟨r,hr,e⟩=>by
     have h1:=(R.help y (by omega)).2.2.1
     have h2:=wv_held (R.ok y (by omega)).I W hr
     rw [e,← e2] at h2
     omega
    by_cases lv:∃z,x+1<=z/\z<y/\(s z).h (p z)=k
    ·obtain ⟨z,z1,z2,z3⟩:=lv
     exact bl z x (by omega) (by omega) x1 (by omega) z3 e1
    ·have go:∀d,x+1+d<=y->Hd n (s (x+1+d)) k:=fun d=>by
      induction d with
      |zero=>exact fun _=>hh
      |succ d ih=>
       intro hd
       obtain ⟨r,hr,e⟩:=ih (by omega)
       show Hd n (s (x+1+d+1)) k
       rw [R.next (x+1+d) (by omega)]
       have z:r≠p (x+1+d):=fun z=>lv ⟨x+1+d,by omega,by omega,by rw [← z]; exact e⟩
       exact ⟨r,hr,by show upd (s (x+1+d)).h _ _ r=k; rw [upd_ne z]; exact e⟩
     have:=go (y - (x+1)) (by omega)
     rw [show x+1+(y - (x+1))=y by omega] at this
     exact hn this
   have out:∀x y,a<=x->x<y->y<b->(s x).h (p x)=k->(s y).h (p y)=k->False:=fun x y x1 x2 y1 e1 e2=>by
    have hn:¬Hd n (s (x+1)) k:=by
     rw [R.next x (by omega)]
     intro ⟨r,hr,e⟩
     have e:upd (s x).h (p x) (q x) r=k:=e
     by_cases z:r=p x
     ·subst z
      rw [upd_at] at e
      exact bl x x x1 (by omega) x1 (by omega) e1 e
     ·rw [upd_ne z] at e
      exact z ((R.ok x (by omega)).I.inj hr (R.ends x (by omega)).1 (by rw [e,e1]))
    have hh:Hd n (s y) k:=⟨p y,(R.ends y (by omega)).1,e2⟩
    have go:∀d,x+1+d<=y->¬Hd n (s (x+1+d)) k:=fun d=>by
     induction d with
     |zero=>exact fun _=>hn
     |succ d ih=>
      intro hd ⟨r,hr,e⟩
      refine ih (by omega) ?_
      have e:(s (x+1+d+1)).h r=k:=e
      rw [R.next (x+1+d) (by omega)] at e
      have e:upd (s (x+1+d)).h (p (x+1+d)) (q (x+1+d)) r=k:=e
      by_cases z:r=p (x+1+d)
      ·subst z
       rw [upd_at] at e
       exact (bl x (x+1+d) x1 (by omega) (by omega) (by omega) e1 e).elim
      ·rw [upd_ne z] at e
       exact ⟨r,hr,e⟩
    have:=go (y - (x+1)) (by omega)
    rw [show x+1+(y - (x+1))=y by omega] at this
    exact this hh
   have only:∀x,a<=x->x<b->x≠i->q x<k/\(s x).h (p x)<k:=fun x x1 x2 x3=>by
    have hx:=h x x1 x2
    have n1:q x≠k:=fun e=>by
     rcases i3 with e2 | e2
     ·rcases Nat.lt_or_gt_of_ne x3 with z | z
      ·exact inn x i x1 z i2 e e2
      ·exact inn i x i1 z x2 e2 e
     ·exact bl i x i1 i2 x1 x2 e2 e
    have n2:(s x).h (p x)≠k:=fun e=>by
     rcases i3 with e2 | e2
     ·exact bl x i x1 x2 i1 i2 e e2
     ·rcases Nat.lt_or_gt_of_ne x3 with z | z
      ·exact out x i x1 z i2 e e2
      ·exact out i x i1 z x2 e2 e
    omega
   have l1:=R.len hW k a i i1 (by omega) fun x x1 x2=>only x x1 (by omega) (by omega)
   have l2:=R.len hW k (i+1) b (by omega) hb fun x x1 x2=>only x (by omega) x2 (by omega)
   omega
  ·have l1:=R.len hW k a b hab hb fun x x1 x2=>by
    have hx:=h x x1 x2
    have n1:q x≠k:=fun e=>ex ⟨x,x1,x2,.inl e⟩
    have n2:(s x).h (p x)≠k:=fun e=>ex ⟨x,x1,x2,.inr e⟩
    omega
   omega
theorem Run.short (R:Run m n T W A L s p q)(hW:∀j,m<=j->W j=0):L+1<=2 ^ (m+n):=
 R.len hW (m+n) 0 L (by omega) (Nat.le_refl _) fun i _ h=>⟨(R.help i h).1,(R.ok i (by omega)).I.hlt _ (R.ends i h).1⟩
noncomputable def Step (m n:Nat)(W:Nat->Int)(A:Nat->Bool)(D' D:Crn):Prop:=∃p q,Help m n W A D q/\Ends m n D q p/\D'=turn D p q
noncomputable def mu (K:Int)(n m:Nat)(W:Nat->Int)(D:Crn):Nat:=((K * D.b - wv n D W (m+n)) * (K * K) / D.b).toNat
theorem mu_core {K b b' v v' x:Int}(hb:0<b)(hb':0<b')(hbK:b<=K)(hbK':b'<=K)(e:b * v'=v * b' - x)(hx:x<=0)(h1:v<=K * b)(h2:v'<=K * b'):((K * b' - v') * (K * K) / b').toNat<=((K * b - v) * (K * K) / b).toNat/\(x<0->((K * b' - v') * (K * K) / b').toNat<((K * b - v) * (K * K) / b).toNat):=by
 have hK:0<=K * K:=Int.mul_nonneg (by omega) (by omega)
 have n':0<=(K * b' - v') * (K * K) / b':=Int.ediv_nonneg (Int.mul_nonneg (by omega) hK) (by omega)
 have f1:(K * b' - v') * (K * K) / b' * b'<=(K * b' - v') * (K * K):=Int.ediv_mul_le _ (by omega)
 generalize (K * b' - v') * (K * K) / b'=f at *
 have f2:b * (f * b')<=b * ((K * b' - v') * (K * K)):=Int.mul_le_mul_of_nonneg_left f1 (by omega)
 have e2:b * ((K * b' - v') * (K * K))=(K * b - v) * (K * K) * b'+x * (K * K):=by grind
 have bb:b * b'<=K * K:=Int.mul_le_mul hbK hbK' (by omega) (by omega)
 constructor
 ·have g:f<=(K * b - v) * (K * K) / b:=by
   rw [Int.le_ediv_iff_mul_le hb]
   refine Int.le_of_mul_le_mul_right ?_ hb'
   have:=Int.mul_nonpos_of_nonneg_of_nonpos hK hx
   rw [Int.mul_comm] at this
   rw [show f * b * b'=b * (f * b') by grind]
   omega
  omega
 ·intro hx
  have g:f+1<=(K * b - v) * (K * K) / b:=by
   rw [Int.le_ediv_iff_mul_le hb]
   refine Int.le_of_mul_le_mul_right ?_ hb'
   have:x * (K * K)<=-1 * (K * K):=Int.mul_le_mul_of_nonneg_right (by omega) hK
   rw [show (f+1) * b * b'=b * (f * b')+b * b' by grind]
   omega
  omega
structure Big (m n:Nat)(T:Nat->Nat->Int)(W:Nat->Int)(K:Int):Prop where
 b:∀D,CInv m n T D->D.b<=K
 w:∀D,CInv m n T D->wv n D W (m+n)<=K * D.b
theorem mu_step {K:Int}(B:Big m n T W K){D:Crn}(O:Ok m n T A D){p q:Nat}(H:Help m n W A D q)(E:Ends m n D q p):mu K n m W (turn D p q)<=mu K n m W D/\(D.c p (m+n)≠0->mu K n m W (turn D p q)<mu K n m W D):=by
 have O':=O.turn H E
 have e:=wv_turn (p:=p) (q:=q) (j:=m+n) O.I W E.1
 have nn:=O.I.nn p E.1
 have hx:wv n D W q * D.c p (m+n)<=0:=by
  rw [Int.mul_comm]
  exact Int.mul_nonpos_of_nonneg_of_nonpos nn (Int.le_of_lt H.2.2.1)
 have c:=mu_core (K:=K) O.I.pos E.2.1 (B.b D O.I) (B.b _ O'.I) e hx (B.w D O.I) (B.w _ O'.I)
 exact ⟨c.1,fun z=>c.2 (Int.mul_neg_of_neg_of_pos H.2.2.1 (by omega))⟩
theorem run_snoc (R:Run m n T W A L s p q){pp qq:Nat}(H:Help m n W A (s L) qq)(E:Ends m n (s L) qq pp)(d:(s L).c pp (m+n)=0):Run m n T W A (L+1) (upd s (L+1) (turn (s L) pp qq)) (upd p L pp) (upd q L qq):=by
 refine ⟨fun i hi=>?_,fun i hi=>?_,fun i hi=>?_,fun i hi=>?_,fun i hi=>?_⟩
 ·by_cases z:i=L+1
  ·subst z; rw [upd_at]; exact (R.ok L (Nat.le_refl _)).turn H E
  ·rw [upd_ne z]; exact R.ok i (by omega)
 all_goals
  rw [upd_ne (show i≠L+1 by omega)]
  by_cases z:i=L
  ·subst z
   simp only [upd_at]
   all_goals first | exact H | exact E | exact d
  ·simp only [upd_ne z]
   first | exact R.help i (by omega) | exact R.ends i (by omega) | exact R.deg i (by omega) | (rw [upd_ne (show i+1≠L+1 by omega)]; exact R.next i (by omega))
theorem acc_run {K:Int}(B:Big m n T W K)(hW:∀j,m<=j->W j=0)(k:Nat)(ih:∀D,Ok m n T A D->mu K n m W D<k->Acc (Step m n W A) D):∀(d L:Nat) (s:Nat->Crn) (p q:Nat->Nat),L+d=2 ^ (m+n)->Run m n T W A L s p q->mu K n m W (s L)<=k->Acc (Step m n W A) (s L)
 |0,L,s,p,q,hd,R,hm=>by
  have:=R.short hW
  omega
 |d+1,L,s,p,q,hd,R,hm=>by
  refine Acc.intro _ fun D' ⟨pp,qq,H,E,e⟩=>?_
  have O:=R.ok L (Nat.le_refl _)
  obtain ⟨m1,m2⟩:=mu_step B O H E
  subst e
  by_cases z:(s L).c pp (m+n)=0
  ·have:=acc_run B hW k ih d (L+1) _ _ _ (by omega) (run_snoc R H E z) (by rw [upd_at]; omega)
   rwa [upd_at] at this
  ·exact ih _ (O.turn H E) (by have:=m2 z; omega)
theorem acc_all {K:Int}(B:Big m n T W K)(hW:∀j,m<=j->W j=0):∀(k:Nat) (D:Crn),Ok m n T A D->mu K n m W D<k->Acc (Step m n W A) D
 |0,D,_,h=>absurd h (Nat.not_lt_zero _)
 |k+1,D,O,h=>acc_run B hW k (acc_all B hW k) (2 ^ (m+n)) 0 (fun _=>D) (fun _=>0) (fun _=>0) (by omega) ⟨fun _ _=>O,(fun _ z=>absurd z (Nat.not_lt_zero _)),(fun _ z=>absurd z (Nat.not_lt_zero _)),(fun _ z=>absurd z (Nat.not_lt_zero _)),(fun _ z=>absurd z (Nat.not_lt_zero _))⟩ (by omega)
theorem acc_of {K:Int}(B:Big m n T W K)(hW:∀j,m<=j->W j=0){D:Crn}(O:Ok m n T A D):Acc (Step m n W A) D:=acc_all B hW (mu K n m W D+1) D O (Nat.lt_succ_self _)
structure Szs (m n:Nat)(T:Nat->Nat->Int)(X:Nat):Prop where
 t:∀i,i<n->∀j,j<=m+n->(T i j).natAbs<=X
theorem CInv.cle {D:Crn}{X:Nat}(S:Szs m n T X)(I:CInv m n T D){r j:Nat}(hr:r<n)(hj:j<=m+n):(D.c r j).natAbs<=fct n * X ^ n:=by
 rw [I.cr hr]
 refine det_abs fun k hk i hi=>?_
 by_cases z:k=r
 ·subst z; rw [upd_at]; exact S.t i hi j hj
 ·rw [upd_ne z]; exact S.t i hi _ (by have:=I.hlt k hk; omega)
theorem CInv.ble {D:Crn}{X:Nat}(S:Szs m n T X)(I:CInv m n T D):D.b.natAbs<=fct n * X ^ n:=by
 rw [I.dt]
 exact det_abs fun k hk i hi=>S.t i hi _ (by have:=I.hlt k hk; omega)
theorem CInv.wle {D:Crn}{X Y:Nat}(S:Szs m n T X)(hW:∀j,j<=m+n->(W j).natAbs<=Y)(I:CInv m n T D){j:Nat}(hj:j<=m+n):(wv n D W j).natAbs<=(n+1) * (fct n * X ^ n * Y):=by
 unfold wv
 have h1:(D.b * W j).natAbs<=fct n * X ^ n * Y:=by
  rw [Int.natAbs_mul]
  exact Nat.mul_le_mul (I.ble S) (hW j hj)
 have h2:(sm n fun r=>D.c r j * W (D.h r)).natAbs<=n * (fct n * X ^ n * Y):=sm_abs fun r hr=>by
  rw [Int.natAbs_mul]
  exact Nat.mul_le_mul (I.cle S hr hj) (hW _ (by have:=I.hlt r hr; omega))
 rw [Nat.add_mul,Nat.one_mul]
 omega
theorem big_of {X Y:Nat}(S:Szs m n T X)(hW:∀j,j<=m+n->(W j).natAbs<=Y):Big m n T W (((n+1) * (fct n * X ^ n * Y)+fct n * X ^ n:Nat):Int):=by
 refine ⟨fun D I=>?_,fun D I=>?_⟩
 ·have:=I.ble S
  omega
 ·have h1:=I.wle S hW (Nat.le_refl (m+n))
  have h2:=I.pos
  have h3:(((n+1) * (fct n * X ^ n * Y)+fct n * X ^ n:Nat):Int) * 1<=(((n+1) * (fct n * X ^ n * Y)+fct n * X ^ n:Nat):Int) * D.b:=Int.mul_le_mul_of_nonneg_left (by omega) (by omega)
  omega
end
end Sx
namespace K35
open PySem L2 Hd F
section
variable {m n:Nat}{s:Nat->Int}{ws bt:Int}{c:Nat->Nat->Int}{wl:Nat->Int}{h:Nat->Nat}
noncomputable def hD (n:Nat)(h:Nat->Nat):D:=.lst (rg n fun i=>.int (h i))
theorem ix_held {i:Nat}(hi:i<n):gIx (hD n h) (.int i)=some (.int (h i)):=rg_at hi
noncomputable def Ahd (m n:Nat)(c:Nat->Nat->Int)(h:Nat->Nat)(k i p:Nat):Prop:=c i (m+n) * c p k<c p (m+n) * c i k\/(c i (m+n) * c p k=c p (m+n) * c i k/\h i<h p)
noncomputable instance {k i p:Nat}:Decidable (Ahd m n c h k i p):=by unfold Ahd; infer_instance
theorem ahead_eq {i p k:Nat}(hi:i<n)(hp:p<n)(hk:k<m+n+1)(hB:∀r j,Bg (c r j)):F_Corner_ends_ahead [obj m n s ws c wl bt (hD n h),.int i,.int p,.int k]=.ok (false,.bl (decide (Ahd m n c h k i p))):=by
 by_cases q:c i (m+n) * c p k=c p (m+n) * c i k
 ·have e:decide (Ahd m n c h k i p)=decide (h i<h p):=decide_eq_decide.mpr ⟨fun z=>by rcases z with z | z; exact absurd q (by omega); exact z.2,fun z=>.inr ⟨q,z⟩⟩
  rw [e]
  simp [F_Corner_ends_ahead,runF,g_Corner_ends_ahead,c_Corner_ends_ahead,gSeq,gSet,fBin,fFld,fVarB,f_lines,f_held,ix_line hi,ix_line hp,ix_col hk,ix_end,ix_held hi,ix_held hp,fUn,fC,gNeg,gMul,hB,gIf,fCmpT,q,gRet,Me.let,Sl.let,fCmp,gLt]
 ·have e:decide (Ahd m n c h k i p)=decide (c i (m+n) * c p k<c p (m+n) * c i k):=decide_eq_decide.mpr ⟨fun z=>by rcases z with z | z; exact z; exact absurd z.1 q,fun z=>.inl z⟩
  rw [e]
  simp [F_Corner_ends_ahead,runF,g_Corner_ends_ahead,c_Corner_ends_ahead,gSeq,gSet,fBin,fFld,fVarB,f_lines,f_held,ix_line hi,ix_line hp,ix_col hk,ix_end,ix_held hi,ix_held hp,fUn,fC,gNeg,gMul,hB,gIf,fCmpT,q,gRet,Me.let,Sl.let,fCmp,gLt,gNx]
noncomputable def Best (m n:Nat)(c:Nat->Nat->Int)(h:Nat->Nat)(k i:Nat):Option Nat->Prop
 |none=>∀j,j<i->c j k<=0
 |some p=>p<i/\0<c p k/\∀j,j<i->0<c j k->j≠p->Ahd m n c h k p j
theorem end_skip {i k:Nat}{o fd:D}(hk:k<m+n+1)(q:¬0<c i k):B_Corner_ending_line_1 [.fz o,.fz (.int k),.fz fd,.fz (.int i),.fz (iL (m+n+1) (c i))]=.ok (.nx,[.fz o,.fz (.int k),.fz fd,.fz (.int i),.fz (iL (m+n+1) (c i))]):=by
 simp [B_Corner_ending_line_1,gIf,fAndT,fCmpT,fBin,fVarB,ix_col hk,fC,gGt,gLt,q,gNx]
theorem end_first {i k:Nat}{o:D}(hk:k<m+n+1)(q:0<c i k):B_Corner_ending_line_1 [.fz o,.fz (.int k),.fz .non,.fz (.int i),.fz (iL (m+n+1) (c i))]=.ok (.nx,[.fz o,.fz (.int k),.fz (.int i),.fz (.int i),.fz (iL (m+n+1) (c i))]):=by
 simp [B_Corner_ending_line_1,gIf,fAndT,fOrT,fCmpT,fBin,fVarB,ix_col hk,fC,gGt,gLt,q,gIs,isNon,gSet,fVar]
theorem end_next {i p k:Nat}(hi:i<n)(hp:p<n)(hk:k<m+n+1)(hB:∀r j,Bg (c r j))(q:0<c i k):B_Corner_ending_line_1 [.fz (obj m n s ws c wl bt (hD n h)),.fz (.int k),.fz (.int p),.fz (.int i),.fz (iL (m+n+1) (c i))]=.ok (.nx,[.fz (obj m n s ws c wl bt (hD n h)),.fz (.int k),.fz (.int (if Ahd m n c h k i p then (i:Int) else p)),.fz (.int i),.fz (iL (m+n+1) (c i))]):=by
 have ob:isOb "Corner" "ends_ahead" (obj m n s ws c wl bt (hD n h))=true:=ob_m (by decide)
 have ea:=ahead_eq (s:=s) (ws:=ws) (wl:=wl) (bt:=bt) (h:=h) hi hp hk hB
 by_cases z:Ahd m n c h k i p
 ·simp [B_Corner_ending_line_1,gIf,fAndT,fOrT,fCmpT,fBin,fVarB,ix_col hk,fC,gGt,gLt,q,gIs,isNon,gSet,fVar,fTv,fMt,ob,fCons,fNil,ea,okRes,flat2,z]
 ·simp [B_Corner_ending_line_1,gIf,fAndT,fOrT,fCmpT,fBin,fVarB,ix_col hk,fC,gGt,gLt,q,gIs,isNon,gSet,fVar,fTv,fMt,ob,fCons,fNil,ea,okRes,flat2,z,gNx]
theorem lt_trans3 {a b x y u v:Int}(hb:0<b)(hy:0<y)(hv:0<v)(h1:a * b<x * y\/a * b<=x * y/\x * v<u * b)(h2:x * v<=u * b):a * v<u * y:=by
 rcases h1 with h1 | ⟨h1,h3⟩
 ·have e1:a * b * v<x * y * v:=Int.mul_lt_mul_of_pos_right h1 hv
  have e2:x * v * y<=u * b * y:=Int.mul_le_mul_of_nonneg_right h2 (Int.le_of_lt hy)
  refine Int.lt_of_mul_lt_mul_right (a:=b) ?_ (Int.le_of_lt hb)
  have f1:a * v * b=a * b * v:=by grind
  have f2:u * y * b=u * b * y:=by grind
  have f3:x * v * y=x * y * v:=by grind
  omega
 ·have e1:a * b * v<=x * y * v:=Int.mul_le_mul_of_nonneg_right h1 (Int.le_of_lt hv)
  have e2:x * v * y<u * b * y:=Int.mul_lt_mul_of_pos_right h3 hy
  refine Int.lt_of_mul_lt_mul_right (a:=b) ?_ (Int.le_of_lt hb)
  have f1:a * v * b=a * b * v:=by grind
  have f2:u * y * b=u * b * y:=by grind
  have f3:x * v * y=x * y * v:=by grind
  omega
theorem ahd_trans {k i p j:Nat}(hi:0<c i k)(hp:0<c p k)(hj:0<c j k)(h1:Ahd m n c h k i p)(h2:Ahd m n c h k p j):Ahd m n c h k i j:=by
 unfold Ahd at *
 rcases h1 with h1 | ⟨h1,h1'⟩
 ·refine .inl (lt_trans3 (a:=c i (m+n)) (b:=c p k) (x:=c p (m+n)) (y:=c i k) (u:=c j (m+n)) (v:=c j k) hp hi hj (.inl h1) ?_)
  rcases h2 with h2 | ⟨h2,_⟩ <;> omega
 ·rcases h2 with h2 | ⟨h2,h2'⟩
  ·exact .inl (lt_trans3 (a:=c i (m+n)) (b:=c p k) (x:=c p (m+n)) (y:=c i k) (u:=c j (m+n)) (v:=c j k) hp hi hj (.inr ⟨by omega,h2⟩) (by omega))
  ·refine .inr ⟨?_,by omega⟩
   have e1:c i (m+n) * c j k * c p k=c j (m+n) * c i k * c p k:=by
    have f1:c i (m+n) * c p k * c j k=c p (m+n) * c i k * c j k:=by rw [h1]
    have f2:c p (m+n) * c j k * c i k=c j (m+n) * c p k * c i k:=by rw [h2]
    grind
   exact Int.eq_of_mul_eq_mul_right (by omega) e1
theorem ahd_tot {k i p:Nat}(hne:h i≠h p)(hn:¬Ahd m n c h k i p):Ahd m n c h k p i:=by
 unfold Ahd at *
 by_cases q:c p (m+n) * c i k<c i (m+n) * c p k
 ·exact .inl q
 ·refine .inr ⟨?_,?_⟩
  ·have:¬c i (m+n) * c p k<c p (m+n) * c i k:=fun z=>hn (.inl z)
   omega
  ·have z1:¬c i (m+n) * c p k<c p (m+n) * c i k:=fun z=>hn (.inl z)
   have z2:¬h i<h p:=fun z=>hn (.inr ⟨by omega,z⟩)
   omega
theorem ending_eq {k:Nat}(hk:k<m+n+1)(hB:∀r j,Bg (c r j))(inj:∀r,r<n->∀j,j<n->h r=h j->r=j):∃fd,F_Corner_ending_line [obj m n s ws c wl bt (hD n h),.int k]=.ok (false,fdD fd)/\Best m n c h k n fd:=by
 obtain ⟨m',e,fd,a,b,em,hb⟩:=loop_rg (n:=n) (f:=fun i=>.tup [.int i,iL (m+n+1) (c i)]) (h:=hTup 2 (hCons (hName 3) (hCons (hName 4) hNil))) (k:=B_Corner_ending_line_1) (m:=[.fz (obj m n s ws c wl bt (hD n h)),.fz (.int k),.fz .non,.un,.un]) (fun i x=>∃fd a b,x=[.fz (obj m n s ws c wl bt (hD n h)),.fz (.int k),.fz (fdD fd),a,b]/\Best m n c h k i fd) ⟨none,_,_,rfl,fun j hj=>absurd hj (Nat.not_lt_zero _)⟩ fun i x hi ⟨fd,a,b,em,hb⟩=>by
  subst em
  by_cases q:0<c i k
  ·cases fd with
   |none=>
    refine ⟨_,_,rfl,end_first hk q,some i,_,_,rfl,by omega,q,fun j hj hq hne=>?_⟩
    have:=hb j (by omega); omega
   |some p=>
    obtain ⟨b1,b2,b3⟩:=hb
    refine ⟨_,_,rfl,end_next hi (by omega) hk hB q,if Ahd m n c h k i p then some i else some p,.fz (.int i),.fz (iL (m+n+1) (c i)),?_,?_⟩
    ·split <;> rfl
    ·split
     ·rename_i z
      refine ⟨by omega,q,fun j hj hq hne=>?_⟩
      by_cases w:j=p
      ·subst w; exact z
      ·exact ahd_trans q b2 hq z (b3 j (by omega) hq w)
     ·rename_i z
      refine ⟨by omega,b2,fun j hj hq hne=>?_⟩
      by_cases w:j=i
      ·subst w
       exact ahd_tot (fun e=>hne (inj j hi p (by omega) e)) z
      ·exact b3 j (by omega) hq hne
  ·refine ⟨_,_,rfl,end_skip hk q,fd,_,_,rfl,?_⟩
   cases fd with
   |none=>
    intro j hj
    by_cases w:j=i
    ·subst w; omega
    ·exact hb j (by omega)
   |some p=>
    obtain ⟨b1,b2,b3⟩:=hb
    refine ⟨by omega,b2,fun j hj hq hne=>?_⟩
    by_cases w:j=i
    ·subst w; omega
    ·exact b3 j (by omega) hq hne
 refine ⟨fd,?_,hb⟩
 subst em
 have eL:L_Corner_ending_line_2 [.fz (obj m n s ws c wl bt (hD n h)),.fz (.int k),.fz .non,.un,.un]=.ok (.nx,[.fz (obj m n s ws c wl bt (hD n h)),.fz (.int k),.fz (fdD fd),a,b]):=by
  unfold L_Corner_ending_line_2 gFor
  rw [show fItE (fCons (fFld "Corner" "lines" (fVarB 0)) fNil) [.fz (obj m n s ws c wl bt (hD n h)),.fz (.int k),.fz .non,.un,.un]=.ok (rg n fun i=>.tup [.int i,iL (m+n+1) (c i)]) by
   simp [fItE,fCons,fNil,fFld,fVarB,f_lines,rg_enum]]
  exact e
 simp only [F_Corner_ending_line,runF,g_Corner_ending_line,c_Corner_ending_line,gSeq,gSet,fC,Res.bind_ok,List.set,List.length_cons,List.length_nil,if_true,List.map_cons,List.map_nil,List.cons_append,List.nil_append,List.replicate]
 rw [eL]
 rfl
end
open PySem L2 Hd F
open Sx (Crn CInv wv turn sm det)
section
variable {m n:Nat}{s:Nat->Int}{ws bt:Int}{c:Nat->Nat->Int}{wl t:Nat->Int}{h:D}
theorem obj_ext {c c':Nat->Nat->Int}{wl wl':Nat->Int}(e:∀r,r<n->∀j,j<m+n+1->c r j=c' r j)(e2:∀j,j<m+n+1->wl j=wl' j):obj m n s ws c wl bt h=obj m n s ws c' wl' bt h:=by
 unfold obj
 rw [rg_ext (f:=fun r=>iL (m+n+1) (c r)) (g:=fun r=>iL (m+n+1) (c' r)) fun r hr=>by unfold iL; rw [rg_ext fun j hj=>by rw [e r hr j hj]]]
 rw [show iL (m+n+1) wl=iL (m+n+1) wl' by unfold iL; rw [rg_ext fun j hj=>by rw [e2 j hj]]]
theorem view_is {x:Me}{i j:Nat}{w:Bool}{y:Addr}{H:D}(hi:x[i]? = some (.io (obj m n s ws c wl bt (.adr y)))\/x[i]? = some (.ow (obj m n s ws c wl bt (.adr y))))(hj:x[j]? = some (.hd w y H)):fView i j x=.ok (obj m n s ws c wl bt H):=by
 unfold fView
 rcases hi with hi | hi
 ·rw [hi,hj]; simp [obj,subA,iL]
 ·rw [hi,hj]; simp [obj,subA,iL]
theorem wh_ret {t:Me->Res Bool}{b:Me->Res (Fl×Me)}{m m':Me}{fr:Bool}{r:D}(h1:t m=.ok true)(h2:b m=.ok (.rt fr r,m')):wh t b 1 m=some (.ok (.rt fr r,m')):=by
 unfold wh
 rw [h1,h2]
structure LP (m n:Nat)(T:Nat->Nat->Int)(W:Nat->Int)(X Y:Nat):Prop where
 m8:m<=8
 n8:n<=8
 fst:Sx.First m n T
 w0:∀j,m<=j->W j=0
 sz:Sx.Szs m n T X
 wz:∀j,j<=m+n->(W j).natAbs<=Y
 bg:Sx.fct n * X ^ n<2 ^ 1500
 bgw:(n+1) * (Sx.fct n * X ^ n * Y)<2 ^ 2000
noncomputable def cc (m n:Nat)(D:Crn)(r j:Nat):Int:=if r<n/\j<m+n+1 then D.c r j else 0
noncomputable def cw (m n:Nat)(W:Nat->Int)(D:Crn)(j:Nat):Int:=if j<m+n+1 then wv n D W j else 0
theorem cc_is {D:Crn}{r j:Nat}(hr:r<n)(hj:j<m+n+1):cc m n D r j=D.c r j:=if_pos ⟨hr,hj⟩
theorem cw_is {D:Crn}{W:Nat->Int}{j:Nat}(hj:j<m+n+1):cw m n W D j=wv n D W j:=if_pos hj
variable {T:Nat->Nat->Int}{W:Nat->Int}{X Y:Nat}{D:Crn}
theorem cc_lt (P:LP m n T W X Y)(I:CInv m n T D)(r j:Nat):(cc m n D r j).natAbs<2 ^ 1500:=by
 unfold cc
 split
 ·rename_i z
  exact Nat.lt_of_le_of_lt (I.cle P.sz z.1 (by omega)) P.bg
 ·exact Nat.pow_pos (by decide)
theorem cw_lt (P:LP m n T W X Y)(I:CInv m n T D)(j:Nat):(cw m n W D j).natAbs<2 ^ 2000:=by
 unfold cw
 split
 ·rename_i z
  exact Nat.lt_of_le_of_lt (I.wle P.sz P.wz (by omega)) P.bgw
 ·exact Nat.pow_pos (by decide)
theorem b_lt (P:LP m n T W X Y)(I:CInv m n T D):D.b.natAbs<2 ^ 1500:=Nat.lt_of_le_of_lt (I.ble P.sz) P.bg
theorem cc_bg (P:LP m n T W X Y)(I:CInv m n T D)(r j:Nat):Bg (cc m n D r j):=bg_of (cc_lt P I r j)
theorem cw_bg (P:LP m n T W X Y)(I:CInv m n T D)(j:Nat):Bg (cw m n W D j):=bg_of (cw_lt P I j)
theorem b_bg (P:LP m n T W X Y)(I:CInv m n T D):Bq D.b:=bq_of (b_lt P I)
noncomputable def oD (m n:Nat)(s:Nat->Int)(ws:Int)(W:Nat->Int)(D:Crn)(h:F.D):F.D:=obj m n s ws (cc m n D) (cw m n W D) D.b h
noncomputable abbrev Al:Nat->Bool:=fun _=>true
noncomputable abbrev Ok (m n:Nat)(T:Nat->Nat->Int)(D:Crn):Prop:=Sx.Ok m n T Al D
noncomputable def HelpO (m n:Nat)(W:Nat->Int)(D:Crn):Option Nat->Prop
 |none=>∀j,j<m+n->0<=wv n D W j
 |some q=>Sx.Help m n W Al D q
theorem help_D (P:LP m n T W X Y){H:F.D}:∃fd,F_Corner_helping_column [oD m n s ws W D H,.int 0]=.ok (false,fdD fd)/\HelpO m n W D fd:=by
 obtain ⟨fd,e,hh⟩:=help_eq (s:=s) (ws:=ws) (c:=cc m n D) (wl:=cw m n W D) (bt:=D.b) (h:=H) P.m8 P.n8
 refine ⟨fd,e,?_⟩
 cases fd with
 |none=>exact fun j hj=>by have:=hh j hj; rwa [cw_is (by omega)] at this
 |some q=>
  obtain ⟨h1,h2,h3⟩:=hh
  rw [cw_is (by omega)] at h2
  exact ⟨h1,rfl,h2,fun j hj _=>by have:=h3 j hj; rwa [cw_is (by omega)] at this⟩
theorem end_D (P:LP m n T W X Y)(I:CInv m n T D){q:Nat}(hq:q<m+n):∃fd,F_Corner_ending_line [oD m n s ws W D (hD n D.h),.int q]=.ok (false,fdD fd)/\match fd with
  |none=>∀r,r<n->D.c r q<=0
  |some p=>Sx.Ends m n D q p:=by
 obtain ⟨fd,e,hb⟩:=ending_eq (m:=m) (s:=s) (ws:=ws) (c:=cc m n D) (wl:=cw m n W D) (bt:=D.b) (h:=D.h) (k:=q) (by omega) (cc_bg P I) fun r hr j hj e=>I.inj hr hj e
 refine ⟨fd,e,?_⟩
 cases fd with
 |none=>exact fun r hr=>by have:=hb r hr; rwa [cc_is hr (by omega)] at this
 |some p=>
  obtain ⟨h1,h2,h3⟩:=hb
  rw [cc_is h1 (by omega)] at h2
  refine ⟨h1,h2,fun r hr hpos hne=>?_⟩
  have:=h3 r hr (by rw [cc_is hr (by omega)]; exact hpos) hne
  unfold Ahd at this
  rwa [cc_is h1 (by omega),cc_is h1 (by omega),cc_is hr (by omega),cc_is hr (by omega)] at this
theorem turn_D (P:LP m n T W X Y)(I:CInv m n T D){p q:Nat}{y:Addr}(hp:p<n)(hq:q<m+n):F_Corner_turn_about [.int p,.int q] (oD m n s ws W D (.adr y)) (y,hD n D.h)=.ok (.non,oD m n s ws W (turn D p q) (.adr y),hD n (turn D p q).h):=by
 have e:=turn_eq (s:=s) (ws:=ws) (bt:=D.b) (c:=cc m n D) (wl:=cw m n W D) (p:=p) (k:=q) (y:=y) (H:=fun i=>.int (D.h i)) P.m8 P.n8 hp (by omega) I.pos (b_bg P I) (cc_bg P I) (cw_bg P I)
 have e1:obj m n s ws (tc q D.b (cc m n D) p) (clr q D.b (cw m n W D) (cc m n D p)) (cc m n D p q) (.adr y)=oD m n s ws W (turn D p q) (.adr y):=by
  rw [cc_is hp (by omega)]
  refine obj_ext (fun r hr j hj=>?_) fun j hj=>?_
  ·rw [cc_is hr hj]
   unfold tc
   by_cases z:r=p
   ·subst z; rw [if_pos rfl,cc_is hr hj]; exact (Sx.turn_at).symm
   ·rw [if_neg z]
    unfold clr
    rw [cc_is hr hj,cc_is hp (by omega),cc_is hr (by omega),cc_is hp hj]
    exact (if_neg z).symm
  ·unfold clr
   rw [cw_is hj,cw_is hj,cw_is (by omega),cc_is hp (by omega),cc_is hp hj,← Sx.wv_turn I W hp,Int.mul_ediv_cancel_left _ (by have:=I.pos; omega)]
 have e2:(rg n fun i=>if i=p then F.D.int q else .int (D.h i))=rg n fun i=>.int ((turn D p q).h i):=rg_ext fun i _=>by
  show _=F.D.int ((Sx.upd D.h p q i:Nat):Int)
  unfold Sx.upd
  split <;> rfl
 rw [e1,e2] at e
 exact e
noncomputable def stt (m n:Nat)(s:Nat->Int)(ws:Int)(W:Nat->Int)(D:Crn)(y:Addr)(z:Sl)(fd:Option Nat):Me:=[.io (oD m n s ws W D (.adr y)),.fz (.int 0),.fz (fdD fd),z,.hd false y (hD n D.h)]
theorem set_help {y:Addr}{x z:Sl}{fd:Option Nat}(hh:F_Corner_helping_column [oD m n s ws W D (hD n D.h),.int 0]=.ok (false,fdD fd)):gSet 2 (fMt "Corner" "helping_column" F_Corner_helping_column (fView 0 4) (fCons (fVarB 1) fNil)) [.io (oD m n s ws W D (.adr y)),.fz (.int 0),x,z,.hd false y (hD n D.h)]=.ok (.nx,stt m n s ws W D y z fd):=by
 unfold gSet
 rw [mt1 (view_is (.inl rfl) rfl) (ob_m (by decide)) rfl hh okr_fd]
 rfl
theorem set_end {y:Addr}{x:Sl}{q:Nat}{fd:Option Nat}(he:F_Corner_ending_line [oD m n s ws W D (hD n D.h),.int q]=.ok (false,fdD fd)):gSet 3 (fMt "Corner" "ending_line" F_Corner_ending_line (fView 0 4) (fCons (fVarB 2) fNil)) (stt m n s ws W D y x (some q))=.ok (.nx,stt m n s ws W D y (.fz (fdD fd)) (some q)):=by
 unfold gSet
 rw [mt1 (view_is (.inl rfl) rfl) (ob_m (by decide)) (ds:=[.int q]) rfl he okr_fd]
 rfl
theorem climb_body (P:LP m n T W X Y)(I:CInv m n T D){y:Addr}{z:Sl}{q p:Nat}{fd:Option Nat}(hq:q<m+n)(hp:p<n)(he:F_Corner_ending_line [oD m n s ws W D (hD n D.h),.int q]=.ok (false,fdD (some p)))(hh:F_Corner_helping_column [oD m n s ws W (turn D p q) (hD n (turn D p q).h),.int 0]=.ok (false,fdD fd)):B_Corner_climb_2 (stt m n s ws W D y z (some q))=.ok (.nx,stt m n s ws W (turn D p q) y (.fz (.int p)) fd):=by
 have e1:=set_end (y:=y) (x:=z) he
 have e2:gExX (fxM "Corner" "turn_about" F_Corner_turn_about 0 4 (fCons (fVar 3) (fCons (fVar 2) fNil))) (stt m n s ws W D y (.fz (.int p)) (some q))=.ok (.nx,stt m n s ws W (turn D p q) y (.fz (.int p)) (some q)):=by
  have ob:isOb "Corner" "turn_about" (oD m n s ws W D (.adr y))=true:=ob_m (by decide)
  have et:=turn_D (s:=s) (ws:=ws) (y:=y) P I hp hq
  simp [gExX,fxM,stt,ownA,hdAt,ob,fCons,fNil,fVar,fdD]
  rw [et]
  simp [putA]
 have e3:=set_help (y:=y) (x:=.fz (.int q)) (z:=.fz (.int p)) hh
 unfold B_Corner_climb_2
 rw [seq_ok e1]
 refine (seq_ok (m':=stt m n s ws W D y (.fz (.int p)) (some q)) rfl).trans ?_
 rw [seq_ok e2]
 exact e3
theorem climb_stop {y:Addr}{z:Sl}{q:Nat}(he:F_Corner_ending_line [oD m n s ws W D (hD n D.h),.int q]=.ok (false,fdD none)):B_Corner_climb_2 (stt m n s ws W D y z (some q))=.ok (.rt false (.int q),stt m n s ws W D y (.fz .non) (some q)):=by
 have e1:=set_end (y:=y) (x:=z) he
 unfold B_Corner_climb_2
 rw [seq_ok e1]
 rfl
theorem climb_loop (P:LP m n T W X Y){D:Crn}(ac:Acc (Sx.Step m n W Al) D):∀fd z,Ok m n T D->HelpO m n W D fd->∃steps D' z',Ok m n T D'/\
  ((HelpO m n W D' none/\∀y,wh T_Corner_climb_1 B_Corner_climb_2 steps (stt m n s ws W D y z fd)=some (.ok (.nx,stt m n s ws W D' y z' none)))\/∃q,q<m+n/\wv n D' W q<0/\(∀r,r<n->D'.c r q<=0)/\∀y,wh T_Corner_climb_1 B_Corner_climb_2 steps (stt m n s ws W D y z fd)=some (.ok (.rt false (.int q),stt m n s ws W D' y z' (some q)))):=by
 induction ac with
 |intro D _ ih=>
  intro fd z O hh
  cases fd with
  |none=>exact ⟨1,D,z,O,.inl ⟨hh,fun y=>wh_done rfl⟩⟩
  |some q=>
   obtain ⟨fe,e,he⟩:=end_D (s:=s) (ws:=ws) P O.I hh.1
   cases fe with
   |none=>exact ⟨1,D,_,O,.inr ⟨q,hh.1,hh.2.2.1,he,fun y=>wh_ret rfl (climb_stop e)⟩⟩
   |some p=>
    have O':Ok m n T (turn D p q):=O.turn hh he
    obtain ⟨fd2,e2,hh2⟩:=help_D (s:=s) (ws:=ws) (D:=turn D p q) (H:=hD n (turn D p q).h) P
    obtain ⟨steps,D',z',o2,k⟩:=ih (turn D p q) ⟨p,q,hh,he,rfl⟩ fd2 (.fz (.int p)) O' hh2
    have eb:=fun y=>climb_body (y:=y) (z:=z) P O.I hh.1 he.1 e e2
    refine ⟨steps+1,D',z',o2,?_⟩
    rcases k with ⟨k1,k2⟩ | ⟨q2,k1,k2,k3,k4⟩
    ·exact .inl ⟨k1,fun y=>wh_step rfl (eb y) (k2 y)⟩
    ·exact .inr ⟨q2,k1,k2,k3,fun y=>wh_step rfl (eb y) (k4 y)⟩
noncomputable def cst (o:F.D)(a b:F.D)(z:Sl)(y:Addr)(H:F.D):Me:=[.io o,.fz a,.fz b,z,.hd false y H]
theorem climb_run {o o' r:F.D}{y:Addr}{H H' x:F.D}{m':Me}(e1:gSet 2 (fMt "Corner" "helping_column" F_Corner_helping_column (fView 0 4) (fCons (fVarB 1) fNil)) [.io o,.fz (.int 0),.un,.un,.hd false y H]=.ok (.nx,cst o (.int 0) x .un y H))
  (e2:(L_Corner_climb_3 (cst o (.int 0) x .un y H)=.ok (.rt false r,m')/\ioAtP m' 0=some o'/\hdF m' 4 y=some H')\/(L_Corner_climb_3 (cst o (.int 0) x .un y H)=.ok (.nx,m')/\r=.non/\ioAtP m'.let 0=some o'/\hdF m'.let 4 y=some H')):F_Corner_climb [.int 0] o (y,H)=.ok (r,o',H'):=by
 rcases e2 with ⟨a,b,d⟩ | ⟨a,rfl,b,d⟩
 ·refine runM_rt (m':=m') (b:=false) rfl ?_ b d
  show gSeq _ _ [.io o,.fz (.int 0),.un,.un,.hd false y H]=_
  rw [seq_ok e1]
  unfold gSeq
  rw [a]
 ·refine runM_rt (m':=m'.let) (b:=false) rfl ?_ b d
  show gSeq _ _ [.io o,.fz (.int 0),.un,.un,.hd false y H]=_
  rw [seq_ok e1,seq_ok a]
  rfl
noncomputable def D0 (m:Nat)(T:Nat->Nat->Int):Crn:=⟨T,1,fun r=>m+r⟩
theorem ok0 (P:LP m n T W X Y):Ok m n T (D0 m T):=⟨Sx.first_inv P.fst,fun _ _=>rfl⟩
theorem climb_eq (P:LP m n T W X Y):∃D' r,Ok m n T D'/\(∀y,F_Corner_climb [.int 0] (oD m n s ws W (D0 m T) (.adr y)) (y,hD n (D0 m T).h)=.ok (fdD r,oD m n s ws W D' (.adr y),hD n D'.h))/\
  ((r=none/\HelpO m n W D' none)\/∃q,r=some q/\q<m+n/\wv n D' W q<0/\∀r,r<n->D'.c r q<=0):=by
 obtain ⟨fd,e,hh⟩:=help_D (s:=s) (ws:=ws) (D:=D0 m T) (H:=hD n (D0 m T).h) P
 have e1:=fun y=>set_help (y:=y) (x:=.un) (z:=.un) e
 have ac:=Sx.acc_of (A:=Al) (Sx.big_of P.sz P.wz) P.w0 (ok0 P)
 obtain ⟨steps,D',z,o,k⟩:=climb_loop (s:=s) (ws:=ws) P ac fd .un (ok0 P) hh
 have hd:∀y fd,hdF (stt m n s ws W D' y z fd) 4 y=some (hD n D'.h):=fun y fd=>by simp [hdF,stt]
 have hl:∀y fd,hdF (Me.let (stt m n s ws W D' y z fd)) 4 y=some (hD n D'.h):=fun y fd=>by simp [hdF,stt,Me.let,Sl.let]
 rcases k with ⟨k1,k2⟩ | ⟨q,k1,k2,k3,k4⟩
 ·exact ⟨D',none,o,fun y=>climb_run (x:=fdD fd) (m':=stt m n s ws W D' y z none) (e1 y) (.inr ⟨gWhile_eq steps (k2 y),rfl,rfl,hl y none⟩),.inl ⟨rfl,k1⟩⟩
 ·exact ⟨D',some q,o,fun y=>climb_run (x:=fdD fd) (m':=stt m n s ws W D' y z (some q)) (e1 y) (.inl ⟨gWhile_eq steps (k4 y),rfl,hd y _⟩),.inr ⟨q,rfl,k1,k2,k3⟩⟩
end
open PySem L2 Hd F
section
variable {m n:Nat}{s:Nat->Int}{ws bt:Int}{c:Nat->Nat->Int}{wl t:Nat->Int}{h:Nat->Nat}
theorem runF_rt {N k:Nat}{g:Me->Res (Fl×Me)}{ds:List D}{fr:Bool}{d:D}{m':Me}(hn:ds.length=k)(e:g (ds.map Sl.fz++List.replicate (N - k) .un)=.ok (.rt fr d,m')):runF N k g ds=.ok (fr,d):=by
 unfold runF
 rw [if_pos hn,e]
theorem flat_qs (q:Nat->Q2):∀l:List Nat,flat2s (l.map fun i=>qD (q i))=true
 |[]=>rfl
 |a::l=>by
  show (true && flat2s (l.map fun i=>qD (q i)))=true
  rw [flat_qs q l]; rfl
theorem flat_q {k:Nat}{q:Nat->Q2}:flatL (.lst (rg k fun i=>qD (q i)))=true:=flat_qs q _
theorem am_q {o tops:D}(hm:m<=8)(hw:gFld "Corner" "wide" o=some (.int m)){a b d:Sl}:Q_Corner_amounts_2 [.fz o,.fz tops,a,b,d]=.ok (.lst (rg m fun _=>qD (0,1))):=by
 have e:=itR (f:=fCons (fFld "Corner" "wide" (fVarB 0)) fNil) (m:=[.fz o,.fz tops,a,b,d]) (j:=m) (n:=m) (by simp [fCons,fNil,fFld,fVarB,hw]) rfl (by omega)
 have ec:=comp_rg (n:=m) (f:=fun i=>.int i) (h:=hName 0) (ft:=fAll) (fe:=E_Corner_amounts_1) (m0:=[.un]) (fun _=>qD (0,1)) fun i hi=>⟨_,rfl,rfl,rfl⟩
 have hl:m<=16777216:=by omega
 unfold Q_Corner_amounts_2 fComp
 rw [e]
 simp [cMe,rg_len,hl,ec]
theorem mtN1 {o r:D}{cn mn:Str}{Φ:List D->Res (Bool×D)}{f0:Me->Res D}{fs:Me->Res (List D)}{m:Me}{ds:List D}(h0:f0 m=.ok o)(ho:isOb cn mn o=true)(hf:fs m=.ok ds)(hΦ:Φ (o::ds)=.ok (true,r))(hr:flatL r=true):fMtN cn mn Φ f0 fs m=.ok r:=by
 unfold fMtN
 rw [h0,Res.bind_ok,if_pos ho,hf,Res.bind_ok,hΦ,Res.bind_ok]
 show (if (true && flatL r)=true then _ else _)=_
 rw [hr]
 rfl
theorem cons_ok {f:Me->Res D}{g:Me->Res (List D)}{m:Me}{d:D}{ds:List D}(h1:f m=.ok d)(h2:g m=.ok ds):fCons f g m=.ok (d::ds):=by
 unfold fCons
 rw [h1,h2]
 rfl
noncomputable def amR (h:Nat->Nat)(t:Nat->Int)(b:Int):Nat->Nat->Q2
 |0=>fun _=>(0,1)
 |k+1=>fun i=>if i=h k then low (t k) b else amR h t b k i
theorem am_body {o T:D}{k:Nat}{b:Int}(hw:gFld "Corner" "wide" o=some (.int m))(hb:gFld "Corner" "bottom" o=some (.int b))(h0:0<b)(hB:Bq b):B_Corner_amounts_3 [.fz o,.fz T,.ow (.lst (rg m fun i=>qD (amR h t b k i))),.fz (.int (h k)),.fz (.int (t k))]=.ok (.nx,[.fz o,.fz T,.ow (.lst (rg m fun i=>qD (amR h t b (k+1) i))),.fz (.int (h k)),.fz (.int (t k))]):=by
 by_cases q:h k<m
 ·have q':(h k:Int)<m:=by omega
  have ex:ixN m (h k:Int)=some (h k):=by unfold ixN; rw [if_pos (by omega),if_pos (by omega)]; simp
  have er:(rg m fun i=>if i=h k then qD (low (t k) b) else qD (amR h t b k i))=rg m fun i=>qD (amR h t b (k+1) i):=rg_ext fun i _=>by
   show _=qD (if i=h k then _ else _)
   by_cases w:i=h k
   ·rw [if_pos w,if_pos w]
   ·rw [if_neg w,if_neg w]
  simp [B_Corner_amounts_3,gIf,fCmpT,fVarB,fFld,hw,hb,gLt,q',q,gSetIx,fVar,fFn,fCons,fNil,F_lowest_eq h0 hB,ownL,rg_len,ex,putL,rg_set,er]
 ·have q':¬(h k:Int)<m:=by omega
  have er:(rg m fun i=>qD (amR h t b k i))=rg m fun i=>qD (amR h t b (k+1) i):=rg_ext fun i hi=>by
   show _=qD (if i=h k then _ else _)
   rw [if_neg (by omega)]
  simp [B_Corner_amounts_3,gIf,fCmpT,fVarB,fFld,hw,gLt,q',q,gNx,er]
theorem amounts_eq {o:D}{b:Int}(hm:m<=8)(hw:gFld "Corner" "wide" o=some (.int m))(hb:gFld "Corner" "bottom" o=some (.int b))(hh:gFld "Corner" "held_columns" o=some (hD n h))(h0:0<b)(hB:Bq b):F_Corner_amounts [o,iL n t]=.ok (true,.lst (rg m fun i=>qD (amR h t b n i))):=by
 obtain ⟨m',e,x,y,em⟩:=loop_rg (n:=n) (f:=fun i=>.tup [.int (h i),.int (t i)]) (h:=hTup 2 (hCons (hName 3) (hCons (hName 4) hNil))) (k:=B_Corner_amounts_3) (m:=[.fz o,.fz (iL n t),.ow (.lst (rg m fun _=>qD (0,1))),.un,.un]) (fun k z=>∃x y,z=[.fz o,.fz (iL n t),.ow (.lst (rg m fun i=>qD (amR h t b k i))),x,y]) ⟨_,_,rfl⟩ fun k z hk ⟨x,y,ez⟩=>by
  subst ez
  exact ⟨_,_,rfl,am_body hw hb h0 hB,_,_,rfl⟩
 subst em
 have e1:gOwn 2 Q_Corner_amounts_2 [.fz o,.fz (iL n t),.un,.un,.un]=.ok (.nx,[.fz o,.fz (iL n t),.ow (.lst (rg m fun _=>qD (0,1))),.un,.un]):=by
  unfold gOwn
  rw [am_q hm hw]
  rfl
 have e2:L_Corner_amounts_4 [.fz o,.fz (iL n t),.ow (.lst (rg m fun _=>qD (0,1))),.un,.un]=.ok (.nx,[.fz o,.fz (iL n t),.ow (.lst (rg m fun i=>qD (amR h t b n i))),x,y]):=by
  unfold L_Corner_amounts_4 gFor
  rw [show fItZ (fCons (fFld "Corner" "held_columns" (fVarB 0)) (fCons (fVar 1) fNil)) [.fz o,.fz (iL n t),.ow (.lst (rg m fun _=>qD (0,1))),.un,.un]=.ok (rg n fun i=>.tup [.int (h i),.int (t i)]) by
   simp [fItZ,fCons,fNil,fFld,fVarB,hh,fVar,hD,iL,rg_zip]]
  exact e
 have e3:g_Corner_amounts [.fz o,.fz (iL n t),.un,.un,.un]=.ok (.rt true (.lst (rg m fun i=>qD (amR h t b n i))),Me.let [.fz o,.fz (iL n t),.ow (.lst (rg m fun i=>qD (amR h t b n i))),x,y]):=by
  unfold g_Corner_amounts c_Corner_amounts
  rw [seq_ok e1,seq_ok e2]
  rfl
 exact runF_rt rfl e3
theorem fit_eq (hm:m<=8)(hn:n<=8)(h0:0<bt)(hB:Bq bt):F_Corner_fit [obj m n s ws c wl bt (hD n h)]=.ok (true,.lst (rg m fun i=>qD (amR h (fun r=>c r (m+n)) bt n i))):=by
 have hl:n<=16777216:=by omega
 have eq:Q_Corner_fit_2 [.fz (obj m n s ws c wl bt (hD n h))]=.ok (iL n fun r=>c r (m+n)):=by
  have ec:=comp_rg (n:=n) (f:=fun r=>iL (m+n+1) (c r)) (h:=hName 0) (ft:=fAll) (fe:=E_Corner_fit_1) (m0:=[.un]) (fun i=>.int (c i (m+n))) fun i hi=>⟨_,rfl,rfl,by
   simp [E_Corner_fit_1,fBin,fVarB,fUn,fC,gNeg,ix_end]⟩
  simp [Q_Corner_fit_2,fComp,fItL,fFld,fVarB,f_lines,cMe,rg_len,hl,ec]
  rfl
 have ea:=amounts_eq (m:=m) (n:=n) (o:=obj m n s ws c wl bt (hD n h)) (h:=h) (t:=fun r=>c r (m+n)) hm f_wide f_bt f_held h0 hB
 have ob:isOb "Corner" "amounts" (obj m n s ws c wl bt (hD n h))=true:=ob_m (by decide)
 have ef:=mtN1 (f0:=fVarB 0) (fs:=fCons Q_Corner_fit_2 fNil) (m:=[.fz (obj m n s ws c wl bt (hD n h))]) rfl ob (cons_ok eq rfl) ea flat_q
 have eg:g_Corner_fit [.fz (obj m n s ws c wl bt (hD n h))]=.ok (.rt true (.lst (rg m fun i=>qD (amR h (fun r=>c r (m+n)) bt n i))),[.fz (obj m n s ws c wl bt (hD n h))]):=by
  unfold g_Corner_fit c_Corner_fit gRetN
  rw [show Me.let [.fz (obj m n s ws c wl bt (hD n h))]=[.fz (obj m n s ws c wl bt (hD n h))] from rfl,ef]
  rfl
 exact runF_rt rfl eg
noncomputable def wayF (h:Nat->Nat)(t:Nat->Int)(b:Int)(n j:Nat):Nat->Q2:=fun i=>if i=j then (1,1) else amR h t b n i
theorem way_eq {j:Nat}(hm:m<=8)(hn:n<=8)(hj:j<m+n)(h0:0<bt)(hB:Bq bt):F_Corner_way_along [obj m n s ws c wl bt (hD n h),.int j]=.ok (true,.lst (rg m fun i=>qD (wayF h (fun r=>-(c r j)) bt n j i))):=by
 have hl:n<=16777216:=by omega
 have eq:Q_Corner_way_along_2 [.fz (obj m n s ws c wl bt (hD n h)),.fz (.int j),.un]=.ok (iL n fun r=>-(c r j)):=by
  have ec:=comp_rg (n:=n) (f:=fun r=>iL (m+n+1) (c r)) (h:=hName 0) (ft:=fAll) (fe:=E_Corner_way_along_1) (m0:=[.un,.fz (.int j)]) (fun i=>.int (-(c i j))) fun i hi=>⟨_,rfl,rfl,by
   simp [E_Corner_way_along_1,fBin,fVarB,fUn,gNeg,ix_col (show j<m+n+1 by omega)]⟩
  simp [Q_Corner_way_along_2,fComp,fItL,fFld,fVarB,f_lines,cMe,Sl.bor,rg_len,hl,ec]
  rfl
 have ea:=amounts_eq (m:=m) (n:=n) (o:=obj m n s ws c wl bt (hD n h)) (h:=h) (t:=fun r=>-(c r j)) hm f_wide f_bt f_held h0 hB
 have ob:isOb "Corner" "amounts" (obj m n s ws c wl bt (hD n h))=true:=ob_m (by decide)
 have ef:=mtN1 (f0:=fVarB 0) (fs:=fCons Q_Corner_way_along_2 fNil) (m:=[.fz (obj m n s ws c wl bt (hD n h)),.fz (.int j),.un]) rfl ob (cons_ok eq rfl) ea flat_q
 have e1:gOwn 2 (fMtN "Corner" "amounts" F_Corner_amounts (fVarB 0) (fCons Q_Corner_way_along_2 fNil)) [.fz (obj m n s ws c wl bt (hD n h)),.fz (.int j),.un]=.ok (.nx,[.fz (obj m n s ws c wl bt (hD n h)),.fz (.int j),.ow (.lst (rg m fun i=>qD (amR h (fun r=>-(c r j)) bt n i)))]):=by
  unfold gOwn
  rw [ef]
  rfl
 have e2:gIf (fCmpT gLt (fVarB 1) (fFld "Corner" "wide" (fVarB 0))) (gSetIx 2 (fVar 1) (fC (.tup [(.int 1),(.int 1)]))) gNx [.fz (obj m n s ws c wl bt (hD n h)),.fz (.int j),.ow (.lst (rg m fun i=>qD (amR h (fun r=>-(c r j)) bt n i)))]=.ok (.nx,[.fz (obj m n s ws c wl bt (hD n h)),.fz (.int j),.ow (.lst (rg m fun i=>qD (wayF h (fun r=>-(c r j)) bt n j i)))]):=by
  by_cases q:j<m
  ·have ex:ixN m (j:Int)=some j:=by unfold ixN; rw [if_pos (by omega),if_pos (by omega)]; simp
   have hj':(j:Int)<m:=by omega
   have er:(rg m fun i=>if i=j then D.tup [.int 1,.int 1] else qD (amR h (fun r=>-(c r j)) bt n i))=rg m fun i=>qD (wayF h (fun r=>-(c r j)) bt n j i):=rg_ext fun i _=>by
    unfold wayF
    by_cases w:i=j
    ·rw [if_pos w,if_pos w]; rfl
    ·rw [if_neg w,if_neg w]
   simp [gIf,fCmpT,fVarB,fFld,f_wide,gLt,hj',q,gSetIx,fVar,fC,ownL,rg_len,ex,putL,rg_set,er]
  ·have hj':¬(j:Int)<m:=by omega
   have er:(rg m fun i=>qD (amR h (fun r=>-(c r j)) bt n i))=rg m fun i=>qD (wayF h (fun r=>-(c r j)) bt n j i):=rg_ext fun i hi=>by
    unfold wayF
    rw [if_neg (by omega)]
   simp [gIf,fCmpT,fVarB,fFld,f_wide,gLt,hj',q,gNx,er]
 have eg:g_Corner_way_along [.fz (obj m n s ws c wl bt (hD n h)),.fz (.int j),.un]=.ok (.rt true (.lst (rg m fun i=>qD (wayF h (fun r=>-(c r j)) bt n j i))),[.fz (obj m n s ws c wl bt (hD n h)),.fz (.int j),.fz (.lst (rg m fun i=>qD (wayF h (fun r=>-(c r j)) bt n j i)))]):=by
  unfold g_Corner_way_along c_Corner_way_along
  rw [seq_ok e1,seq_ok e2]
  rfl
 exact runF_rt rfl eg
theorem prices_eq {H:D}(hm:m<=8)(hn:n<=8)(h0:0<bt * ws)(hB:Bq (bt * ws))(b1:Bg bt)(b2:Bg ws)(b3:∀i,Bg (s i))(b4:∀i,Bg (wl i)):F_Corner_prices [obj m n s ws c wl bt H,.int 0]=.ok (true,.lst (rg n fun i=>qD (low (wl (m+i) * s i) (bt * ws)))):=by
 have hl:n<=16777216:=by omega
 have e0:gIx (.lst [iL (m+n+1) wl]) (.int 0)=some (iL (m+n+1) wl):=rfl
 have e1:gIx (.lst [.int ws]) (.int 0)=some (.int ws):=rfl
 have ec:=comp_rg (n:=n) (f:=fun i=>.tup [.int i,.int (s i)]) (h:=hTup 2 (hCons (hName 0) (hCons (hName 1) hNil))) (ft:=fAll) (fe:=E_Corner_prices_1) (m0:=[.un,.un,.fz (.int (bt * ws)),.fz (iL (m+n+1) wl),.fz (obj m n s ws c wl bt H)]) (fun i=>qD (low (wl (m+i) * s i) (bt * ws))) fun i hi=>⟨[.fz (.int i),.fz (.int (s i)),.fz (.int (bt * ws)),.fz (iL (m+n+1) wl),.fz (obj m n s ws c wl bt H)],rfl,rfl,by
  have ei:gIx (iL (m+n+1) wl) (.int ((m:Int)+i))=some (.int (wl (m+i))):=ix_col (i:=m+i) (by omega)
  simp [E_Corner_prices_1,fFn,fCons,fNil,fBin,fVarB,fFld,f_wide,gAdd,ei,gMul,b3,b4,fVar,F_lowest_eq h0 hB]⟩
 have eq:Q_Corner_prices_2 [.fz (obj m n s ws c wl bt H),.fz (.int 0),.fz (iL (m+n+1) wl),.fz (.int (bt * ws))]=.ok (.lst (rg n fun i=>qD (low (wl (m+i) * s i) (bt * ws)))):=by
  have ei:fItE (fCons (fFld "Corner" "scales" (fVarB 0)) fNil) [.fz (obj m n s ws c wl bt H),.fz (.int 0),.fz (iL (m+n+1) wl),.fz (.int (bt * ws))]=.ok (rg n fun i=>.tup [.int i,.int (s i)]):=by
   simp [fItE,fCons,fNil,fFld,fVarB,f_scales,iL,rg_enum]
  unfold Q_Corner_prices_2 fComp
  rw [ei]
  simp [cMe,Sl.bor,rg_len,hl,ec]
 simp [F_Corner_prices,runF,g_Corner_prices,c_Corner_prices,gSeq,gSet,fBin,fFld,fVarB,f_wl,f_bt,f_ws,e0,e1,gMul,b1,b2,gRetN,Me.let,Sl.let,eq]
end
open PySem L2 Hd F
structure NumOk (q:Q2):Prop where
 pos:0<q.2
 b2:q.2.natAbs<2 ^ 10
 b1:q.1.natAbs<2 ^ 30
noncomputable def scl (q:Nat->Q2):Nat->Int
 |0=>1
 |i+1=>scl q i * (q i).2 / gI (scl q i) (q i).2
theorem lcm_aux {p q g x y:Int}(hg:0<g)(hx:p=g * x)(hy:q=g * y):p * q / g=p * y/\p * q / g=q * x:=by
 subst hx hy
 have e1:g * x * (g * y) / g=g * x * y:=by
  rw [Int.mul_left_comm,Int.mul_ediv_cancel_left _ (by omega)]
 exact ⟨e1,by rw [e1,Int.mul_assoc,Int.mul_assoc,Int.mul_comm x y]⟩
theorem pos_of {a b:Int}(ha:0<a)(h:0<a * b):0<b:=by
 by_cases z:0<b
 ·exact z
 ·have:=Int.mul_nonpos_of_nonneg_of_nonpos (Int.le_of_lt ha) (show b<=0 by omega)
  omega
theorem scl_step {p q:Int}(hp:0<p)(hq:0<q):p ∣ p * q / gI p q/\q ∣ p * q / gI p q/\0<p * q / gI p q/\p * q / gI p q<=p * q:=by
 have g0:=gI_pos (a:=p) (b:=q) (by omega)
 obtain ⟨x,hx⟩:=gI_left p q
 obtain ⟨y,hy⟩:=gI_right p q
 obtain ⟨e1,e2⟩:=lcm_aux g0 hx hy
 have y0:0<y:=pos_of g0 (by omega)
 refine ⟨⟨y,e1⟩,⟨x,e2⟩,by rw [e1]; exact Int.mul_pos hp y0,Int.ediv_le_self _ (Int.le_of_lt (Int.mul_pos hp hq))⟩
theorem scl_ok {q:Nat->Q2}(h:∀i,NumOk (q i)):∀k,0<scl q k/\(scl q k).natAbs<2 ^ (1+10 * k)/\∀i,i<k->(q i).2 ∣ scl q k
 |0=>⟨(show (0:Int)<1 by decide),(show (1:Int).natAbs<2 ^ 1 by decide),fun i hi=>absurd hi (Nat.not_lt_zero _)⟩
 |k+1=>by
  obtain ⟨i1,i2,i3⟩:=scl_ok h k
  obtain ⟨s1,s2,s3,s4⟩:=scl_step i1 (h k).pos
  have b:=mul_lt i2 (h k).b2
  refine ⟨s3,?_,fun i hi=>?_⟩
  ·show (scl q k * (q k).2 / gI (scl q k) (q k).2).natAbs<2 ^ (1+10 * (k+1))
   rw [show 1+10 * (k+1)=1+10 * k+10 by omega]
   omega
  ·by_cases w:i=k
   ·subst w; exact s2
   ·exact Int.dvd_trans (i3 i (by omega)) s1
theorem NumOk.bg {q:Q2}(h:NumOk q):Bg q.1/\Bg q.2:=⟨bg_of h.b1,bg_of h.b2⟩
theorem NumOk.bq {q:Q2}(h:NumOk q):Bq q.2:=bq_of h.b2
theorem scale_body {f:D}{k:Int}{q:Q2}(h1:Bg k)(h2:Bg q.2)(h4:Bq q.2)(h3:0<q.2):B_scale_of_1 [.fz f,.fz (.int k),.fz (qD q)]=.ok (.nx,[.fz f,.fz (.int (k * q.2 / gI k q.2)),.fz (qD q)]):=by
 have g0:=gI_pos (a:=k) (b:=q.2) (by omega)
 have g1:gI k q.2≠0:=by omega
 simp [B_scale_of_1,gSet,fBin,fVarB,fVar,qD,fC,gIx,ix1,gMul,h1,h2,fFn,fCons,fNil,F_common_divisor_eq,gDiv,g1,gI_bq h3 h4,dvI,g0]
theorem scale_eq {q:Nat->Q2}{k:Nat}(hk:k<=9)(h:∀i,NumOk (q i)):F_scale_of [.lst (rg k fun i=>qD (q i))]=.ok (false,.int (scl q k)):=by
 obtain ⟨m',e,z,em⟩:=loop_rg (n:=k) (f:=fun i=>qD (q i)) (h:=hName 2) (k:=B_scale_of_1) (m:=[.fz (.lst (rg k fun i=>qD (q i))),.fz (.int 1),.un]) (fun i m=>∃z,m=[.fz (.lst (rg k fun i=>qD (q i))),.fz (.int (scl q i)),z]) ⟨_,rfl⟩ fun i m hi ⟨z,em⟩=>by
  subst em
  exact ⟨_,_,rfl,scale_body (bg_of (scl_ok h i).2.1 (by omega)) (h i).bg.2 (h i).bq (h i).pos,_,rfl⟩
 subst em
 have e1:gSet 1 (fC (.int 1)) [.fz (.lst (rg k fun i=>qD (q i))),.un,.un]=.ok (.nx,[.fz (.lst (rg k fun i=>qD (q i))),.fz (.int 1),.un]):=rfl
 have e2:L_scale_of_2 [.fz (.lst (rg k fun i=>qD (q i))),.fz (.int 1),.un]=.ok (.nx,[.fz (.lst (rg k fun i=>qD (q i))),.fz (.int (scl q k)),z]):=e
 have eg:g_scale_of [.fz (.lst (rg k fun i=>qD (q i))),.un,.un]=.ok (.rt false (.int (scl q k)),Me.let [.fz (.lst (rg k fun i=>qD (q i))),.fz (.int (scl q k)),z]):=by
  unfold g_scale_of c_scale_of
  rw [seq_ok e1,seq_ok e2]
  rfl
 exact runF_rt rfl eg
theorem whole_eq {q:Nat->Q2}{S:Int}{k:Nat}(hk:k<=8)(h:∀i,NumOk (q i))(hS:∀i,Bg (S / (q i).2)):F_made_whole [.lst (rg k fun i=>qD (q i)),.int S]=.ok (true,.lst (rg k fun i=>.int ((q i).1 * (S / (q i).2)))):=by
 have ec:=comp_rg (n:=k) (f:=fun i=>qD (q i)) (h:=hName 0) (ft:=fAll) (fe:=E_made_whole_1) (m0:=[.un,.fz (.int S)]) (fun i=>.int ((q i).1 * (S / (q i).2))) fun i hi=>⟨[.fz (qD (q i)),.fz (.int S)],rfl,rfl,by
  have n0:(q i).2≠0:=by have:=(h i).pos; omega
  have p0:=(h i).pos
  have e0:gIx (qD (q i)) (.int 0)=some (.int (q i).1):=rfl
  have e1:gIx (qD (q i)) (.int 1)=some (.int (q i).2):=rfl
  simp [E_made_whole_1,fBin,fVarB,fC,e0,e1,gMul,gDiv,(h i).bg,(h i).bq,n0,dvI,p0,hS i]⟩
 have hl:k<=16777216:=by omega
 have eq:Q_made_whole_2 [.fz (.lst (rg k fun i=>qD (q i))),.fz (.int S)]=.ok (.lst (rg k fun i=>.int ((q i).1 * (S / (q i).2)))):=by
  simp [Q_made_whole_2,fComp,fItL,fVarB,cMe,Sl.bor,rg_len,hl,ec]
 have eg:g_made_whole [.fz (.lst (rg k fun i=>qD (q i))),.fz (.int S)]=.ok (.rt true (.lst (rg k fun i=>.int ((q i).1 * (S / (q i).2)))),[.fz (.lst (rg k fun i=>qD (q i))),.fz (.int S)]):=by
  unfold g_made_whole c_made_whole gRetN
  rw [show Me.let [.fz (.lst (rg k fun i=>qD (q i))),.fz (.int S)]=[.fz (.lst (rg k fun i=>qD (q i))),.fz (.int S)] from rfl,eq]
  rfl
 exact runF_rt rfl eg
structure In (m n:Nat)(a:Nat->Nat->Q2)(b w:Nat->Q2):Prop where
 m8:m<=8
 n8:n<=8
 ha:∀r i,NumOk (a r i)
 hb:∀r,NumOk (b r)
 b0:∀r,0<=(b r).1
 hw:∀i,NumOk (w i)
noncomputable def rb (m:Nat)(a:Nat->Q2)(b:Q2):Nat->Q2:=fun i=>if i<m then a i else b
noncomputable def sS (m:Nat)(a:Nat->Nat->Q2)(b:Nat->Q2)(r:Nat):Int:=scl (rb m (a r) (b r)) (m+1)
noncomputable def wS0 (m:Nat)(w:Nat->Q2):Int:=scl w m
noncomputable def tL (m n:Nat)(a:Nat->Nat->Q2)(b:Nat->Q2)(r j:Nat):Int:=if j<m then (a r j).1 * (sS m a b r / (a r j).2) else if j<m+n then (if r=j - m then 1 else 0) else (b r).1 * (sS m a b r / (b r).2)
noncomputable def wL (m:Nat)(w:Nat->Q2):Nat->Int:=fun j=>if j<m then -((w j).1 * (wS0 m w / (w j).2)) else 0
section
variable {m n:Nat}{a:Nat->Nat->Q2}{b w:Nat->Q2}
theorem rb_ok (I:In m n a b w)(r i:Nat):NumOk (rb m (a r) (b r) i):=by
 unfold rb
 split
 ·exact I.ha r i
 ·exact I.hb r
theorem s_ok (I:In m n a b w)(r:Nat):0<sS m a b r/\(sS m a b r).natAbs<2 ^ 91/\(∀i,i<m->(a r i).2 ∣ sS m a b r)/\(b r).2 ∣ sS m a b r:=by
 obtain ⟨h1,h2,h3⟩:=scl_ok (rb_ok I r) (m+1)
 have:=I.m8
 refine ⟨h1,lt_mono h2 (by omega),fun i hi=>?_,?_⟩
 ·have:=h3 i (by omega)
  unfold rb at this
  rwa [if_pos hi] at this
 ·have:=h3 m (by omega)
  unfold rb at this
  rwa [if_neg (by omega)] at this
theorem ws_ok (I:In m n a b w):0<wS0 m w/\(wS0 m w).natAbs<2 ^ 91/\∀i,i<m->(w i).2 ∣ wS0 m w:=by
 obtain ⟨h1,h2,h3⟩:=scl_ok I.hw m
 have:=I.m8
 exact ⟨h1,lt_mono h2 (by omega),h3⟩
theorem quo_lt {k q:Int}(hq:0<q)(hk:0<k)(h:k.natAbs<2 ^ 91):(k / q).natAbs<2 ^ 91:=by
 have h1:=Int.ediv_le_self q (Int.le_of_lt hk)
 have h2:=Int.ediv_nonneg (Int.le_of_lt hk) (Int.le_of_lt hq)
 omega
theorem t_lt (I:In m n a b w)(r j:Nat):(tL m n a b r j).natAbs<2 ^ 121:=by
 obtain ⟨h1,h2,_⟩:=s_ok I r
 unfold tL
 split
 ·exact mul_lt (I.ha r j).b1 (quo_lt (I.ha r j).pos h1 h2)
 ·split
  ·split <;> decide
  ·exact mul_lt (I.hb r).b1 (quo_lt (I.hb r).pos h1 h2)
theorem w_lt (I:In m n a b w)(j:Nat):(wL m w j).natAbs<2 ^ 121:=by
 obtain ⟨h1,h2,_⟩:=ws_ok I
 unfold wL
 split
 ·rw [Int.natAbs_neg]; exact mul_lt (I.hw j).b1 (quo_lt (I.hw j).pos h1 h2)
 ·decide
theorem fct_le:∀n,n<=8->Sx.fct n<=40320:=by decide
theorem lp_of (I:In m n a b w):LP m n (tL m n a b) (wL m w) (2 ^ 121) (2 ^ 121):=by
 have h8:=I.n8
 have p1:(2 ^ 121:Nat) ^ n<=2 ^ 968:=by
  rw [← Nat.pow_mul]
  exact Nat.pow_le_pow_right (by decide) (by omega)
 have p2:Sx.fct n * (2 ^ 121) ^ n<=40320 * 2 ^ 968:=Nat.mul_le_mul (fct_le n h8) p1
 refine ⟨I.m8,I.n8,⟨fun i hi k hk=>?_,fun i hi=>?_⟩,fun j hj=>if_neg (by omega),⟨fun i hi j hj=>Nat.le_of_lt (t_lt I i j)⟩,fun j hj=>Nat.le_of_lt (w_lt I j),Nat.lt_of_le_of_lt p2 (by decide),?_⟩
 ·unfold tL
  rw [if_neg (by omega),if_pos (by omega)]
  by_cases q:i=k
  ·rw [if_pos q,if_pos (by omega)]
  ·rw [if_neg q,if_neg (by omega)]
 ·unfold tL
  rw [if_neg (by omega),if_neg (by omega)]
  exact Int.mul_nonneg (I.b0 i) (Int.ediv_nonneg (Int.le_of_lt (s_ok I i).1) (Int.le_of_lt (I.hb i).pos))
 ·refine Nat.lt_of_le_of_lt (Nat.mul_le_mul (show n+1<=9 by omega) (Nat.mul_le_mul_right (2 ^ 121) p2)) (by decide)
end
open PySem L2 Hd F
section
variable {m n:Nat}{a:Nat->Nat->Q2}{b w:Nat->Q2}
noncomputable def rowD (m:Nat)(a:Nat->Q2):D:=.lst (rg m fun i=>qD (a i))
noncomputable def rowsD (m n:Nat)(a:Nat->Nat->Q2):D:=.lst (rg n fun r=>rowD m (a r))
theorem quo_bg {k q:Int}(hq:0<q)(hk:0<k)(h:k.natAbs<2 ^ 91):Bg (k / q):=bg_of (quo_lt hq hk h)
theorem fn_ok {Φ:List D->Res (Bool×D)}{fs:Me->Res (List D)}{x:Me}{ds:List D}{c:Bool}{d:D}(h:fs x=.ok ds)(h2:Φ ds=.ok (c,d)):fFn Φ fs x=.ok d:=by
 unfold fFn
 rw [h,Res.bind_ok,h2]
 rfl
theorem rg_app {f g:Nat->D}:∀k,rg n f++rg k g=rg (n+k) fun j=>if j<n then f j else g (j - n)
 |0=>by
  show rg n f++[]=_
  rw [List.append_nil]
  exact rg_ext fun i hi=>by rw [if_pos hi]
 |k+1=>by
  rw [rg_snoc,← List.append_assoc,rg_app k]
  show _=rg (n+k+1) _
  rw [rg_snoc,if_neg (by omega),Nat.add_sub_cancel_left]
theorem line_eq {o:D}(I:In m n a b w)(ho:gFld "Corner" "scales" o=some (iL n (sS m a b))){r:Nat}(hr:r<n):F_Corner_first_line [o,.int r,rowD m (a r),qD (b r)]=.ok (true,iL (m+n+1) (tL m n a b r)):=by
 obtain ⟨s1,s2,_⟩:=s_ok I r
 have h8:=I.m8
 have n8:=I.n8
 have wa:F_made_whole [rowD m (a r),.int (sS m a b r)]=.ok (true,.lst (rg m fun i=>.int ((a r i).1 * (sS m a b r / (a r i).2)))):=whole_eq h8 (I.ha r) fun i=>quo_bg (I.ha r i).pos s1 s2
 have wb:F_made_whole [.lst [qD (b r)],.int (sS m a b r)]=.ok (true,.lst [.int ((b r).1 * (sS m a b r / (b r).2))]):=whole_eq (k:=1) (q:=fun _=>b r) (by decide) (fun _=>I.hb r) fun i=>quo_bg (I.hb r).pos s1 s2
 have hln:n<=16777216:=by omega
 have e1:Q_Corner_first_line_2 [.fz o,.fz (.int r),.fz (rowD m (a r)),.fz (qD (b r)),.un,.un]=.ok (.lst (rg n fun k=>.int (if r=k then 1 else 0))):=by
  have ei:=itR (f:=fCons (fCall gLen (fCons (fFld "Corner" "scales" (fVarB 0)) fNil)) fNil) (m:=[.fz o,.fz (.int r),.fz (rowD m (a r)),.fz (qD (b r)),.un,.un]) (j:=n) (n:=n) (by simp [fCons,fNil,fCall,fFld,fVarB,ho,gLen,iL,rg_len]) rfl (by omega)
  have ec:=comp_rg (n:=n) (f:=fun i=>.int i) (h:=hName 0) (ft:=fAll) (fe:=E_Corner_first_line_1) (m0:=[.un,.fz (.int r)]) (fun k=>.int (if r=k then 1 else 0)) fun k hk=>⟨[.fz (.int k),.fz (.int r)],rfl,rfl,by
   by_cases q:r=k
   ·simp [E_Corner_first_line_1,fIf,fCmpT,fVarB,fC,q]
   ·have q':¬(k:Int)=r:=by omega
    simp [E_Corner_first_line_1,fIf,fCmpT,fVarB,fC,q,q']⟩
  unfold Q_Corner_first_line_2 fComp
  rw [ei]
  simp [cMe,Sl.bor,rg_len,hln,ec]
 have e2:gIx (iL n (sS m a b)) (.int r)=some (.int (sS m a b r)):=ix_col hr
 have e3:(rg m fun i=>D.int ((a r i).1 * (sS m a b r / (a r i).2)))++(rg n fun k=>D.int (if r=k then 1 else 0))++[D.int ((b r).1 * (sS m a b r / (b r).2))]=rg (m+n+1) fun j=>D.int (tL m n a b r j):=by
  rw [rg_app,rg_snoc (n:=m+n)]
  congr 1
  ·refine rg_ext fun j hj=>?_
   unfold tL
   by_cases q:j<m
   ·rw [if_pos q,if_pos q]
   ·rw [if_neg q,if_neg q,if_pos hj]
  ·unfold tL
   rw [if_neg (by omega),if_neg (by omega)]
 have hl:m+n<=sizeLine:=by rw [szl]; omega
 have hl2:m+n+1<=sizeLine:=by rw [szl]; omega
 generalize hrs:(rg n fun k=>D.int (if r=k then 1 else 0))=rs at *
 have hrl:rs.length=n:=by rw [← hrs,rg_len]
 have f1:gSet 4 Q_Corner_first_line_2 [.fz o,.fz (.int r),.fz (rowD m (a r)),.fz (qD (b r)),.un,.un]=.ok (.nx,[.fz o,.fz (.int r),.fz (rowD m (a r)),.fz (qD (b r)),.fz (.lst rs),.un]):=by
  unfold gSet; rw [e1]; rfl
 have f2:gSet 5 (fBin gIx (fFld "Corner" "scales" (fVarB 0)) (fVarB 1)) [.fz o,.fz (.int r),.fz (rowD m (a r)),.fz (qD (b r)),.fz (.lst rs),.un]=.ok (.nx,[.fz o,.fz (.int r),.fz (rowD m (a r)),.fz (qD (b r)),.fz (.lst rs),.fz (.int (sS m a b r))]):=by
  simp [gSet,fBin,fFld,fVarB,ho,e2]
 have f3:(fBin gCatL (fBin gAdd (fFn F_made_whole (fCons (fVar 2) (fCons (fVar 5) fNil))) (fVarB 4)) (fFn F_made_whole (fCons (fLst (fCons (fVar 3) fNil)) (fCons (fVar 5) fNil)))) [.fz o,.fz (.int r),.fz (rowD m (a r)),.fz (qD (b r)),.fz (.lst rs),.fz (.int (sS m a b r))]=.ok (.lst (rg (m+n+1) fun j=>D.int (tL m n a b r j))):=by
  have g1:=fn_ok (fs:=fCons (fVar 2) (fCons (fVar 5) fNil)) (x:=[.fz o,.fz (.int r),.fz (rowD m (a r)),.fz (qD (b r)),.fz (.lst rs),.fz (.int (sS m a b r))]) rfl wa
  have g2:=fn_ok (fs:=fCons (fLst (fCons (fVar 3) fNil)) (fCons (fVar 5) fNil)) (x:=[.fz o,.fz (.int r),.fz (rowD m (a r)),.fz (qD (b r)),.fz (.lst rs),.fz (.int (sS m a b r))]) (ds:=[.lst [qD (b r)],.int (sS m a b r)]) (by simp [fCons,fNil,fLst,fVar]) wb
  unfold fBin
  rw [g1,g2,Res.bind_ok,show fVarB 4 [.fz o,.fz (.int r),.fz (rowD m (a r)),.fz (qD (b r)),.fz (.lst rs),.fz (.int (sS m a b r))]=.ok (.lst rs) from rfl,Res.bind_ok]
  have k1:gAdd (.lst (rg m fun i=>D.int ((a r i).1 * (sS m a b r / (a r i).2)))) (.lst rs)=some (.lst ((rg m fun i=>D.int ((a r i).1 * (sS m a b r / (a r i).2)))++rs)):=by
   show (if (rg m fun i=>D.int ((a r i).1 * (sS m a b r / (a r i).2))).length+rs.length<=sizeLine then _ else _)=_
   rw [rg_len,hrl,if_pos hl]
  have k2:gCatL (.lst ((rg m fun i=>D.int ((a r i).1 * (sS m a b r / (a r i).2)))++rs)) (.lst [.int ((b r).1 * (sS m a b r / (b r).2))])=some (.lst ((rg m fun i=>D.int ((a r i).1 * (sS m a b r / (a r i).2)))++rs++[.int ((b r).1 * (sS m a b r / (b r).2))])):=by
   show (if ((rg m fun i=>D.int ((a r i).1 * (sS m a b r / (a r i).2)))++rs).length+1<=sizeLine then _ else _)=_
   rw [List.length_append,rg_len,hrl]
   exact if_pos hl2
  rw [k1,ofO_some,Res.bind_ok,Res.bind_ok,k2,e3]
  rfl
 have eg:g_Corner_first_line [.fz o,.fz (.int r),.fz (rowD m (a r)),.fz (qD (b r)),.un,.un]=.ok (.rt true (iL (m+n+1) (tL m n a b r)),[.fz o,.fz (.int r),.fz (rowD m (a r)),.fz (qD (b r)),.fz (.lst rs),.fz (.int (sS m a b r))]):=by
  unfold g_Corner_first_line c_Corner_first_line
  rw [seq_ok f1,seq_ok f2]
  unfold gRetN
  rw [show Me.let [.fz o,.fz (.int r),.fz (rowD m (a r)),.fz (qD (b r)),.fz (.lst rs),.fz (.int (sS m a b r))]=[.fz o,.fz (.int r),.fz (rowD m (a r)),.fz (qD (b r)),.fz (.lst rs),.fz (.int (sS m a b r))] from rfl,f3]
  rfl
 exact runF_rt rfl eg
theorem wline_eq {o:D}(I:In m n a b w)(ho:gFld "Corner" "scales" o=some (iL n (sS m a b)))(hs:gFld "Corner" "wish_scales" o=some (.lst [.int (wS0 m w)])):F_Corner_first_wish_line [o,.int 0,rowD m w]=.ok (true,iL (m+n+1) (wL m w)):=by
 obtain ⟨s1,s2,_⟩:=ws_ok I
 have h8:=I.m8
 have n8:=I.n8
 have ww:F_made_whole [rowD m w,.int (wS0 m w)]=.ok (true,.lst (rg m fun i=>.int ((w i).1 * (wS0 m w / (w i).2)))):=whole_eq h8 I.hw fun i=>quo_bg (I.hw i).pos s1 s2
 have e3:gIx (.lst [.int (wS0 m w)]) (.int 0)=some (.int (wS0 m w)):=rfl
 have f1:gSet 3 (fFn F_made_whole (fCons (fVar 2) (fCons (fBin gIx (fFld "Corner" "wish_scales" (fVarB 0)) (fVarB 1)) fNil))) [.fz o,.fz (.int 0),.fz (rowD m w),.un]=.ok (.nx,[.fz o,.fz (.int 0),.fz (rowD m w),.fz (.lst (rg m fun i=>.int ((w i).1 * (wS0 m w / (w i).2))))]):=by
  have g:=fn_ok (fs:=fCons (fVar 2) (fCons (fBin gIx (fFld "Corner" "wish_scales" (fVarB 0)) (fVarB 1)) fNil)) (x:=[.fz o,.fz (.int 0),.fz (rowD m w),.un]) (ds:=[rowD m w,.int (wS0 m w)]) (by simp [fCons,fNil,fVar,fBin,fFld,fVarB,hs,e3]) ww
  unfold gSet
  rw [g]
  rfl
 have hl:m<=16777216:=by omega
 have hln:n<=16777216:=by omega
 have q1:Q_Corner_first_wish_line_2 [.fz o,.fz (.int 0),.fz (rowD m w),.fz (.lst (rg m fun i=>.int ((w i).1 * (wS0 m w / (w i).2))))]=.ok (.lst (rg m fun i=>.int (-((w i).1 * (wS0 m w / (w i).2))))):=by
  have ec:=comp_rg (n:=m) (f:=fun i=>.int ((w i).1 * (wS0 m w / (w i).2))) (h:=hName 0) (ft:=fAll) (fe:=E_Corner_first_wish_line_1) (m0:=[.un]) (fun i=>.int (-((w i).1 * (wS0 m w / (w i).2)))) fun i hi=>⟨_,rfl,rfl,rfl⟩
  simp [Q_Corner_first_wish_line_2,fComp,fItL,fVarB,cMe,rg_len,hl,ec]
 have q2:Q_Corner_first_wish_line_4 [.fz o,.fz (.int 0),.fz (rowD m w),.fz (.lst (rg m fun i=>.int ((w i).1 * (wS0 m w / (w i).2))))]=.ok (.lst (rg n fun _=>.int 0)):=by
  have ec:=comp_rg (n:=n) (f:=fun i=>.int (sS m a b i)) (h:=hName 0) (ft:=fAll) (fe:=E_Corner_first_wish_line_3) (m0:=[.un]) (fun _=>.int 0) fun i hi=>⟨_,rfl,rfl,rfl⟩
  simp [Q_Corner_first_wish_line_4,fComp,fItL,fFld,fVarB,ho,iL,cMe,rg_len,hln,ec]
 have e4:(rg m fun i=>D.int (-((w i).1 * (wS0 m w / (w i).2))))++(rg n fun _=>D.int 0)++[D.int 0]=rg (m+n+1) fun j=>D.int (wL m w j):=by
  rw [rg_app,rg_snoc (n:=m+n)]
  congr 1
  ·refine rg_ext fun j hj=>?_
   unfold wL
   by_cases q:j<m
   ·rw [if_pos q,if_pos q]
   ·rw [if_neg q,if_neg q]
  ·unfold wL
   rw [if_neg (by omega)]
 have hl1:m+n<=sizeLine:=by rw [szl]; omega
 have hl2:m+n+1<=sizeLine:=by rw [szl]; omega
 have f3:(fBin gCatL (fBin gAdd Q_Corner_first_wish_line_2 Q_Corner_first_wish_line_4) (fLst (fCons (fC (.int 0)) fNil))) [.fz o,.fz (.int 0),.fz (rowD m w),.fz (.lst (rg m fun i=>.int ((w i).1 * (wS0 m w / (w i).2))))]=.ok (.lst (rg (m+n+1) fun j=>D.int (wL m w j))):=by
  unfold fBin
  rw [q1,q2,Res.bind_ok,Res.bind_ok]
  have k1:gAdd (.lst (rg m fun i=>D.int (-((w i).1 * (wS0 m w / (w i).2))))) (.lst (rg n fun _=>.int 0))=some (.lst ((rg m fun i=>D.int (-((w i).1 * (wS0 m w / (w i).2))))++rg n fun _=>.int 0)):=by
   show (if (rg m fun i=>D.int (-((w i).1 * (wS0 m w / (w i).2)))).length+(rg n fun _=>D.int 0).length<=sizeLine then _ else _)=_
   rw [rg_len,rg_len,if_pos hl1]
  have k2:gCatL (.lst ((rg m fun i=>D.int (-((w i).1 * (wS0 m w / (w i).2))))++rg n fun _=>.int 0)) (.lst [.int 0])=some (.lst (((rg m fun i=>D.int (-((w i).1 * (wS0 m w / (w i).2))))++rg n fun _=>.int 0)++[.int 0])):=by
   show (if ((rg m fun i=>D.int (-((w i).1 * (wS0 m w / (w i).2))))++rg n fun _=>D.int 0).length+1<=sizeLine then _ else _)=_
   rw [List.length_append,rg_len,rg_len]
   exact if_pos hl2
  rw [k1,ofO_some,Res.bind_ok,show fLst (fCons (fC (.int 0)) fNil) [.fz o,.fz (.int 0),.fz (rowD m w),.fz (.lst (rg m fun i=>.int ((w i).1 * (wS0 m w / (w i).2))))]=.ok (.lst [.int 0]) from rfl,Res.bind_ok,k2,e4]
  rfl
 have eg:g_Corner_first_wish_line [.fz o,.fz (.int 0),.fz (rowD m w),.un]=.ok (.rt true (iL (m+n+1) (wL m w)),[.fz o,.fz (.int 0),.fz (rowD m w),.fz (.lst (rg m fun i=>.int ((w i).1 * (wS0 m w / (w i).2))))]):=by
  unfold g_Corner_first_wish_line c_Corner_first_wish_line
  rw [seq_ok f1]
  unfold gRetN
  rw [show Me.let [.fz o,.fz (.int 0),.fz (rowD m w),.fz (.lst (rg m fun i=>.int ((w i).1 * (wS0 m w / (w i).2))))]=[.fz o,.fz (.int 0),.fz (rowD m w),.fz (.lst (rg m fun i=>.int ((w i).1 * (wS0 m w / (w i).2))))] from rfl,f3]
  rfl
 exact runF_rt rfl eg
theorem seqI_ok {g:Me->Res (Fl×Me)}{h:Me->Res (Me×D)}{x x':Me}(e:g x=.ok (.nx,x')):gSeqI g h x=h x':=by unfold gSeqI; rw [e]
noncomputable def bndsD (n:Nat)(b:Nat->Q2):D:=.lst (rg n fun r=>qD (b r))
noncomputable def st (m n:Nat)(a:Nat->Nat->Q2)(b w:Nat->Q2)(ns:List Str)(ds:List D):Me:=[.io (.ins "Corner" ns ds),.fz (rowsD m n a),.fz (bndsD n b),.fz (.lst [rowD m w])]
theorem st_set {ns:List Str}{ds:List D}{f:Str}{g:Me->Res D}{d:D}{ns':List Str}{ds':List D}(hl:ns.length<999)(hg:g (st m n a b w ns ds)=.ok d)(hp:putS ns ds f d=(ns',ds')):gFldSet 0 "Corner" f g (st m n a b w ns ds)=.ok (.nx,st m n a b w ns' ds'):=by
 have:=set_fld (i:=0) (f:=f) (m:=st m n a b w ns ds) rfl hg hl
 rw [hp] at this
 exact this
theorem ob_of {x:Str}{ns:List Str}{ds:List D}(hm:ns.contains x=false):isOb "Corner" x (.ins "Corner" ns ds)=true:=by
 show (decide (Str.ofString "Corner" = Str.ofString "Corner") && !ns.contains x)=true
 rw [hm]; simp
theorem init_scales (I:In m n a b w){ns:List Str}{ds:List D}:Q_Corner___init___2 (st m n a b w ns ds)=.ok (iL n (sS m a b)):=by
 have hl:m+1<=16777216:=by have:=I.m8; omega
 have hn:n<=16777216:=by have:=I.n8; omega
 have ec:=comp_rg (n:=n) (f:=fun r=>.tup [rowD m (a r),qD (b r)]) (h:=hTup 2 (hCons (hName 0) (hCons (hName 1) hNil))) (ft:=fAll) (fe:=E_Corner___init___1) (m0:=[.un,.un]) (fun r=>.int (sS m a b r)) fun r hr=>⟨[.fz (rowD m (a r)),.fz (qD (b r))],rfl,rfl,by
  have e:=scale_eq (k:=m+1) (by have:=I.m8; omega) (rb_ok I r)
  have er:(rg (m+1) fun i=>qD (rb m (a r) (b r) i))=(rg m fun i=>qD (a r i))++[qD (b r)]:=by
   rw [rg_snoc,show rb m (a r) (b r) m=b r from if_neg (by omega),rg_ext (g:=fun i=>qD (a r i)) fun i hi=>by rw [show rb m (a r) (b r) i=a r i from if_pos hi]]
  rw [er] at e
  refine fn_ok (ds:=[.lst ((rg m fun i=>qD (a r i))++[qD (b r)])]) ?_ e
  simp [fCons,fNil,fBin,fVarB,fLst,fVar,gAdd,rowD,rg_len,hl]⟩
 unfold Q_Corner___init___2 fComp
 rw [show fItZ (fCons (fVarB 1) (fCons (fVarB 2) fNil)) (st m n a b w ns ds)=.ok (rg n fun r=>.tup [rowD m (a r),qD (b r)]) by simp [fItZ,fCons,fNil,fVarB,st,rowsD,bndsD,rg_zip]]
 simp [cMe,rg_len,hn,ec]
 rfl
theorem init_ws (I:In m n a b w){ns:List Str}{ds:List D}:Q_Corner___init___4 (st m n a b w ns ds)=.ok (.lst [.int (wS0 m w)]):=by
 have e:=scale_eq (k:=m) (by have:=I.m8; omega) I.hw
 have ee:E_Corner___init___3 [.fz (rowD m w)]=.ok (.int (wS0 m w)):=fn_ok (ds:=[rowD m w]) rfl e
 simp [Q_Corner___init___4,fComp,fItL,fVarB,st,cMe,compL,hName,fAll,ee]
theorem init_lines (I:In m n a b w){ns:List Str}{ds:List D}(hm:ns.contains "first_line" = false)(ho:gFld "Corner" "scales" (.ins "Corner" ns ds)=some (iL n (sS m a b))):Q_Corner___init___6 (st m n a b w ns ds)=.ok (.lst (rg n fun r=>iL (m+n+1) (tL m n a b r))):=by
 have hn:n<=16777216:=by have:=I.n8; omega
 have ei:=itR (f:=fCons (fCall gLen (fCons (fVarB 1) fNil)) fNil) (m:=st m n a b w ns ds) (j:=n) (n:=n) (by simp [fCons,fNil,fCall,fVarB,st,rowsD,gLen,rg_len]) rfl (by have:=I.n8; omega)
 have ec:=comp_rg (n:=n) (f:=fun i=>.int i) (h:=hName 0) (ft:=fAll) (fe:=E_Corner___init___5) (m0:=[.un,.bw (.ins "Corner" ns ds),.fz (rowsD m n a),.fz (bndsD n b)]) (fun r=>iL (m+n+1) (tL m n a b r)) fun r hr=>⟨[.fz (.int r),.bw (.ins "Corner" ns ds),.fz (rowsD m n a),.fz (bndsD n b)],rfl,rfl,by
  have g1:gIx (rowsD m n a) (.int r)=some (rowD m (a r)):=rg_at hr
  have g2:gIx (bndsD n b) (.int r)=some (qD (b r)):=rg_at hr
  exact mt1 (o:=.ins "Corner" ns ds) (ds:=[.int r,rowD m (a r),qD (b r)]) (b:=true) rfl (ob_of hm) (by simp [fCons,fNil,fBin,fVarB,g1,g2]) (line_eq I ho hr) okr_iL⟩
 unfold Q_Corner___init___6 fComp
 rw [ei]
 simp [cMe,Sl.bor,st,rg_len,hn,ec]
theorem init_wl (I:In m n a b w){ns:List Str}{ds:List D}(hm:ns.contains "first_wish_line" = false)(ho:gFld "Corner" "scales" (.ins "Corner" ns ds)=some (iL n (sS m a b)))(hs:gFld "Corner" "wish_scales" (.ins "Corner" ns ds)=some (.lst [.int (wS0 m w)])):Q_Corner___init___8 (st m n a b w ns ds)=.ok (.lst [iL (m+n+1) (wL m w)]):=by
 have ee:E_Corner___init___7 [.fz (.int 0),.fz (rowD m w),.bw (.ins "Corner" ns ds)]=.ok (iL (m+n+1) (wL m w)):=mt1 (o:=.ins "Corner" ns ds) (ds:=[.int 0,rowD m w]) (b:=true) rfl (ob_of hm) rfl (wline_eq I ho hs) okr_iL
 simp [Q_Corner___init___8,fComp,fItE,fCons,fNil,fVarB,st,enumD,cMe,Sl.bor,compL,hTup,hCons,hName,hNil,fAll,ee]
theorem init_held {ns:List Str}{ds:List D}(hn:n<=8)(ho:gFld "Corner" "wide" (.ins "Corner" ns ds)=some (.int m)):Q_Corner___init___10 (st m n a b w ns ds)=.ok (hD n fun r=>m+r):=by
 have hl:n<=16777216:=by omega
 have ei:=itR (f:=fCons (fCall gLen (fCons (fVarB 1) fNil)) fNil) (m:=st m n a b w ns ds) (j:=n) (n:=n) (by simp [fCons,fNil,fCall,fVarB,st,rowsD,gLen,rg_len]) rfl (by omega)
 have ec:=comp_rg (n:=n) (f:=fun i=>.int i) (h:=hName 0) (ft:=fAll) (fe:=E_Corner___init___9) (m0:=[.un,.bw (.ins "Corner" ns ds)]) (fun r=>.int ((m+r:Nat):Int)) fun r hr=>⟨[.fz (.int r),.bw (.ins "Corner" ns ds)],rfl,rfl,by
  simp [E_Corner___init___9,fBin,fFld,fVarB,ho,gAdd]⟩
 unfold Q_Corner___init___10 fComp
 rw [ei]
 simp [cMe,Sl.bor,st,rg_len,hl,ec]
 rfl
noncomputable def n6:List Str:=["wide", "scales", "wish_scales", "lines", "wish_lines", "bottom"]
noncomputable def d6 (m n:Nat)(a:Nat->Nat->Q2)(b w:Nat->Q2):List D:=[.int m,iL n (sS m a b),.lst [.int (wS0 m w)],.lst (rg n fun r=>iL (m+n+1) (tL m n a b r)),.lst [iL (m+n+1) (wL m w)],.int 1]
theorem init_eq (I:In m n a b w):F_Corner___init__ [rowsD m n a,bndsD n b,.lst [rowD m w]]=.ok (n6,d6 m n a b w,hD n fun r=>m+r):=by
 have s1:=st_set (m:=m) (n:=n) (a:=a) (b:=b) (w:=w) (ns:=[]) (ds:=[]) (f:="wide") (g:=fCall gLen (fCons (fBin gIx (fVarB 3) (fC (.int 0))) fNil)) (d:=.int m) (by decide) (by
  have e0:gIx (.lst [rowD m w]) (.int 0)=some (rowD m w):=rfl
  have e1:gLen [rowD m w]=some (.int m):=by simp [gLen,rowD,rg_len]
  simp [fCall,fCons,fNil,fBin,fVarB,st,fC,e0,e1]) rfl
 have s2:=st_set (f:="scales") (ns':=["wide", "scales"]) (ds':=[.int m,iL n (sS m a b)]) (by decide) (init_scales I (ns:=["wide"]) (ds:=[.int m])) (by simp [putS])
 have s3:=st_set (f:="wish_scales") (ns':=["wide", "scales", "wish_scales"]) (ds':=[.int m,iL n (sS m a b),.lst [.int (wS0 m w)]]) (by decide) (init_ws I (ns:=["wide", "scales"]) (ds:=[.int m,iL n (sS m a b)])) (by simp [putS])
 have s4:=st_set (f:="lines") (ns':=["wide", "scales", "wish_scales", "lines"]) (ds':=[.int m,iL n (sS m a b),.lst [.int (wS0 m w)],.lst (rg n fun r=>iL (m+n+1) (tL m n a b r))]) (by decide) (init_lines I (ns:=["wide", "scales", "wish_scales"]) (ds:=[.int m,iL n (sS m a b),.lst [.int (wS0 m w)]]) (by decide) (by simp [gFld,valS])) (by simp [putS])
 have s5:=st_set (f:="wish_lines") (ns':=["wide", "scales", "wish_scales", "lines", "wish_lines"]) (ds':=[.int m,iL n (sS m a b),.lst [.int (wS0 m w)],.lst (rg n fun r=>iL (m+n+1) (tL m n a b r)),.lst [iL (m+n+1) (wL m w)]]) (by decide) (init_wl I (ns:=["wide", "scales", "wish_scales", "lines"]) (ds:=[.int m,iL n (sS m a b),.lst [.int (wS0 m w)],.lst (rg n fun r=>iL (m+n+1) (tL m n a b r))]) (by decide) (by simp [gFld,valS]) (by simp [gFld,valS])) (by simp [putS])
 have s6:=st_set (m:=m) (n:=n) (a:=a) (b:=b) (w:=w) (f:="bottom") (ns':=n6) (ds':=d6 m n a b w) (ns:=["wide", "scales", "wish_scales", "lines", "wish_lines"]) (ds:=[.int m,iL n (sS m a b),.lst [.int (wS0 m w)],.lst (rg n fun r=>iL (m+n+1) (tL m n a b r)),.lst [iL (m+n+1) (wL m w)]]) (g:=fC (.int 1)) (d:=.int 1) (by decide) rfl (by simp [putS,n6,d6])
 have s7:=init_held (m:=m) (n:=n) (a:=a) (b:=b) (w:=w) (ns:=n6) (ds:=d6 m n a b w) I.n8 (by simp [gFld,n6,d6,valS])
 have e:g_Corner___init__ (st m n a b w [] [])=.ok (st m n a b w n6 (d6 m n a b w),hD n fun r=>m+r):=by
  unfold g_Corner___init__ c_Corner___init__
  rw [seqI_ok s1]
  refine (seqI_ok s2).trans ?_
  rw [seqI_ok s3,seqI_ok s4,seqI_ok s5,seqI_ok s6]
  have ob:isOb "Corner" "" ((ioAtP (st m n a b w n6 (d6 m n a b w)) 0).getD .non)=true:=ob_of (by decide)
  rw [if_pos ob]
  unfold gLastI
  rw [s7]
  rfl
 unfold F_Corner___init__ runI
 rw [if_pos (show [rowsD m n a,bndsD n b,D.lst [rowD m w]].length+1=4 from rfl)]
 show (match g_Corner___init__ (st m n a b w [] []) with | .ok (m',d)=>_ | _=>_)=_
 rw [e]
 show (if Str.ofString "Corner" = Str.ofString "Corner"/\n6.length<999 then _ else _)=_
 rw [if_pos ⟨rfl,by decide⟩]
end
open PySem L2 Hd F
open Sx (Crn CInv wv turn sm det)
section
variable {m n:Nat}{a:Nat->Nat->Q2}{b w:Nat->Q2}
theorem refuse_eq (hm:m<=8)(hn:n<=8):F_refuse_great_seeking [rowsD m n a,rowD m w]=.ok (false,.non):=by
 have h:¬8<(m:Int):=by omega
 have h':¬8<(n:Int):=by omega
 simp [F_refuse_great_seeking,runF,g_refuse_great_seeking,c_refuse_great_seeking,gSeq,gIf,fCmpT,fCall,gLen,fCons,fNil,fVarB,rowD,rowsD,rg_len,fC,gGt,gLt,h,h',gNx]
noncomputable def s6 (m n:Nat)(a:Nat->Nat->Q2)(b w:Nat->Q2)(o:D)(x:Sl)(y:Addr)(H:D):Me:=[.fz (rowsD m n a),.fz (bndsD n b),.fz (rowD m w),.ow o,x,.hd true y H]
noncomputable def kS : Me → Res (Fl × Me) := gSeq (gSetX 4 (fxM "Corner" "climb" F_Corner_climb 3 5 (fCons (fC (.int 0)) fNil)))
 (gSeq (gIf (fCmpT gIsnt (fVarB 4) (fC .non)) (gRetT (fConsF (fC (.str "endless")) (fConsN (fMtN "Corner" "fit" F_Corner_fit (fView 3 5) fNil) (fConsN (fMtN "Corner" "way_along" F_Corner_way_along (fView 3 5) (fCons (fVarB 4) fNil)) fNil)))) gNx)
 (gRetT (fConsF (fC (.str "best")) (fConsN (fMtN "Corner" "fit" F_Corner_fit (fView 3 5) fNil) (fConsN (fMtN "Corner" "prices" F_Corner_prices (fView 3 5) (fCons (fC (.int 0)) fNil)) fNil)))))
noncomputable def oS (m n:Nat)(a:Nat->Nat->Q2)(b w:Nat->Q2)(D:Crn)(h:F.D):F.D:=oD m n (sS m a b) (wS0 m w) (wL m w) D h
theorem o_first (I:In m n a b w){y:Addr}:F.D.ins "Corner" fN (d6 m n a b w++[.adr y])=oS m n a b w (D0 m (tL m n a b)) (.adr y):=by
 show obj m n (sS m a b) (wS0 m w) (tL m n a b) (wL m w) 1 (.adr y)=_
 refine obj_ext (fun r hr j hj=>(cc_is (D:=D0 m (tL m n a b)) hr hj).symm) fun j hj=>?_
 rw [cw_is hj]
 show wL m w j=1 * wL m w j - sm n fun r=>tL m n a b r j * wL m w (m+r)
 rw [Sx.sm_zero fun r _=>by rw [show wL m w (m+r)=0 from if_neg (by omega),Int.mul_zero]]
 omega
theorem solve_run (I:In m n a b w){r:D}(hk:∀y,∃m',kS (s6 m n a b w (oS m n a b w (D0 m (tL m n a b)) (.adr y)) .un y (hD n fun r=>m+r))=.ok (.rt true r,m')/\m'.length=6):F_solve [rowsD m n a,bndsD n b,rowD m w]=.ok (true,r):=by
 have e1:gEx (fFn F_refuse_great_seeking (fCons (fVar 0) (fCons (fVar 2) fNil))) [.fz (rowsD m n a),.fz (bndsD n b),.fz (rowD m w),.un,.un,.un]=.ok (.nx,[.fz (rowsD m n a),.fz (bndsD n b),.fz (rowD m w),.un,.un,.un]):=by
  unfold gEx
  rw [fn_ok (ds:=[rowsD m n a,rowD m w]) rfl (refuse_eq I.m8 I.n8)]
  rfl
 have ep:∀y,putS n6 (d6 m n a b w) "held_columns" (.adr y)=(fN,(d6 m n a b w)++[.adr y]):=fun y=>by simp [putS,n6,d6,fN]
 have e2:gNewO 3 5 "Corner" "held_columns" F_Corner___init__ (fCons (fVar 0) (fCons (fVar 1) (fCons (fLst (fCons (fVar 2) fNil)) fNil))) kS [.fz (rowsD m n a),.fz (bndsD n b),.fz (rowD m w),.un,.un,.un]=.ok (.rt true r,[.un,.un,.un,.un,.un,.un]):=by
  unfold gNewO
  rw [show (fCons (fVar 0) (fCons (fVar 1) (fCons (fLst (fCons (fVar 2) fNil)) fNil))) [.fz (rowsD m n a),.fz (bndsD n b),.fz (rowD m w),.un,.un,.un]=.ok [rowsD m n a,bndsD n b,.lst [rowD m w]] by simp [fCons,fNil,fVar,fLst],Res.bind_ok,init_eq I]
  simp only []
  rw [if_pos ⟨(show 3<6 by decide),(show 5<6 by decide)⟩]
  refine gUni1_eq fun y=>?_
  rw [ep y]
  have:=hk y
  rw [← o_first I] at this
  exact this
 have e3:g_solve [.fz (rowsD m n a),.fz (bndsD n b),.fz (rowD m w),.un,.un,.un]=.ok (.rt true r,[.un,.un,.un,.un,.un,.un]):=by
  unfold g_solve c_solve
  rw [seq_ok e1]
  exact e2
 exact runF_rt rfl e3
theorem climb_step {o o' x H H':D}{y:Addr}(ho:isOb "Corner" "climb" o=true)(e:F_Corner_climb [.int 0] o (y,H)=.ok (x,o',H')):gSetX 4 (fxM "Corner" "climb" F_Corner_climb 3 5 (fCons (fC (.int 0)) fNil)) (s6 m n a b w o .un y H)=.ok (.nx,s6 m n a b w o' (.fz x) y H'):=by
 simp [gSetX,fxM,ownA,hdAt,s6,ho,fCons,fNil,fC,e,putA]
theorem ret_tup {t:Str}{f g:Me->Res D}{x:Me}{d e:D}(h1:f x=.ok d)(h2:g x=.ok e)(k1:flatL d=true)(k2:flatL e=true):gRetT (fConsF (fC (.str t)) (fConsN f (fConsN g fNil))) x=.ok (.rt true (.tup [.str t,d,e]),x.map fun _=>.un):=by
 have z:fConsF (fC (.str t)) (fConsN f (fConsN g fNil)) x=.ok [.str t,d,e]:=by
  unfold fConsF fConsN
  rw [h1,h2]
  simp [fC,flat2,k1,k2,fNil]
 unfold gRetT
 rw [z]
 rfl
theorem k_best {o o' H H' f p:D}{y:Addr}(ho:isOb "Corner" "climb" o=true)(e:F_Corner_climb [.int 0] o (y,H)=.ok (.non,o',H'))
  (ef:fMtN "Corner" "fit" F_Corner_fit (fView 3 5) fNil (s6 m n a b w o' (.fz .non) y H')=.ok f) (k1:flatL f=true) (k2:flatL p=true) (ep:fMtN "Corner" "prices" F_Corner_prices (fView 3 5) (fCons (fC (.int 0)) fNil) (s6 m n a b w o' (.fz .non) y H')=.ok p):∃m',kS (s6 m n a b w o .un y H)=.ok (.rt true (.tup [.str "best",f,p]),m')/\m'.length=6:=by
 refine ⟨(s6 m n a b w o' (.fz .non) y H').map fun _=>.un,?_,rfl⟩
 unfold kS
 rw [seq_ok (climb_step ho e)]
 refine (seq_ok (m':=s6 m n a b w o' (.fz .non) y H') rfl).trans ?_
 exact ret_tup ef ep k1 k2
theorem k_endless {o o' H H' f p:D}{y:Addr}{k:Nat}(ho:isOb "Corner" "climb" o=true)(e:F_Corner_climb [.int 0] o (y,H)=.ok (.int k,o',H'))
  (ef:fMtN "Corner" "fit" F_Corner_fit (fView 3 5) fNil (s6 m n a b w o' (.fz (.int k)) y H')=.ok f) (k1:flatL f=true) (k2:flatL p=true) (ep:fMtN "Corner" "way_along" F_Corner_way_along (fView 3 5) (fCons (fVarB 4) fNil) (s6 m n a b w o' (.fz (.int k)) y H')=.ok p):∃m',kS (s6 m n a b w o .un y H)=.ok (.rt true (.tup [.str "endless",f,p]),m')/\m'.length=6:=by
 refine ⟨(s6 m n a b w o' (.fz (.int k)) y H').map fun _=>.un,?_,rfl⟩
 have eg:=ret_tup (t:="endless") ef ep k1 k2
 unfold kS
 rw [seq_ok (climb_step ho e)]
 unfold gSeq gIf
 rw [show fCmpT gIsnt (fVarB 4) (fC .non) (s6 m n a b w o' (.fz (.int k)) y H')=.ok true from rfl,Res.bind_ok,if_pos rfl,eg]
noncomputable def fitF (m n:Nat)(D:Crn):Nat->Q2:=amR D.h (fun r=>cc m n D r (m+n)) D.b n
noncomputable def wayG (m n:Nat)(D:Crn)(q:Nat):Nat->Q2:=wayF D.h (fun r=>-(cc m n D r q)) D.b n q
noncomputable def priF (m n:Nat)(a:Nat->Nat->Q2)(b w:Nat->Q2)(D:Crn)(i:Nat):Q2:=low (cw m n (wL m w) D (m+i) * sS m a b i) (D.b * wS0 m w)
variable {D:Crn}
theorem fit_mt (I:In m n a b w){x:Sl}{y:Addr}(o:CInv m n (tL m n a b) D):fMtN "Corner" "fit" F_Corner_fit (fView 3 5) fNil (s6 m n a b w (oS m n a b w D (.adr y)) x y (hD n D.h))=.ok (.lst (rg m fun i=>qD (fitF m n D i))):=by
 have e:=fit_eq (s:=sS m a b) (ws:=wS0 m w) (c:=cc m n D) (wl:=cw m n (wL m w) D) (h:=D.h) I.m8 I.n8 o.pos (b_bg (lp_of I) o)
 exact mtN1 (view_is (.inr rfl) rfl) (ob_m (by decide)) rfl e flat_q
theorem way_mt (I:In m n a b w){q:Nat}{y:Addr}(hq:q<m+n)(o:CInv m n (tL m n a b) D):fMtN "Corner" "way_along" F_Corner_way_along (fView 3 5) (fCons (fVarB 4) fNil) (s6 m n a b w (oS m n a b w D (.adr y)) (.fz (.int q)) y (hD n D.h))=.ok (.lst (rg m fun i=>qD (wayG m n D q i))):=by
 have e:=way_eq (s:=sS m a b) (ws:=wS0 m w) (c:=cc m n D) (wl:=cw m n (wL m w) D) (h:=D.h) (j:=q) I.m8 I.n8 hq o.pos (b_bg (lp_of I) o)
 exact mtN1 (view_is (.inr rfl) rfl) (ob_m (by decide)) (ds:=[.int q]) rfl e flat_q
theorem prices_mt (I:In m n a b w){x:Sl}{y:Addr}(o:CInv m n (tL m n a b) D):fMtN "Corner" "prices" F_Corner_prices (fView 3 5) (fCons (fC (.int 0)) fNil) (s6 m n a b w (oS m n a b w D (.adr y)) x y (hD n D.h))=.ok (.lst (rg n fun i=>qD (priF m n a b w D i))):=by
 obtain ⟨w1,w2,_⟩:=ws_ok I
 have P:=lp_of I
 have e:=prices_eq (s:=sS m a b) (ws:=wS0 m w) (bt:=D.b) (c:=cc m n D) (wl:=cw m n (wL m w) D) (H:=hD n D.h) I.m8 I.n8 (Int.mul_pos o.pos w1) (bq_of (mul_lt (b_lt P o) w2) (by decide)) (bg_of (b_lt P o)) (bg_of w2) (fun i=>bg_of (s_ok I i).2.1) (cw_bg P o)
 exact mtN1 (view_is (.inr rfl) rfl) (ob_m (by decide)) rfl e flat_q
theorem solve_eq (I : In m n a b w) : ∃ D, CInv m n (tL m n a b) D ∧
    (((∀ j, j < m + n → 0 ≤ wv n D (wL m w) j) ∧ F_solve [rowsD m n a, bndsD n b, rowD m w] = .ok (true, .tup [.str "best", rowD m (fitF m n D), rowD n (priF m n a b w D)])) ∨
     ∃ q, q < m + n ∧ wv n D (wL m w) q < 0 ∧ (∀ r, r < n → D.c r q ≤ 0) ∧ F_solve [rowsD m n a, bndsD n b, rowD m w] = .ok (true, .tup [.str "endless", rowD m (fitF m n D), rowD m (wayG m n D q)])) := by
  obtain ⟨D, r, o, e, k⟩ := climb_eq (s := sS m a b) (ws := wS0 m w) (lp_of I)
  refine ⟨D, o.I, ?_⟩
  rcases k with ⟨rfl, k⟩ | ⟨q, rfl, k1, k2, k3⟩
  · exact .inl ⟨k, solve_run I fun y => k_best (ob_m (by decide)) (e y) (fit_mt I o.I) flat_q flat_q (prices_mt I o.I)⟩
  · exact .inr ⟨q, k1, k2, k3, solve_run I fun y => k_endless (ob_m (by decide)) (e y) (fit_mt I o.I) flat_q flat_q (way_mt I k1 o.I)⟩
end
end K35
namespace Sx
noncomputable def sr:Nat->(Nat->Rat)->Rat
 |0,_=>0
 |n+1,f=>sr n f+f n
theorem sr_congr {f g:Nat->Rat}:∀{n:Nat},(∀i,i<n->f i=g i)->sr n f=sr n g
 |0,_=>rfl
 |n+1,h=>by
  show sr n f+f n=sr n g+g n
  rw [sr_congr fun i hi=>h i (by omega),h n (by omega)]
theorem sr_zero {f:Nat->Rat}:∀{n:Nat},(∀i,i<n->f i=0)->sr n f=0
 |0,_=>rfl
 |n+1,h=>by
  show sr n f+f n=0
  rw [sr_zero fun i hi=>h i (by omega),h n (by omega)]; grind
theorem sr_add (f g:Nat->Rat):∀n:Nat,sr n (fun i=>f i+g i)=sr n f+sr n g
 |0=>by show (0:Rat)=0+0; grind
 |n+1=>by
  show sr n (fun i=>f i+g i)+(f n+g n)=sr n f+f n+(sr n g+g n)
  rw [sr_add f g n]; grind
theorem sr_mul (a:Rat)(f:Nat->Rat):∀n:Nat,sr n (fun i=>a * f i)=a * sr n f
 |0=>by show (0:Rat)=a * 0; grind
 |n+1=>by
  show sr n (fun i=>a * f i)+a * f n=a * (sr n f+f n)
  rw [sr_mul a f n]; grind
theorem sr_swap (f:Nat->Nat->Rat)(k:Nat):∀n:Nat,sr n (fun i=>sr k fun j=>f i j)=sr k fun j=>sr n fun i=>f i j
 |0=>(sr_zero fun _ _=>rfl).symm
 |n+1=>by
  show sr n (fun i=>sr k fun j=>f i j)+sr k (f n)=sr k fun j=>sr n (fun i=>f i j)+f n j
  rw [sr_swap f k n,sr_add]
theorem sr_one {f:Nat->Rat}{p:Nat}:∀{n:Nat},p<n->(∀i,i<n->i≠p->f i=0)->sr n f=f p
 |0,h,_=>absurd h (Nat.not_lt_zero _)
 |n+1,h,h0=>by
  show sr n f+f n=f p
  by_cases q:p=n
  ·subst q
   rw [sr_zero fun i hi=>h0 i (by omega) (by omega)]; grind
  ·rw [sr_one (p:=p) (by omega) fun i hi hp=>h0 i (by omega) hp,h0 n (by omega) (Ne.symm q)]; grind
theorem sr_le {f g:Nat->Rat}:∀{n:Nat},(∀i,i<n->f i<=g i)->sr n f<=sr n g
 |0,_=>Rat.le_refl
 |n+1,h=>by
  have h1:=sr_le (f:=f) (g:=g) (n:=n) fun i hi=>h i (by omega)
  have h2:=h n (by omega)
  show sr n f+f n<=sr n g+g n
  grind
theorem sr_nn {f:Nat->Rat}{n:Nat}(h:∀i,i<n->0<=f i):0<=sr n f:=by
 have:=sr_le (f:=fun _=>0) (g:=f) h
 rwa [sr_zero fun _ _=>rfl] at this
theorem sr_int (f:Nat->Int):∀n,((sm n f:Int):Rat)=sr n fun i=>(f i:Rat)
 |0=>rfl
 |n+1=>by
  show ((sm n f+f n:Int):Rat)=sr n _+_
  rw [← sr_int f n]; grind
theorem sr_held {h:Nat->Nat}{m:Nat}(f:Nat->Rat)(y:Nat->Rat)(n:Nat):sr m (fun j=>f j * sr n fun r=>if h r=j then y r else 0)=sr n fun r=>if h r<m then f (h r) * y r else 0:=by
 have e1:∀j,j<m->f j * sr n (fun r=>if h r=j then y r else 0)=sr n fun r=>if h r=j then f j * y r else 0:=fun j _=>by
  rw [← sr_mul]
  exact sr_congr fun r _=>by split <;> grind
 rw [sr_congr e1,sr_swap]
 refine sr_congr fun r _=>?_
 by_cases q:h r<m
 ·rw [if_pos q,sr_one (p:=h r) q fun i _ z=>if_neg (Ne.symm z),if_pos rfl]
 ·rw [if_neg q]
  exact sr_zero fun i hi=>if_neg (by omega)
theorem div_nn {a b:Rat}(ha:0<=a)(hb:0<b):0<=a / b:=by
 have h:a / b * b=a:=by grind
 refine Rat.not_lt.mp fun z=>?_
 have:a / b * b<0:=by
  have:=Rat.mul_pos (show 0 < -(a / b) by grind) hb
  grind
 grind
theorem le_of_mul {a b k:Rat}(hk:0<k)(h:k * a<=k * b):a<=b:=by
 refine Rat.not_lt.mp fun z=>?_
 have:=Rat.mul_pos hk (show 0<a - b by grind)
 grind
theorem eq_of_mul {a b k:Rat}(hk:0<k)(h:k * a=k * b):a=b:=by
 have:k≠0:=by grind
 grind
theorem sr_neg (f:Nat->Rat)(n:Nat):sr n (fun i=>-f i)=-sr n f:=by
 have:=sr_mul (-1) f n
 rw [show (fun i=>-f i)=fun i=>-1 * f i by funext i; grind,this]; grind
structure Fit (m n:Nat)(A:Nat->Nat->Rat)(B:Nat->Rat)(x:Nat->Rat):Prop where
 nn:∀j,j<m->0<=x j
 le:∀i,i<n->sr m (fun j=>A i j * x j)<=B i
structure Paid (m n:Nat)(A:Nat->Nat->Rat)(B C:Nat->Rat)(x y:Nat->Rat):Prop where
 nn:∀i,i<n->0<=y i
 ge:∀j,j<m->C j<=sr n fun i=>A i j * y i
 eq:sr m (fun j=>C j * x j)=sr n fun i=>B i * y i
structure Way (m n:Nat)(A:Nat->Nat->Rat)(C:Nat->Rat)(d:Nat->Rat):Prop where
 nn:∀j,j<m->0<=d j
 le:∀i,i<n->sr m (fun j=>A i j * d j)<=0
 pos:0<sr m fun j=>C j * d j
section
variable {m n:Nat}{A:Nat->Nat->Rat}{B C:Nat->Rat}{x y z d:Nat->Rat}
theorem dual_le (hy:∀i,i<n->0<=y i)(hg:∀j,j<m->C j<=sr n fun i=>A i j * y i)(hz:∀j,j<m->0<=z j):sr m (fun j=>C j * z j)<=sr n fun i=>y i * sr m fun j=>A i j * z j:=by
 have e:sr n (fun i=>y i * sr m fun j=>A i j * z j)=sr m fun j=>(sr n fun i=>A i j * y i) * z j:=by
  have e1:∀i,i<n->y i * sr m (fun j=>A i j * z j)=sr m fun j=>A i j * y i * z j:=fun i _=>by
   rw [← sr_mul]
   exact sr_congr fun j _=>by grind
  rw [sr_congr e1,sr_swap]
  exact sr_congr fun j _=>by
   rw [Rat.mul_comm,← sr_mul]
   exact sr_congr fun i _=>by grind
 rw [e]
 refine sr_le fun j hj=>?_
 have:=Rat.mul_le_mul_of_nonneg_left (hg j hj) (hz j hj)
 grind
theorem Paid.most (P:Paid m n A B C x y)(F:Fit m n A B z):sr m (fun j=>C j * z j)<=sr m fun j=>C j * x j:=by
 rw [P.eq]
 refine Rat.le_trans (dual_le P.nn P.ge F.nn) (sr_le fun i hi=>?_)
 have:=Rat.mul_le_mul_of_nonneg_left (F.le i hi) (P.nn i hi)
 grind
end
section
variable {m n:Nat}{T:Nat->Nat->Int}{W:Nat->Int}{D:Crn}{A:Nat->Nat->Rat}{B C S:Nat->Rat}{w:Rat}
structure Scl (m n:Nat)(T:Nat->Nat->Int)(W:Nat->Int)(A:Nat->Nat->Rat)(B C S:Nat->Rat)(w:Rat):Prop where
 s:∀i,i<n->0<S i
 w0:0<w
 a:∀i,i<n->∀j,j<m->(T i j:Rat)=A i j * S i
 b:∀i,i<n->(T i (m+n):Rat)=B i * S i
 c:∀j,j<m->(W j:Rat)=-(C j * w)
noncomputable def hx (n:Nat)(D:Crn)(t:Nat->Int)(j:Nat):Rat:=sr n fun r=>if D.h r=j then (t r:Rat) / (D.b:Rat) else 0
theorem bq (I:CInv m n T D):(0:Rat)<(D.b:Rat):=by have:=I.pos; exact_mod_cast this
theorem ir {x y:Int}(h:x<=y):(x:Rat)<=(y:Rat):=Rat.intCast_le_intCast.mpr h
theorem held_sum (I:CInv m n T D)(f:Nat->Int)(t:Nat->Int):(D.b:Rat) * sr m (fun j=>(f j:Rat) * hx n D t j)=sr n fun r=>if D.h r<m then ((f (D.h r) * t r:Int):Rat) else 0:=by
 have hb:=bq I
 unfold hx
 rw [sr_held (fun j=>(f j:Rat)),← sr_mul]
 refine sr_congr fun r _=>?_
 split
 ·have:(D.b:Rat) * ((t r:Rat) / (D.b:Rat))=t r:=by grind
  grind
 ·grind
theorem split_sum (f:Nat->Int)(h:Nat->Nat)(n:Nat):((sm n f:Int):Rat)=sr n (fun r=>if h r<m then (f r:Rat) else 0)+sr n fun r=>if h r<m then 0 else (f r:Rat):=by
 rw [sr_int,← sr_add]
 exact sr_congr fun r _=>by split <;> grind
theorem slack_nn (F:First m n T)(I:CInv m n T D){i r:Nat}(hi:i<n)(hr:r<n)(h:¬D.h r<m):0<=T i (D.h r):=by
 have:=I.hlt r hr
 have e:=F.one i hi (D.h r - m) (by omega)
 rw [show m+(D.h r - m)=D.h r by omega] at e
 rw [e]
 split <;> decide
theorem fit_of (F:First m n T)(I:CInv m n T D)(X:Scl m n T W A B C S w):Fit m n A B (hx n D fun r=>D.c r (m+n)):=by
 have hb:=bq I
 refine ⟨fun j _=>sr_nn fun r hr=>?_,fun i hi=>?_⟩
 ·split
  ·exact div_nn (by have:=ir (I.nn r hr); exact_mod_cast this) hb
  ·exact Rat.le_refl
 ·refine le_of_mul (X.s i hi) (le_of_mul hb ?_)
  have e0:(D.b:Rat) * (S i * sr m fun j=>A i j * hx n D (fun r=>D.c r (m+n)) j)=(D.b:Rat) * sr m fun j=>(T i j:Rat) * hx n D (fun r=>D.c r (m+n)) j:=by
   rw [← sr_mul]
   congr 1
   exact sr_congr fun j hj=>by rw [X.a i hi j hj]; grind
  rw [e0,held_sum I (fun j=>T i j)]
  have e1:=I.eq i hi (m+n)
  have e2:=split_sum (m:=m) (fun r=>D.c r (m+n) * T i (D.h r)) D.h n
  rw [e1] at e2
  have e3:0<=sr n fun r=>if D.h r<m then (0:Rat) else ((D.c r (m+n) * T i (D.h r):Int):Rat):=sr_nn fun r hr=>by
   split
   ·exact Rat.le_refl
   ·rename_i z
    have:=ir (Int.mul_nonneg (I.nn r hr) (slack_nn F I hi hr z))
    exact_mod_cast this
  have e4:sr n (fun r=>if D.h r<m then ((T i (D.h r) * D.c r (m+n):Int):Rat) else 0)=sr n fun r=>if D.h r<m then ((D.c r (m+n) * T i (D.h r):Int):Rat) else 0:=sr_congr fun r _=>by rw [Int.mul_comm]
  rw [e4]
  have e5:((D.b * T i (m+n):Int):Rat)=(D.b:Rat) * (S i * B i):=by
   have:=X.b i hi
   grind
  rw [e5] at e2
  grind
theorem worth_of (I:CInv m n T D)(hW:∀j,m<=j->W j=0)(X:Scl m n T W A B C S w)(t:Nat->Int):(D.b:Rat) * (w * sr m fun j=>C j * hx n D t j)=-((sm n fun r=>t r * W (D.h r):Int):Rat):=by
 have e0:(D.b:Rat) * (w * sr m fun j=>C j * hx n D t j)=-((D.b:Rat) * sr m fun j=>(W j:Rat) * hx n D t j):=by
  rw [← sr_mul,← Rat.neg_mul,← sr_mul (-(D.b:Rat)),← sr_mul]
  exact sr_congr fun j hj=>by rw [X.c j hj]; grind
 rw [e0,held_sum I W,sr_int]
 congr 1
 refine sr_congr fun r _=>?_
 split
 ·rw [Int.mul_comm]
 ·rename_i z
  rw [hW _ (by omega),Int.mul_zero]; rfl
theorem paid_of (I:CInv m n T D)(hW:∀j,m<=j->W j=0)(X:Scl m n T W A B C S w)(h:∀j,j<m+n->0<=wv n D W j):Paid m n A B C (hx n D fun r=>D.c r (m+n)) fun i=>(wv n D W (m+i):Rat) * S i / ((D.b:Rat) * w):=by
 have hb:=bq I
 have hw:=X.w0
 have hbw:=Rat.mul_pos hb hw
 refine ⟨fun i hi=>div_nn (Rat.mul_nonneg (by have:=ir (h (m+i) (by omega)); exact_mod_cast this) (Rat.le_of_lt (X.s i hi))) hbw,fun j hj=>?_,?_⟩
 ·refine le_of_mul hbw ?_
  rw [← sr_mul]
  have e1:=wv_row I hW j
  have e2:sr n (fun i=>(D.b:Rat) * w * (A i j * ((wv n D W (m+i):Rat) * S i / ((D.b:Rat) * w))))=((sm n fun i=>wv n D W (m+i) * T i j:Int):Rat):=by
   rw [sr_int]
   refine sr_congr fun i hi=>?_
   have:=X.a i hi j hj
   grind
  rw [e2]
  have e3:=ir (h j (by omega))
  rw [e1,Rat.intCast_add,Rat.intCast_mul,X.c j hj,Rat.intCast_zero] at e3
  grind
 ·have e1:=worth_of I hW X fun r=>D.c r (m+n)
  have e2:=wv_worth I hW
  rw [e2] at e1
  have e3:=wv_row I hW (m+n)
  rw [hW (m+n) (by omega),Int.mul_zero,Int.zero_add] at e3
  have e4:(D.b:Rat) * w * sr n (fun i=>B i * ((wv n D W (m+i):Rat) * S i / ((D.b:Rat) * w)))=((sm n fun i=>wv n D W (m+i) * T i (m+n):Int):Rat):=by
   rw [← sr_mul,sr_int]
   refine sr_congr fun i hi=>?_
   have:=X.b i hi
   grind
  rw [← e3] at e4
  rw [Rat.intCast_neg] at e1
  refine eq_of_mul hbw ?_
  rw [e4]
  grind
noncomputable def wx (n:Nat)(D:Crn)(q j:Nat):Rat:=if j=q then 1 else hx n D (fun r=>-D.c r q) j
theorem wx_eq (I:CInv m n T D){q:Nat}(hq:wv n D W q<0)(j:Nat):wx n D q j=(if j=q then 1 else 0)+hx n D (fun r=>-D.c r q) j:=by
 unfold wx
 by_cases z:j=q
 ·rw [if_pos z,if_pos z]
  have:hx n D (fun r=>-D.c r q) j=0:=sr_zero fun r hr=>by
   refine if_neg fun e=>?_
   have:=wv_held I W hr
   rw [e,z] at this
   omega
  rw [this]; grind
 ·rw [if_neg z,if_neg z]; grind
theorem sr_pick {q:Nat}(f:Nat->Rat):sr m (fun j=>f j * if j=q then 1 else 0)=if q<m then f q else 0:=by
 by_cases z:q<m
 ·rw [if_pos z,sr_one (p:=q) z fun i _ h=>by rw [if_neg h]; grind,if_pos rfl]; grind
 ·rw [if_neg z]
  exact sr_zero fun i hi=>by rw [if_neg (by omega)]; grind
theorem way_of (F:First m n T)(I:CInv m n T D)(hW:∀j,m<=j->W j=0)(X:Scl m n T W A B C S w){q:Nat}(hq:q<m+n)(hw:wv n D W q<0)(hc:∀r,r<n->D.c r q<=0):Way m n A C (wx n D q):=by
 have hb:=bq I
 refine ⟨fun j _=>?_,fun i hi=>?_,?_⟩
 ·unfold wx
  split
  ·decide
  ·refine sr_nn fun r hr=>?_
   split
   ·exact div_nn (by have:=ir (show 0<=-D.c r q by have:=hc r hr; omega); exact_mod_cast this) hb
   ·exact Rat.le_refl
 ·refine le_of_mul (X.s i hi) (le_of_mul hb ?_)
  have e0:(D.b:Rat) * (S i * sr m fun j=>A i j * wx n D q j)=(D.b:Rat) * (if q<m then (T i q:Rat) else 0)+(D.b:Rat) * sr m fun j=>(T i j:Rat) * hx n D (fun r=>-D.c r q) j:=by
   rw [← sr_pick (fun j=>(T i j:Rat)),← sr_mul,← sr_mul,← sr_mul,← sr_mul,← sr_add]
   exact sr_congr fun j hj=>by rw [X.a i hi j hj,wx_eq I hw]; grind
  rw [e0,held_sum I (fun j=>T i j)]
  have e1:=I.eq i hi q
  have e2:=split_sum (m:=m) (fun r=>D.c r q * T i (D.h r)) D.h n
  rw [e1] at e2
  have e3:sr n (fun r=>if D.h r<m then (0:Rat) else ((D.c r q * T i (D.h r):Int):Rat))<=sr n fun _=>0:=sr_le fun r hr=>by
   split
   ·exact Rat.le_refl
   ·rename_i z
    have h1:=Int.mul_nonneg (show 0<=-D.c r q by have:=hc r hr; omega) (slack_nn F I hi hr z)
    rw [Int.neg_mul] at h1
    have:=ir (show D.c r q * T i (D.h r)<=0 by omega)
    exact_mod_cast this
  rw [sr_zero fun _ _=>rfl] at e3
  have e4:sr n (fun r=>if D.h r<m then ((T i (D.h r) * -D.c r q:Int):Rat) else 0)=-sr n fun r=>if D.h r<m then ((D.c r q * T i (D.h r):Int):Rat) else 0:=by
   rw [← sr_neg]
   refine sr_congr fun r _=>?_
   split
   ·rw [show T i (D.h r) * -D.c r q=-(D.c r q * T i (D.h r)) by grind,Rat.intCast_neg]
   ·grind
  rw [e4]
  rw [Rat.intCast_mul] at e2
  by_cases z:q<m
  ·rw [if_pos z]
   grind
  ·rw [if_neg z]
   have h1:=F.one i hi (q - m) (by omega)
   rw [show m+(q - m)=q by omega] at h1
   have h2:(0:Rat)<=(D.b:Rat) * (T i q:Rat):=Rat.mul_nonneg (Rat.le_of_lt hb) (by
    have:=ir (show 0<=T i q by rw [h1]; split <;> decide)
    exact_mod_cast this)
   grind
 ·have e1:=worth_of I hW X fun r=>-D.c r q
  have e2:(D.b:Rat) * (w * sr m fun j=>C j * wx n D q j)=(D.b:Rat) * (w * if q<m then C q else 0)+(D.b:Rat) * (w * sr m fun j=>C j * hx n D (fun r=>-D.c r q) j):=by
   rw [← sr_pick C,← Rat.mul_add,← Rat.mul_add,← sr_add]
   congr 2
   exact sr_congr fun j _=>by rw [wx_eq I hw]; grind
  have e3:sm n (fun r=>-D.c r q * W (D.h r))=-sm n fun r=>D.c r q * W (D.h r):=by
   rw [← Int.neg_one_mul,← sm_mul]
   exact sm_congr fun r _=>by grind
  rw [e3,Rat.intCast_neg] at e1
  have e4:(D.b:Rat) * (w * if q<m then C q else 0)=-((D.b * W q:Int):Rat):=by
   by_cases z:q<m
   ·rw [if_pos z,Rat.intCast_mul,X.c q z]; grind
   ·rw [if_neg z,hW q (by omega),Int.mul_zero]; grind
  rw [e1,e4] at e2
  have e5:((wv n D W q:Int):Rat)<0:=by exact_mod_cast hw
  unfold wv at e5
  rw [Rat.intCast_sub] at e5
  have hbw:=Rat.mul_pos hb X.w0
  refine Rat.not_le.mp fun z=>?_
  have:=Rat.mul_nonneg (Rat.le_of_lt hbw) (show 0<=-(sr m fun j=>C j * wx n D q j) by grind)
  grind
end
end Sx
namespace K35
open PySem L2 Hd F
open Sx (Crn CInv wv sr sm hx wx)
noncomputable def vq (q:Q2):Rat:=(q.1:Rat) / (q.2:Rat)
theorem ip {x:Int}(h:0<x):(0:Rat)<(x:Rat):=by exact_mod_cast h
theorem vq_le {x y:Q2}(hx:0<x.2)(hy:0<y.2):vq x<=vq y↔x.1 * y.2<=y.1 * x.2:=by
 have h1:=ip hx
 have h2:=ip hy
 have k:=Rat.mul_pos h1 h2
 have e1:(x.2:Rat) * (y.2:Rat) * vq x=((x.1 * y.2:Int):Rat):=by unfold vq; grind
 have e2:(x.2:Rat) * (y.2:Rat) * vq y=((y.1 * x.2:Int):Rat):=by unfold vq; grind
 constructor
 ·intro h
  have:=Rat.mul_le_mul_of_nonneg_left h (Rat.le_of_lt k)
  rw [e1,e2] at this
  exact Rat.intCast_le_intCast.mp this
 ·intro h
  refine Sx.le_of_mul k ?_
  rw [e1,e2]
  exact Rat.intCast_le_intCast.mpr h
theorem vq_eq {x y:Q2}(hx:0<x.2)(hy:0<y.2):vq x=vq y↔x.1 * y.2=y.1 * x.2:=by
 have h1:=vq_le hx hy
 have h2:=vq_le hy hx
 constructor
 ·intro h
  have a:=h1.mp (by rw [h]; exact Rat.le_refl)
  have b:=h2.mp (by rw [h]; exact Rat.le_refl)
  omega
 ·intro h
  have a:=h1.mpr (by omega)
  have b:=h2.mpr (by omega)
  grind
theorem low_pos {t u:Int}(hb:0<u):0<(low t u).2:=by have:=lb_pos (t:=t) (b:=u) (by omega); show 0<lb t u; omega
theorem vq_low {t u:Int}(hb:0<u):vq (low t u)=(t:Rat) / (u:Rat):=by
 have c:(low t u).1 * u=t * (low t u).2:=low_cross (by omega)
 have h1:=ip hb
 have h2:=ip (low_pos (t:=t) hb)
 have c':((low t u).1:Rat) * (u:Rat)=(t:Rat) * ((low t u).2:Rat):=by exact_mod_cast c
 unfold vq
 grind
theorem vq0:vq (0,1)=0:=by unfold vq; grind
theorem vq1:vq (1,1)=1:=by unfold vq; grind
noncomputable def dt (u v:Nat->Q2):Nat->Q2
 |0=>(0,1)
 |i+1=>((dt u v i).1 * (u i).2 * (v i).2+(u i).1 * (v i).1 * (dt u v i).2,(dt u v i).2 * (u i).2 * (v i).2)
theorem dt_val {u v:Nat->Q2}(hu:∀i,0<(u i).2)(hv:∀i,0<(v i).2):∀k,0<(dt u v k).2/\vq (dt u v k)=sr k fun i=>vq (u i) * vq (v i)
 |0=>⟨by show (0:Int)<1; decide,vq0⟩
 |k+1=>by
  obtain ⟨h1,h2⟩:=dt_val hu hv k
  refine ⟨Int.mul_pos (Int.mul_pos h1 (hu k)) (hv k),?_⟩
  show _=sr k (fun i=>vq (u i) * vq (v i))+vq (u k) * vq (v k)
  rw [← h2]
  have a1:=ip h1
  have a2:=ip (hu k)
  have a3:=ip (hv k)
  unfold vq
  show ((((dt u v k).1 * (u k).2 * (v k).2+(u k).1 * (v k).1 * (dt u v k).2:Int)):Rat) / (((dt u v k).2 * (u k).2 * (v k).2:Int):Rat)=_
  grind
noncomputable def BQ (k:Nat)(q:Q2):Prop:=q.1.natAbs<2 ^ k/\q.2.natAbs<2 ^ k
theorem dt_lt {u v:Nat->Q2}(hu:∀i,BQ 30 (u i))(hv:∀i,BQ 2200 (v i)):∀i,BQ (1+2231 * i) (dt u v i)
 |0=>⟨show (0:Int).natAbs<2 ^ 1 by decide,show (1:Int).natAbs<2 ^ 1 by decide⟩
 |i+1=>by
  obtain ⟨h1,h2⟩:=dt_lt hu hv i
  obtain ⟨u1,u2⟩:=hu i
  obtain ⟨v1,v2⟩:=hv i
  have e1:=mul_lt (mul_lt h1 u2) v2
  have e2:=mul_lt (mul_lt u1 v1) h2
  have e3:=mul_lt (mul_lt h2 u2) v2
  rw [show 1+2231 * i+30+2200=30+2200+(1+2231 * i) by omega] at e1 e3
  have e4:=add_lt e1 e2
  exact ⟨lt_mono e4 (by omega),lt_mono e3 (by omega)⟩
theorem dot_body {s t:D}{d x y:Q2}(h1:Bg d.1)(h2:Bg d.2)(hx:BQ 30 x)(hy:BQ 2200 y)(h3:Bg (d.1 * x.2))(h4:Bg (d.2 * x.2)):B__law_dot_1 [.fz s,.fz t,.fz (.int d.1),.fz (.int d.2),.fz (qD x),.fz (qD y)]=.ok (.nx,[.fz s,.fz t,.fz (.int (d.1 * x.2 * y.2+x.1 * y.1 * d.2)),.fz (.int (d.2 * x.2 * y.2)),.fz (qD x),.fz (qD y)]):=by
 have k1:Bg (x.1 * y.1):=bg_of (mul_lt hx.1 hy.1) (by decide)
 have k2:Bg x.1:=bg_of hx.1
 have k3:Bg x.2:=bg_of hx.2
 have k4:Bg y.1:=bg_of hy.1
 have k5:Bg y.2:=bg_of hy.2
 simp [B__law_dot_1,gSeq,gSet,fBin,fVarB,qD,fC,gIx,ix0,ix1,gMul,gAdd,h1,h2,h3,h4,k1,k2,k3,k4,k5]
theorem dot_eq {n:Nat}{u v:Nat->Q2}(hn:n<=8)(hu:∀i,BQ 30 (u i))(hv:∀i,BQ 2200 (v i)):F__law_dot [rowD n u,rowD n v]=.ok (false,qD (dt u v n)):=by
 obtain ⟨m',e,x,y,em⟩:=loop_rg (n:=n) (f:=fun i=>.tup [qD (u i),qD (v i)]) (h:=hTup 2 (hCons (hName 4) (hCons (hName 5) hNil))) (k:=B__law_dot_1) (m:=[.fz (rowD n u),.fz (rowD n v),.fz (.int 0),.fz (.int 1),.un,.un]) (fun i m=>∃x y,m=[.fz (rowD n u),.fz (rowD n v),.fz (.int (dt u v i).1),.fz (.int (dt u v i).2),x,y]) ⟨_,_,rfl⟩ fun i m hi ⟨x,y,em⟩=>by
  subst em
  obtain ⟨h1,h2⟩:=dt_lt hu hv i
  exact ⟨_,_,rfl,dot_body (bg_of h1 (by omega)) (bg_of h2 (by omega)) (hu i) (hv i) (bg_of (mul_lt h1 (hu i).2) (by omega)) (bg_of (mul_lt h2 (hu i).2) (by omega)),_,_,rfl⟩
 subst em
 have eL:L__law_dot_2 [.fz (rowD n u),.fz (rowD n v),.fz (.int 0),.fz (.int 1),.un,.un]=.ok (.nx,[.fz (rowD n u),.fz (rowD n v),.fz (.int (dt u v n).1),.fz (.int (dt u v n).2),x,y]):=by
  unfold L__law_dot_2 gFor
  rw [show fItZ (fCons (fVar 0) (fCons (fVar 1) fNil)) [.fz (rowD n u),.fz (rowD n v),.fz (.int 0),.fz (.int 1),.un,.un]=.ok (rg n fun i=>.tup [qD (u i),qD (v i)]) by
   simp [fItZ,fCons,fNil,fVar,rowD,rg_zip]]
  exact e
 have eg:g__law_dot [.fz (rowD n u),.fz (rowD n v),.un,.un,.un,.un]=.ok (.rt false (qD (dt u v n)),Me.let [.fz (rowD n u),.fz (rowD n v),.fz (.int (dt u v n).1),.fz (.int (dt u v n).2),x,y]):=by
  unfold g__law_dot c__law_dot
  rw [seq_ok (m':=[.fz (rowD n u),.fz (rowD n v),.fz (.int 0),.un,.un,.un]) rfl,seq_ok (m':=[.fz (rowD n u),.fz (rowD n v),.fz (.int 0),.fz (.int 1),.un,.un]) rfl,seq_ok eL]
  rfl
 exact runF_rt rfl eg
section
variable {m n:Nat}{a:Nat->Nat->Q2}{b w:Nat->Q2}{D:Crn}
theorem quo_mul {q k:Int}(hq:0<q)(hk:0<k)(h:q ∣ k):q * (k / q)=k:=by
 obtain ⟨x,rfl⟩:=h
 rw [Int.mul_ediv_cancel_left _ (by omega)]
theorem scl_rat {q:Q2}{k:Int}(hq:0<q.2)(hk:0<k)(h:q.2 ∣ k):((q.1 * (k / q.2):Int):Rat)=vq q * (k:Rat):=by
 have e:=quo_mul hq hk h
 have e':(q.2:Rat) * ((k / q.2:Int):Rat)=(k:Rat):=by exact_mod_cast e
 have h1:=ip hq
 unfold vq
 rw [Rat.intCast_mul,← e']
 grind
theorem scl_of (I:In m n a b w):Sx.Scl m n (tL m n a b) (wL m w) (fun i j=>vq (a i j)) (fun i=>vq (b i)) (fun j=>vq (w j)) (fun i=>(sS m a b i:Rat)) (wS0 m w:Rat) where
 s:=fun i _=>ip (s_ok I i).1
 w0:=ip (ws_ok I).1
 a:=fun i _ j hj=>by
  unfold tL
  rw [if_pos hj]
  exact scl_rat (I.ha i j).pos (s_ok I i).1 ((s_ok I i).2.2.1 j hj)
 b:=fun i _=>by
  unfold tL
  rw [if_neg (by omega),if_neg (by omega)]
  exact scl_rat (I.hb i).pos (s_ok I i).1 (s_ok I i).2.2.2
 c:=fun j hj=>by
  unfold wL
  rw [if_pos hj,Rat.intCast_neg,scl_rat (I.hw j).pos (ws_ok I).1 ((ws_ok I).2.2 j hj)]
theorem am_val {h:Nat->Nat}{t:Nat->Int}{u:Int}(hu:0<u)(i:Nat):∀k,(∀a,a<k->∀b,b<k->h a=h b->a=b)->vq (amR h t u k i)=sr k fun r=>if h r=i then (t r:Rat) / (u:Rat) else 0
 |0,_=>vq0
 |k+1,inj=>by
  show vq (if i=h k then low (t k) u else amR h t u k i)=sr k _+if h k=i then _ else 0
  by_cases q:i=h k
  ·rw [if_pos q,if_pos q.symm,vq_low hu,Sx.sr_zero fun r hr=>if_neg fun e=>absurd (inj r (by omega) k (by omega) (by rw [e,q])) (by omega)]
   grind
  ·rw [if_neg q,if_neg (Ne.symm q),am_val hu i k fun a ha b hb e=>inj a (by omega) b (by omega) e]
   grind
theorem fit_val (I:CInv m n (tL m n a b) D)(j:Nat):vq (fitF m n D j)=hx n D (fun r=>D.c r (m+n)) j:=by
 unfold fitF
 rw [am_val I.pos j n fun a ha b hb e=>I.inj ha hb e]
 exact Sx.sr_congr fun r hr=>by rw [cc_is hr (by omega)]
theorem way_val (I:CInv m n (tL m n a b) D){q:Nat}(hq:q<m+n)(j:Nat):vq (wayG m n D q j)=wx n D q j:=by
 unfold wayG wayF wx
 split
 ·exact vq1
 ·rw [am_val I.pos j n fun a ha b hb e=>I.inj ha hb e]
  exact Sx.sr_congr fun r hr=>by rw [cc_is hr (by omega)]
theorem pri_val (In':In m n a b w)(I:CInv m n (tL m n a b) D){i:Nat}(hi:i<n):vq (priF m n a b w D i)=(wv n D (wL m w) (m+i):Rat) * (sS m a b i:Rat) / ((D.b:Rat) * (wS0 m w:Rat)):=by
 unfold priF
 rw [vq_low (Int.mul_pos I.pos (ws_ok In').1),cw_is (by omega),Rat.intCast_mul,Rat.intCast_mul]
noncomputable def QL (q:Q2):Prop:=0<q.2/\gI q.1 q.2=1/\BQ 2200 q
theorem ql_low {t u:Int}(hu:0<u)(h1:t.natAbs<2 ^ 2200)(h2:u.natAbs<2 ^ 2200):QL (low t u):=⟨low_pos hu,low_gcd (by omega),Nat.lt_of_le_of_lt (lt_le (by omega)) h1,Nat.lt_of_le_of_lt (lb_le (by omega)) h2⟩
theorem ql0:QL (0,1):=⟨by decide,by decide,by show (0:Int).natAbs<_; exact Nat.pow_pos (by decide),by show 1<2 ^ 2200; exact Nat.one_lt_two_pow (by decide)⟩
theorem ql1:QL (1,1):=⟨by decide,by decide,by show 1<2 ^ 2200; exact Nat.one_lt_two_pow (by decide),by show 1<2 ^ 2200; exact Nat.one_lt_two_pow (by decide)⟩
theorem am_ql {h:Nat->Nat}{t:Nat->Int}{u:Int}(hu:0<u)(hu2:u.natAbs<2 ^ 2200)(ht:∀r,(t r).natAbs<2 ^ 2200)(i:Nat):∀j,QL (amR h t u j i)
 |0=>ql0
 |j+1=>by
  show QL (if i=h j then low (t j) u else amR h t u j i)
  split
  ·exact ql_low hu (ht j) hu2
  ·exact am_ql hu hu2 ht i j
theorem solve_ok (I : In m n a b w) : ∃ x : Nat → Q2, (∀ j, QL (x j)) ∧ Sx.Fit m n (fun i j => vq (a i j)) (fun i => vq (b i)) (fun j => vq (x j)) ∧
    ((∃ y, F_solve [rowsD m n a, bndsD n b, rowD m w] = .ok (true, .tup [.str "best", rowD m x, rowD n y]) ∧ (∀ i, QL (y i)) ∧ Sx.Paid m n (fun i j => vq (a i j)) (fun i => vq (b i)) (fun j => vq (w j)) (fun j => vq (x j)) fun i => vq (y i)) ∨
     ∃ d, F_solve [rowsD m n a, bndsD n b, rowD m w] = .ok (true, .tup [.str "endless", rowD m x, rowD m d]) ∧ (∀ j, QL (d j)) ∧ Sx.Way m n (fun i j => vq (a i j)) (fun j => vq (w j)) fun j => vq (d j)) := by
  obtain ⟨D, J, h⟩ := solve_eq I
  have P := lp_of I
  have bl : D.b.natAbs < 2 ^ 2200 := lt_mono (b_lt P J) (by decide)
  have ef : (fun j => vq (fitF m n D j)) = hx n D fun r => D.c r (m + n) := funext fun j => fit_val J j
  refine ⟨fitF m n D, fun j => am_ql J.pos bl (fun r => lt_mono (cc_lt P J r _) (by decide)) j n, by rw [ef]; exact Sx.fit_of P.fst J (scl_of I), ?_⟩
  rcases h with ⟨h1, h2⟩ | ⟨q, q1, q2, q3, q4⟩
  · refine .inl ⟨_, h2, fun i => ?_, ?_⟩
    · obtain ⟨w1, w2, _⟩ := ws_ok I
      exact ql_low (Int.mul_pos J.pos w1) (lt_mono (mul_lt (cw_lt P J _) (s_ok I i).2.1) (by decide)) (lt_mono (mul_lt (b_lt P J) w2) (by decide))
    have p := Sx.paid_of J P.w0 (scl_of I) h1
    rw [ef]
    refine ⟨fun i hi => ?_, fun j hj => ?_, ?_⟩
    · rw [pri_val I J hi]; exact p.nn i hi
    · rw [Sx.sr_congr fun i hi => by rw [pri_val I J hi]]; exact p.ge j hj
    · rw [Sx.sr_congr (f := fun i => vq (b i) * vq (priF m n a b w D i)) fun i hi => by rw [pri_val I J hi]]; exact p.eq
  · refine .inr ⟨_, q4, fun i => ?_, ?_⟩
    · unfold wayG wayF
      split
      · exact ql1
      · exact am_ql J.pos bl (fun r => by rw [Int.natAbs_neg]; exact lt_mono (cc_lt P J r _) (by decide)) i n
    rw [show (fun j => vq (wayG m n D q j)) = wx n D q from funext fun j => way_val J q1 j]
    exact Sx.way_of P.fst J P.w0 (scl_of I) q1 q2 q3
end
open PySem L2 Hd F
theorem gI_step' {a b:Int}(hb:0<b):gI b (a % b)=gI a b:=by
 unfold gI
 rw [Int.gcd_comm a b]
 have:Int.gcd b (a % b)=Int.gcd b a:=by
  have e:a=a % b+b * (a / b):=by have:=Int.emod_add_mul_ediv a b; omega
  apply Nat.dvd_antisymm
  ·refine Int.dvd_gcd ?_ ?_
   ·exact Int.gcd_dvd_left _ _
   ·have h1:((Int.gcd b (a % b):Nat):Int) ∣ a % b:=Int.gcd_dvd_right _ _
    have h2:((Int.gcd b (a % b):Nat):Int) ∣ b * (a / b):=Int.dvd_mul_of_dvd_left (Int.gcd_dvd_left _ _)
    have h3:=Int.dvd_add h1 h2
    rwa [← e] at h3
  ·refine Int.dvd_gcd (Int.gcd_dvd_left _ _) ?_
   have h1:((Int.gcd b a:Nat):Int) ∣ a:=Int.gcd_dvd_right _ _
   have h2:((Int.gcd b a:Nat):Int) ∣ b * (a / b):=Int.dvd_mul_of_dvd_left (Int.gcd_dvd_left _ _)
   have h3:=Int.dvd_sub h1 h2
   rwa [show a - b * (a / b)=a % b by omega] at h3
 rw [this]
theorem ld_loop:∀(n:Nat) (a b:Int),b.toNat=n->0<=b->(0<=a\/0<b)->∃k,wh T__law_divisor_1 B__law_divisor_2 k [.fz (.int a),.fz (.int b)] =
  some (.ok (.nx,[.fz (.int (gI a b)),.fz (.int 0)])):=by
 intro n
 induction n using Nat.strongRecOn with
 |_ n ih=>
  intro a b hn hb hab
  by_cases h0:b=0
  ·subst h0
   refine ⟨1,?_⟩
   rw [gI_zero (by omega)]
   exact wh_done rfl
  ·have hb':0<b:=by omega
   have hm:=Int.emod_lt_of_pos a hb'
   have hm0:=Int.emod_nonneg a h0
   obtain ⟨k,e⟩:=ih (a % b).toNat (by omega) b (a % b) rfl hm0 (.inl hb)
   rw [gI_step' hb'] at e
   refine ⟨k+1,wh_step (m':=[.fz (.int b),.fz (.int (a % b))]) ?_ ?_ e⟩
   ·simp [T__law_divisor_1,fCmpT,fVarB,fC,h0]
   ·simp [B__law_divisor_2,gPar,fCons,fNil,fBin,fVarB,fVar,gMod,mdI,h0,hb']
theorem divisor_eq {a b:Int}(hb:0<b):F__law_divisor [.int a,.int b]=.ok (false,.int (gI a b)):=by
 obtain ⟨k,e⟩:=ld_loop _ a b rfl (by omega) (.inr hb)
 have e2:=gWhile_eq k e
 have h:¬gI a b<0:=by have:=gI_nn a b; omega
 simp [F__law_divisor,runF,g__law_divisor,c__law_divisor,L__law_divisor_3,gSeq,fCall,fCons,fNil,fVarB,gAbs,e2,gRet,Me.let,Sl.let,h]
theorem lawlow_eq {t b:Int}(hb:0<b)(hB:Bq b):F__law_lowest [.int t,.int b]=.ok (false,qD (low t b)):=by
 have hg:gI t b≠0:=by have:=gI_pos (a:=t) (b:=b) (by omega); omega
 simp [hg,F__law_lowest,runF,g__law_lowest,c__law_lowest,gSeq,gSet,fFn,fCons,fNil,fVar,fVarB,divisor_eq hb,gRet,Me.let,Sl.let,fTup,fBin,gDiv,gI_bq hb hB,dvI_lt hb,dvI_lb hb,qD,low]
theorem cell_eq (ns:List Int)(k:Nat):F__law_cell_at [.lst (ns.map D.int),.int k]=.ok (false,.int (ns.getD k 0)):=by
 by_cases h:k<ns.length
 ·have h':(k:Int)<ns.length:=by omega
  simp [F__law_cell_at,runF,g__law_cell_at,c__law_cell_at,gSeq,gIf,fCmpT,fVarB,fCall,fCons,fNil,gLen,gLt,h,h',gRet,Me.let,Sl.let,fBin,gIx,atI,ixN]
 ·have h':¬(k:Int)<ns.length:=by omega
  have:ns.getD k 0=0:=by rw [List.getD_eq_getElem?_getD,List.getElem?_eq_none (by omega)]; rfl
  simp [F__law_cell_at,runF,g__law_cell_at,c__law_cell_at,gSeq,gIf,fCmpT,fVarB,fCall,fCons,fNil,gLen,gLt,h,h',gRet,Me.let,Sl.let,fC,gNx,List.getElem?_eq_none (show ns.length<=k by omega)]
noncomputable def pick (c:Int):Int:=if c % 6=1\/c % 6=5 then 1 else if c % 6=3 then -1 else 0
theorem pick_is (c:Int):gIx (.lst [.int 0,.int 1,.int 0,.int (-1),.int 0,.int 1]) (.int (c % 6))=some (.int (pick c)):=by
 unfold pick
 have h:c % 6=0\/c % 6=1\/c % 6=2\/c % 6=3\/c % 6=4\/c % 6=5:=by omega
 rcases h with h | h | h | h | h | h <;> (rw [h]; rfl)
noncomputable def numQ (c s:Int):Q2:=if s=0 then (c % 6 - 2,1) else if s=1 then (pick c,1) else if s=2 then low (c % 601 - 200) (1+c / 601 % 30) else low (c % 2000000000 - 1000000000) (1+c / 7 % 997)
theorem low_ok {t b:Int}(hb:0<b)(h1:t.natAbs<2 ^ 30)(h2:b.natAbs<2 ^ 10):NumOk (low t b):=by
 have n:b≠0:=by omega
 have p:=lb_pos (t:=t) n
 exact ⟨by show 0<lb t b; omega,Nat.lt_of_le_of_lt (lb_le n) h2,Nat.lt_of_le_of_lt (lt_le n) h1⟩
theorem num1 {t:Int}(h:t.natAbs<1073741824):NumOk (t,1):=⟨by show (0:Int)<1; decide,by show (1:Int).natAbs<1024; decide,h⟩
theorem num_ok (c s:Int):NumOk (numQ c s):=by
 unfold numQ
 split
 ·exact num1 (by omega)
 ·split
  ·exact num1 (by unfold pick; split <;> (try split) <;> decide)
  ·split
   ·exact low_ok (by omega) (by show _<1073741824; omega) (by show _<1024; omega)
   ·exact low_ok (by omega) (by show _<1073741824; omega) (by show _<1024; omega)
theorem number_eq (c s:Int):F__law_number [.int c,.int s]=.ok (false,qD (numQ c s)):=by
 unfold numQ
 have b1:Bq (1+c / 601 % 30):=bq_of (k:=10) (by show _<1024; omega)
 have b2:Bq (1+c / 7 % 997):=bq_of (k:=10) (by show _<1024; omega)
 have p1:0<1+c / 601 % 30:=by omega
 have p2:0<1+c / 7 % 997:=by omega
 have c1:Bq 601:=bq_of (k:=10) (by decide)
 have c3:Bq 7:=bq_of (k:=10) (by decide)
 have c4:Bg 2:=bg_of (k:=10) (by decide)
 have c5:Bg (10 ^ 9):=bg_of (k:=50) (by decide)
 have c6:Bg 1000000000:=bg_of (k:=50) (by decide)
 by_cases h0:s=0
 ·subst h0
  simp [F__law_number,runF,g__law_number,c__law_number,gSeq,fBin,fVarB,fC,gMod,mdI,gIf,fCmpT,gRet,Me.let,Sl.let,fTup,fCons,fNil,F.gSub,qD]
 ·by_cases h1:s=1
  ·subst h1
   have e:=pick_is c
   simp [F__law_number,runF,g__law_number,c__law_number,gSeq,fBin,fVarB,fC,gMod,mdI,gIf,fCmpT,gRet,Me.let,Sl.let,fTup,fLst,fUn,gNeg,fCons,fNil,gNx,e,qD]
  ·by_cases h2:s=2
   ·subst h2
    simp [F__law_number,runF,g__law_number,c__law_number,gSeq,fBin,fVarB,fC,gMod,mdI,gIf,fCmpT,gRet,Me.let,Sl.let,fFn,fCons,fNil,gDiv,dvI,F.gSub,gAdd,c1,gNx,lawlow_eq p1 b1]
   ·simp [F__law_number,runF,g__law_number,c__law_number,gSeq,fBin,fVarB,fC,gMod,mdI,gIf,fCmpT,h0,h1,h2,gRet,Me.let,Sl.let,fFn,fCons,fNil,gDiv,dvI,F.gSub,gAdd,gMul,gPow,c3,c4,c5,c6,gNx,lawlow_eq p2 b2]
noncomputable def absQ (q:Q2):Q2:=(if q.1<0 then -q.1 else q.1,q.2)
noncomputable def bndQ (c s z:Int):Q2:=if z=1/\c % 4<3 then (0,1) else absQ (numQ (c / 4) s)
theorem bnd_ok (c s z:Int):NumOk (bndQ c s z)/\0<=(bndQ c s z).1:=by
 unfold bndQ
 split
 ·exact ⟨num1 (by decide),by decide⟩
 ·have h:=num_ok (c / 4) s
  refine ⟨⟨h.pos,h.b2,?_⟩,?_⟩
  ·show Int.natAbs (ite _ _ _)<_
   have:=h.b1
   split <;> omega
  ·show 0<=ite _ _ _
   split <;> omega
theorem bound_eq (c s z:Int):F__law_bound [.int c,.int s,.int z]=.ok (false,qD (bndQ c s z)):=by
 have c3:Bq 4:=bq_of (k:=10) (by decide)
 have hm:∀q:Q2,qD (absQ q)=.tup [.int (if q.1<0 then -q.1 else q.1),.int q.2]:=fun _=>rfl
 have e:=number_eq (c / 4) s
 unfold bndQ
 by_cases h0:z=1
 ·by_cases h1:c % 4<3
  ·simp [F__law_bound,runF,g__law_bound,c__law_bound,gSeq,gIf,fAndT,fCmpT,fBin,fVarB,fC,gMod,mdI,gLt,h0,h1,gRet,Me.let,Sl.let,fTup,fCons,fNil,qD]
  ·rw [if_neg (fun w=>h1 w.2),hm]
   simp [F__law_bound,runF,g__law_bound,c__law_bound,gSeq,gIf,fAndT,fCmpT,fBin,fVarB,fC,gMod,mdI,gLt,h0,h1,gRet,Me.let,Sl.let,fTup,fCons,fNil,gNx,gSet,fFn,fVar,gDiv,dvI,c3,e,qD,fCall,gAbs,gIx,ix0,ix1]
 ·rw [if_neg (fun w=>h0 w.1),hm]
  simp [F__law_bound,runF,g__law_bound,c__law_bound,gSeq,gIf,fAndT,fCmpT,fBin,fVarB,fC,gMod,mdI,h0,gRet,Me.let,Sl.let,fTup,fCons,fNil,gNx,gSet,fFn,fVar,gDiv,dvI,c3,e,qD,fCall,gAbs,gIx,ix0,ix1]
section
variable {n:Nat}
theorem frac_eq {q:Q2}(hp:0<q.2)(hg:gI q.1 q.2=1):F__law_fraction [qD q]=.ok (false,.bl true):=by
 have e:=divisor_eq (a:=q.1) hp
 rw [hg] at e
 simp [F__law_fraction,runF,g__law_fraction,c__law_fraction,gSeq,gIf,fOrT,fNotT,fTv,fIsi,fVarB,qD,kindD,subT,fCmpT,fCall,gLen,fCons,fNil,fC,gNx,L__law_fraction_2,gFor,fItT,fVar,loopL,hName,B__law_fraction_1,gRet,Me.let,Sl.let,fAnd,fCmp,fBin,gIx,ix0,ix1,gGt,gLt,hp,fFn,e]
noncomputable def QOk (q:Q2):Prop:=0<q.2/\gI q.1 q.2=1/\0<=q.1
theorem list_eq {q:Nat->Q2}(h:∀i,i<n->QOk (q i)):F__law_list [.lst (rg n fun i=>qD (q i)),.int n]=.ok (false,.bl true):=by
 obtain ⟨m',e,z,em⟩:=loop_rg (n:=n) (f:=fun i=>qD (q i)) (h:=hName 2) (k:=B__law_list_1) (m:=[.fz (.lst (rg n fun i=>qD (q i))),.fz (.int n),.un]) (fun _ m=>∃z,m=[.fz (.lst (rg n fun i=>qD (q i))),.fz (.int n),z]) ⟨_,rfl⟩ fun i m hi ⟨z,em⟩=>by
  subst em
  obtain ⟨h1,h2,h3⟩:=h i hi
  have h3':¬(q i).1<0:=by omega
  have e0:gIx (qD (q i)) (.int 0)=some (.int (q i).1):=rfl
  have eb:B__law_list_1 [.fz (.lst (rg n fun i=>qD (q i))),.fz (.int n),.fz (qD (q i))]=.ok (.nx,[.fz (.lst (rg n fun i=>qD (q i))),.fz (.int n),.fz (qD (q i))]):=by
   simp [B__law_list_1,gIf,fOrT,fNotT,fTv,fFn,fCons,fNil,fVar,fVarB,frac_eq h1 h2,fCmpT,fBin,e0,fC,gLt,h3',gNx]
  exact ⟨_,_,rfl,eb,_,rfl⟩
 subst em
 have eL:L__law_list_2 [.fz (.lst (rg n fun i=>qD (q i))),.fz (.int n),.un]=.ok (.nx,[.fz (.lst (rg n fun i=>qD (q i))),.fz (.int n),z]):=e
 simp [F__law_list,runF,g__law_list,c__law_list,gSeq,gIf,fOrT,fNotT,fTv,fIsi,fVarB,kindD,subT,fCmpT,fCall,gLen,fCons,fNil,rg_len,gNx,eL,gRet,Me.let,Sl.let,fC]
theorem most_eq {x y:Q2}(h1:Bg x.1)(h2:Bg x.2)(h3:Bg y.1)(h4:Bg y.2):F__law_most [qD x,qD y]=.ok (false,.bl (decide (x.1 * y.2<=y.1 * x.2))):=by
 simp [F__law_most,runF,g__law_most,c__law_most,gRet,Me.let,Sl.let,fCmp,fBin,fVarB,qD,fC,gIx,ix0,ix1,gMul,h1,h2,h3,h4,gLe]
end
theorem if_skip {t:Me->Res Bool}{g k:Me->Res (Fl×Me)}{m:Me}(h:t m=.ok false):gSeq (gIf t g gNx) k m=k m:=by
 unfold gSeq gIf
 rw [h]
 rfl
theorem if_take {t:Me->Res Bool}{g k:Me->Res (Fl×Me)}{m m':Me}{fr:Bool}{d:D}(h:t m=.ok true)(h2:g m=.ok (.rt fr d,m')):gSeq (gIf t g gNx) k m=.ok (.rt fr d,m'):=by
 unfold gSeq gIf
 rw [h,Res.bind_ok,if_pos rfl,h2]
theorem or_no {t u:Me->Res Bool}{m:Me}(h:t m=.ok false)(h2:u m=.ok false):fOrT t u m=.ok false:=by
 unfold fOrT
 rw [h,Res.bind_ok]
 exact h2
theorem not_yes {f:Me->Res D}{m:Me}(h:f m=.ok (.bl true)):fNotT (fTv f) m=.ok false:=by
 unfold fNotT fTv
 rw [h]
 rfl
theorem ok_rg {f:Nat->D}(h:∀i,okD (f i)=true):∀l:List Nat,okDs (l.map f)=true
 |[]=>by simp [okDs]
 |i::l=>by simp [okDs,h i,ok_rg h l]
theorem dep_rg {f:Nat->D}{k:Nat}(h:∀i,depD (f i)<=k):∀l:List Nat,depDs (l.map f)<=k
 |[]=>by simp [depDs]
 |i::l=>by
  have h1:=h i
  have h2:=dep_rg h l
  simp [depDs]; omega
theorem ok_qD (q:Q2):okD (qD q)=true:=by simp [qD,okD,okDs]
theorem dep_qD (q:Q2):depD (qD q)=1:=by simp [qD,depD,depDs]
theorem NumOk.sz {q:Q2}(h:NumOk q):BQ 30 q:=⟨h.b1,lt_mono h.b2 (by decide)⟩
theorem dt_bg {u v:Nat->Q2}{k:Nat}(hk:k<=8)(hu:∀i,NumOk (u i))(hv:∀i,QL (v i)):Bg (dt u v k).1/\Bg (dt u v k).2:=by
 obtain ⟨h1,h2⟩:=dt_lt (fun i=>(hu i).sz) (fun i=>(hv i).2.2) k
 exact ⟨bg_of h1 (by omega),bg_of h2 (by omega)⟩
theorem nn_of {q:Q2}(h:QL q)(hn:0<=vq q):QOk q:=by
 have:=(vq_le (x:=(0,1)) (y:=q) (by decide) h.1).mp (by rw [vq0]; exact hn)
 exact ⟨h.1,h.2.1,by simp at this; exact this⟩
section
variable {m n:Nat}{a:Nat->Nat->Q2}{b w x y d:Nat->Q2}
noncomputable def sR (T R B W:D)(x4 x5 x6 x7 x8 x9:Sl):Me:=[.fz T,.fz R,.fz B,.fz W,x4,x5,x6,x7,x8,x9]
noncomputable def fnd (t:Str)(U V:D):D:=.tup [.str t,U,V]
section
variable {t:Str}{U V R B W:D}{x4 x5 x6 x7 x8 x9:Sl}
theorem ix_1:(fBin gIx (fVarB 0) (fC (.int 1))) (sR (fnd t U V) R B W x4 x5 x6 x7 x8 x9)=.ok U:=rfl
theorem ix_2:(fBin gIx (fVarB 0) (fC (.int 2))) (sR (fnd t U V) R B W x4 x5 x6 x7 x8 x9)=.ok V:=rfl
theorem right_l2 (I:In m n a b w)(hx:∀j,QL (x j))(hf:Sx.Fit m n (fun i j=>vq (a i j)) (fun i=>vq (b i)) (fun j=>vq (x j))):∃x4' x5',L__law_right_2 (sR (fnd t (rowD m x) V) (rowsD m n a) (bndsD n b) W x4 x5 x6 x7 x8 x9)=.ok (.nx,sR (fnd t (rowD m x) V) (rowsD m n a) (bndsD n b) W x4' x5' x6 x7 x8 x9):=by
 obtain ⟨m',e,x4',x5',em⟩:=loop_rg (n:=n) (f:=fun i=>.tup [rowD m (a i),qD (b i)]) (h:=hTup 2 (hCons (hName 4) (hCons (hName 5) hNil))) (k:=B__law_right_1) (m:=sR (fnd t (rowD m x) V) (rowsD m n a) (bndsD n b) W x4 x5 x6 x7 x8 x9) (fun i s=>∃x4 x5,s=sR (fnd t (rowD m x) V) (rowsD m n a) (bndsD n b) W x4 x5 x6 x7 x8 x9) ⟨_,_,rfl⟩ fun i s hi ⟨x4,x5,es⟩=>by
  subst es
  obtain ⟨k1,k2⟩:=dt_bg I.m8 (I.ha i) hx
  obtain ⟨d1,d2⟩:=dt_val (u:=a i) (v:=x) (fun j=>(I.ha i j).pos) (fun j=>(hx j).1) m
  have em:=most_eq (x:=dt (a i) x m) (y:=b i) k1 k2 (I.hb i).bg.1 (I.hb i).bg.2
  rw [decide_eq_true ((vq_le d1 (I.hb i).pos).mp (by rw [d2]; exact hf.le i hi))] at em
  have ed:=dot_eq (u:=a i) (v:=x) I.m8 (fun j=>(I.ha i j).sz) (fun j=>(hx j).2.2)
  refine ⟨sR (fnd t (rowD m x) V) (rowsD m n a) (bndsD n b) W (.fz (rowD m (a i))) (.fz (qD (b i))) x6 x7 x8 x9,sR (fnd t (rowD m x) V) (rowsD m n a) (bndsD n b) W (.fz (rowD m (a i))) (.fz (qD (b i))) x6 x7 x8 x9,rfl,?_,_,_,rfl⟩
  unfold B__law_right_1 gIf
  rw [show fNotT (fTv (fFn F__law_most (fCons (fFn F__law_dot (fCons (fVar 4) (fCons (fBin gIx (fVarB 0) (fC (.int 1))) fNil))) (fCons (fVar 5) fNil)))) _=_ from not_yes (fn_ok (cons_ok (fn_ok (cons_ok (d:=rowD m (a i)) rfl (cons_ok ix_1 rfl)) ed) rfl) em)]
  rfl
 subst em
 refine ⟨x4',x5',?_⟩
 unfold L__law_right_2 gFor
 rw [show fItZ (fCons (fVar 1) (fCons (fVar 2) fNil)) (sR (fnd t (rowD m x) V) (rowsD m n a) (bndsD n b) W x4 x5 x6 x7 x8 x9)=.ok (rg n fun i=>.tup [rowD m (a i),qD (b i)]) by
  simp [fItZ,fCons,fNil,fVar,sR,rowsD,bndsD,rg_zip]]
 exact e
theorem c_gt {f:Me->Res D}{q:Q2}{s:Me}(h:f s=.ok (qD q)):fCmpT gGt (fBin gIx f (fC (.int 0))) (fC (.int 0)) s=.ok (decide (0<q.1)):=by
 unfold fCmpT fBin
 rw [h]
 rfl
theorem c_gt0 {f:Me->Res D}{q:Q2}{s:Me}(h:f s=.ok (qD q))(hx:0<q.1):fCmp gGt (fBin gIx f (fC (.int 0))) (fC (.int 0)) s=.ok (.bl true):=by
 unfold fCmp fBin
 rw [h]
 show Res.ok (D.bl (decide (0<q.1)))=_
 rw [decide_eq_true hx]
theorem right_l4 (I:In m n a b w)(hd:∀j,QL (d j))(hw:Sx.Way m n (fun i j=>vq (a i j)) (fun j=>vq (w j)) (fun j=>vq (d j))):∃x4',L__law_right_4 (sR (fnd t U (rowD m d)) (rowsD m n a) B W x4 x5 x6 x7 x8 x9)=.ok (.nx,sR (fnd t U (rowD m d)) (rowsD m n a) B W x4' x5 x6 x7 x8 x9):=by
 obtain ⟨m',e,x4',em⟩:=loop_rg (n:=n) (f:=fun i=>rowD m (a i)) (h:=hName 4) (k:=B__law_right_3) (m:=sR (fnd t U (rowD m d)) (rowsD m n a) B W x4 x5 x6 x7 x8 x9) (fun i s=>∃x4,s=sR (fnd t U (rowD m d)) (rowsD m n a) B W x4 x5 x6 x7 x8 x9) ⟨_,rfl⟩ fun i s hi ⟨x4,es⟩=>by
  subst es
  obtain ⟨d1,d2⟩:=dt_val (u:=a i) (v:=d) (fun j=>(I.ha i j).pos) (fun j=>(hd j).1) m
  have ed:=dot_eq (u:=a i) (v:=d) I.m8 (fun j=>(I.ha i j).sz) (fun j=>(hd j).2.2)
  have hz:¬0<(dt (a i) d m).1:=by
   have:=(vq_le d1 (y:=(0,1)) (by decide)).mp (by rw [d2,vq0]; exact hw.le i hi)
   simp at this; omega
  refine ⟨sR (fnd t U (rowD m d)) (rowsD m n a) B W (.fz (rowD m (a i))) x5 x6 x7 x8 x9,sR (fnd t U (rowD m d)) (rowsD m n a) B W (.fz (rowD m (a i))) x5 x6 x7 x8 x9,rfl,?_,_,rfl⟩
  unfold B__law_right_3 gIf
  rw [show fCmpT gGt (fBin gIx (fFn F__law_dot (fCons (fVar 4) (fCons (fBin gIx (fVarB 0) (fC (.int 2))) fNil))) (fC (.int 0))) (fC (.int 0)) _=_ from c_gt (fn_ok (cons_ok (d:=rowD m (a i)) rfl (cons_ok ix_2 rfl)) ed),decide_eq_false hz]
  rfl
 subst em
 exact ⟨x4',e⟩
theorem right_q6 {i:Nat}{z:Sl}(hn:n<=8)(hi:i<m):Q__law_right_6 (sR (fnd t U V) (rowsD m n a) B W x4 x5 (.fz (.int i)) z x8 x9)=.ok (rowD n fun r=>a r i):=by
 have hl:n<=16777216:=by omega
 have ec:=comp_rg (n:=n) (f:=fun r=>rowD m (a r)) (h:=hName 0) (ft:=fAll) (fe:=E__law_right_5) (m0:=[.un,.fz (.int i)]) (fun r=>qD (a r i)) fun r hr=>⟨[.fz (rowD m (a r)),.fz (.int i)],rfl,rfl,by
  have:gIx (rowD m (a r)) (.int i)=some (qD (a r i)):=rg_at hi
  simp [E__law_right_5,fBin,fVarB,this]⟩
 unfold Q__law_right_6 fComp
 rw [show fItL (fVarB 1) (sR (fnd t U V) (rowsD m n a) B W x4 x5 (.fz (.int i)) z x8 x9)=.ok (rg n fun r=>rowD m (a r)) from rfl]
 simp [sR,cMe,Sl.bor,rg_len,hl,ec]
 rfl
theorem right_l8 (I:In m n a b w)(hy:∀j,QL (y j))(hp:Sx.Paid m n (fun i j=>vq (a i j)) (fun i=>vq (b i)) (fun j=>vq (w j)) (fun j=>vq (x j)) (fun i=>vq (y i))):∃x6' x7',L__law_right_8 (sR (fnd t U (rowD n y)) (rowsD m n a) B (rowD m w) x4 x5 x6 x7 x8 x9)=.ok (.nx,sR (fnd t U (rowD n y)) (rowsD m n a) B (rowD m w) x4 x5 x6' x7' x8 x9):=by
 obtain ⟨m',e,x6',x7',em⟩:=loop_rg (n:=m) (f:=fun i=>.tup [.int i,qD (w i)]) (h:=hTup 2 (hCons (hName 6) (hCons (hName 7) hNil))) (k:=B__law_right_7) (m:=sR (fnd t U (rowD n y)) (rowsD m n a) B (rowD m w) x4 x5 x6 x7 x8 x9) (fun i s=>∃x6 x7,s=sR (fnd t U (rowD n y)) (rowsD m n a) B (rowD m w) x4 x5 x6 x7 x8 x9) ⟨_,_,rfl⟩ fun i s hi ⟨x6,x7,es⟩=>by
  subst es
  obtain ⟨k1,k2⟩:=dt_bg (u:=fun r=>a r i) I.n8 (fun r=>I.ha r i) hy
  obtain ⟨d1,d2⟩:=dt_val (u:=fun r=>a r i) (v:=y) (fun r=>(I.ha r i).pos) (fun j=>(hy j).1) n
  have em:=most_eq (x:=w i) (y:=dt (fun r=>a r i) y n) (I.hw i).bg.1 (I.hw i).bg.2 k1 k2
  rw [decide_eq_true ((vq_le (I.hw i).pos d1).mp (by rw [d2]; exact hp.ge i hi))] at em
  have ed:=dot_eq (u:=fun r=>a r i) (v:=y) I.n8 (fun r=>(I.ha r i).sz) (fun j=>(hy j).2.2)
  refine ⟨sR (fnd t U (rowD n y)) (rowsD m n a) B (rowD m w) x4 x5 (.fz (.int i)) (.fz (qD (w i))) x8 x9,sR (fnd t U (rowD n y)) (rowsD m n a) B (rowD m w) x4 x5 (.fz (.int i)) (.fz (qD (w i))) x8 x9,rfl,?_,_,_,rfl⟩
  unfold B__law_right_7 gIf
  rw [show fNotT (fTv (fFn F__law_most (fCons (fVar 7) (fCons (fFn F__law_dot (fCons Q__law_right_6 (fCons (fBin gIx (fVarB 0) (fC (.int 2))) fNil))) fNil)))) _=_ from not_yes (fn_ok (cons_ok (d:=qD (w i)) rfl (cons_ok (fn_ok (cons_ok (right_q6 (a:=a) I.n8 hi) (cons_ok ix_2 rfl)) ed) rfl)) em)]
  rfl
 subst em
 refine ⟨x6',x7',?_⟩
 unfold L__law_right_8 gFor
 rw [show fItE (fCons (fVar 3) fNil) (sR (fnd t U (rowD n y)) (rowsD m n a) B (rowD m w) x4 x5 x6 x7 x8 x9)=.ok (rg m fun i=>.tup [.int i,qD (w i)]) by
  simp [fItE,fCons,fNil,fVar,sR,rowD,rg_enum]]
 exact e
end
theorem len_row {k:Nat}{u:Nat->Q2}{s:Me}{i:Nat}(h:fVarB i s=.ok (rowD k u)):(fCall gLen (fCons (fVarB i) fNil)) s=.ok (.int k):=by
 simp [fCall,fCons,fNil,h,gLen,rowD,rg_len]
theorem right_best (I:In m n a b w)(hx:∀j,QL (x j))(hf:Sx.Fit m n (fun i j=>vq (a i j)) (fun i=>vq (b i)) (fun j=>vq (x j)))(hy:∀i,QL (y i))(hp:Sx.Paid m n (fun i j=>vq (a i j)) (fun i=>vq (b i)) (fun j=>vq (w j)) (fun j=>vq (x j)) (fun i=>vq (y i))):
  F__law_right [fnd "best" (rowD m x) (rowD n y),rowsD m n a,bndsD n b,rowD m w]=.ok (false,.bl true):=by
 obtain ⟨x4,x5,e2⟩:=right_l2 (t:="best") (V:=rowD n y) (W:=rowD m w) (x4:=.un) (x5:=.un) (x6:=.un) (x7:=.un) (x8:=.un) (x9:=.un) I hx hf
 obtain ⟨x6,x7,e8⟩:=right_l8 (t:="best") (U:=rowD m x) (B:=bndsD n b) (x4:=x4) (x5:=x5) (x6:=.un) (x7:=.un) (x8:=.un) (x9:=.un) I hy hp
 have l1:F__law_list [rowD m x,.int m]=.ok (false,.bl true):=list_eq (n:=m) (q:=x) fun i hi=>nn_of (hx i) (hf.nn i hi)
 have l2:F__law_list [rowD n y,.int n]=.ok (false,.bl true):=list_eq (n:=n) (q:=y) fun i hi=>nn_of (hy i) (hp.nn i hi)
 have lr:(fCall gLen (fCons (fVarB 1) fNil)) (sR (fnd "best" (rowD m x) (rowD n y)) (rowsD m n a) (bndsD n b) (rowD m w) x4 x5 .un .un .un .un)=.ok (.int n):=by simp [fCall,fCons,fNil,fVarB,sR,gLen,rowsD,rg_len]
 obtain ⟨k1,k2⟩:=dt_bg I.m8 I.hw hx
 obtain ⟨k3,k4⟩:=dt_bg I.n8 I.hb hy
 obtain ⟨d1,d2⟩:=dt_val (u:=w) (v:=x) (fun j=>(I.hw j).pos) (fun j=>(hx j).1) m
 obtain ⟨d3,d4⟩:=dt_val (u:=b) (v:=y) (fun j=>(I.hb j).pos) (fun j=>(hy j).1) n
 have w1:=dot_eq (u:=w) (v:=x) I.m8 (fun j=>(I.hw j).sz) (fun j=>(hx j).2.2)
 have w2:=dot_eq (u:=b) (v:=y) I.n8 (fun j=>(I.hb j).sz) (fun j=>(hy j).2.2)
 have ke:(dt w x m).1 * (dt b y n).2=(dt b y n).1 * (dt w x m).2:=(vq_eq d1 d3).mp (by rw [d2,d4]; exact hp.eq)
 have s8:gSet 8 (fFn F__law_dot (fCons (fVar 3) (fCons (fBin gIx (fVarB 0) (fC (.int 1))) fNil))) (sR (fnd "best" (rowD m x) (rowD n y)) (rowsD m n a) (bndsD n b) (rowD m w) x4 x5 x6 x7 .un .un)=.ok (.nx,sR (fnd "best" (rowD m x) (rowD n y)) (rowsD m n a) (bndsD n b) (rowD m w) x4 x5 x6 x7 (.fz (qD (dt w x m))) .un):=by
  unfold gSet
  rw [fn_ok (cons_ok (d:=rowD m w) rfl (cons_ok ix_1 rfl)) w1]
  rfl
 have s9:gSet 9 (fFn F__law_dot (fCons (fVar 2) (fCons (fBin gIx (fVarB 0) (fC (.int 2))) fNil))) (sR (fnd "best" (rowD m x) (rowD n y)) (rowsD m n a) (bndsD n b) (rowD m w) x4 x5 x6 x7 (.fz (qD (dt w x m))) .un)=.ok (.nx,sR (fnd "best" (rowD m x) (rowD n y)) (rowsD m n a) (bndsD n b) (rowD m w) x4 x5 x6 x7 (.fz (qD (dt w x m))) (.fz (qD (dt b y n)))):=by
  unfold gSet
  rw [fn_ok (cons_ok (d:=rowD n b) rfl (cons_ok ix_2 rfl)) w2]
  rfl
 have sr:gRet (fCmp gEq (fBin gMul (fBin gIx (fVarB 8) (fC (.int 0))) (fBin gIx (fVarB 9) (fC (.int 1)))) (fBin gMul (fBin gIx (fVarB 9) (fC (.int 0))) (fBin gIx (fVarB 8) (fC (.int 1))))) (sR (fnd "best" (rowD m x) (rowD n y)) (rowsD m n a) (bndsD n b) (rowD m w) x4 x5 x6 x7 (.fz (qD (dt w x m))) (.fz (qD (dt b y n))))=.ok (.rt false (.bl true),Me.let (sR (fnd "best" (rowD m x) (rowD n y)) (rowsD m n a) (bndsD n b) (rowD m w) x4 x5 x6 x7 (.fz (qD (dt w x m))) (.fz (qD (dt b y n))))):=by
  generalize dt w x m=p at *
  generalize dt b y n=q at *
  simp [gRet,Me.let,sR,Sl.let,fCmp,fBin,fVarB,qD,fC,gIx,ix0,ix1,gMul,k1,k2,k3,k4,ke]
 have eg:g__law_right (sR (fnd "best" (rowD m x) (rowD n y)) (rowsD m n a) (bndsD n b) (rowD m w) .un .un .un .un .un .un)=.ok (.rt false (.bl true),Me.let (sR (fnd "best" (rowD m x) (rowD n y)) (rowsD m n a) (bndsD n b) (rowD m w) x4 x5 x6 x7 (.fz (qD (dt w x m))) (.fz (qD (dt b y n))))):=by
  unfold g__law_right c__law_right
  refine (if_skip (or_no (not_yes rfl) (or_no rfl (not_yes (fn_ok (cons_ok ix_1 (cons_ok (len_row (u:=w) rfl) rfl)) l1))))).trans ?_
  rw [seq_ok e2]
  refine (if_skip rfl).trans ?_
  refine (if_skip (or_no rfl (not_yes (fn_ok (cons_ok ix_2 (cons_ok lr rfl)) l2)))).trans ?_
  rw [seq_ok e8,seq_ok s8,seq_ok s9]
  exact sr
 exact runF_rt rfl eg
theorem right_endless (I:In m n a b w)(hx:∀j,QL (x j))(hf:Sx.Fit m n (fun i j=>vq (a i j)) (fun i=>vq (b i)) (fun j=>vq (x j)))(hd:∀i,QL (d i))(hw:Sx.Way m n (fun i j=>vq (a i j)) (fun j=>vq (w j)) (fun j=>vq (d j))):
  F__law_right [fnd "endless" (rowD m x) (rowD m d),rowsD m n a,bndsD n b,rowD m w]=.ok (false,.bl true):=by
 obtain ⟨x4,x5,e2⟩:=right_l2 (t:="endless") (V:=rowD m d) (W:=rowD m w) (x4:=.un) (x5:=.un) (x6:=.un) (x7:=.un) (x8:=.un) (x9:=.un) I hx hf
 obtain ⟨x4',e4⟩:=right_l4 (t:="endless") (U:=rowD m x) (B:=bndsD n b) (W:=rowD m w) (x4:=x4) (x5:=x5) (x6:=.un) (x7:=.un) (x8:=.un) (x9:=.un) I hd hw
 have l1:F__law_list [rowD m x,.int m]=.ok (false,.bl true):=list_eq (n:=m) (q:=x) fun i hi=>nn_of (hx i) (hf.nn i hi)
 have l2:F__law_list [rowD m d,.int m]=.ok (false,.bl true):=list_eq (n:=m) (q:=d) fun i hi=>nn_of (hd i) (hw.nn i hi)
 obtain ⟨d1,d2⟩:=dt_val (u:=w) (v:=d) (fun j=>(I.hw j).pos) (fun j=>(hd j).1) m
 have w1:=dot_eq (u:=w) (v:=d) I.m8 (fun j=>(I.hw j).sz) (fun j=>(hd j).2.2)
 have kp:0<(dt w d m).1:=by
  by_cases z:0<(dt w d m).1
  ·exact z
  ·have:=(vq_le d1 (y:=(0,1)) (by decide)).mpr (by simp; omega)
   rw [d2,vq0] at this
   have p:=hw.pos
   grind
 have sr:gRet (fCmp gGt (fBin gIx (fFn F__law_dot (fCons (fVar 3) (fCons (fBin gIx (fVarB 0) (fC (.int 2))) fNil))) (fC (.int 0))) (fC (.int 0))) (sR (fnd "endless" (rowD m x) (rowD m d)) (rowsD m n a) (bndsD n b) (rowD m w) x4' x5 .un .un .un .un)=.ok (.rt false (.bl true),Me.let (sR (fnd "endless" (rowD m x) (rowD m d)) (rowsD m n a) (bndsD n b) (rowD m w) x4' x5 .un .un .un .un)):=by
  unfold gRet
  rw [c_gt0 (fn_ok (ds:=[rowD m w,rowD m d]) rfl w1) kp]
  rfl
 have eg:g__law_right (sR (fnd "endless" (rowD m x) (rowD m d)) (rowsD m n a) (bndsD n b) (rowD m w) .un .un .un .un .un .un)=.ok (.rt false (.bl true),Me.let (sR (fnd "endless" (rowD m x) (rowD m d)) (rowsD m n a) (bndsD n b) (rowD m w) x4' x5 .un .un .un .un)):=by
  unfold g__law_right c__law_right
  refine (if_skip (or_no (not_yes rfl) (or_no rfl (not_yes (fn_ok (cons_ok ix_1 (cons_ok (len_row (u:=w) rfl) rfl)) l1))))).trans ?_
  rw [seq_ok e2]
  refine if_take rfl ?_
  refine (if_skip (not_yes (fn_ok (cons_ok ix_2 (cons_ok (len_row (u:=w) rfl) rfl)) l2))).trans ?_
  rw [seq_ok e4]
  exact sr
 exact runF_rt rfl eg
theorem solved (I:In m n a b w):∃t u v k,(k<=8/\PyData.strOk t=true)/\F_solve [rowsD m n a,bndsD n b,rowD m w]=.ok (true,fnd t (rowD m u) (rowD k v))/\F__law_right [fnd t (rowD m u) (rowD k v),rowsD m n a,bndsD n b,rowD m w]=.ok (false,.bl true):=by
 obtain ⟨x,hx,hf,⟨y,e,hy,hp⟩ | ⟨d,e,hd,hw⟩⟩:=solve_ok I
 ·exact ⟨"best",x,y,n,⟨I.n8,by decide +kernel⟩,e,right_best I hx hf hy hp⟩
 ·exact ⟨"endless",x,d,m,⟨I.m8,by decide +kernel⟩,e,right_endless I hx hf hd hw⟩
end
open PySem L2 Hd F
noncomputable def w0:List Q2:=[(10,1),(-57,1),(-9,1),(-24,1)]
noncomputable def r0:List (List Q2):=[[(1,2),(-11,2),(-5,2),(9,1)],[(1,2),(-3,2),(-1,2),(1,1)],[(1,1),(0,1),(0,1),(0,1)]]
noncomputable def b0:List Q2:=[(0,1),(0,1),(1,1)]
noncomputable def dQ (l:List Q2):D:=.lst (l.map qD)
noncomputable def dR (l:List (List Q2)):D:=.lst (l.map dQ)
noncomputable def rot {α:Type}(k:Nat)(l:List α):List α:=l.drop k++l.take k
noncomputable def aR (u l r j:Nat):Q2:=(rot l ((rot u r0).getD r [])).getD j (0,1)
noncomputable def bR (u r:Nat):Q2:=(rot u b0).getD r (0,1)
noncomputable def wR (l j:Nat):Q2:=(rot l w0).getD j (0,1)
theorem rot_mem {α:Type}{k:Nat}{l:List α}{x:α}(h:x∈rot k l):x∈l:=by
 rcases List.mem_append.mp h with h | h
 ·exact List.mem_of_mem_drop h
 ·exact List.mem_of_mem_take h
theorem getD_pr {α:Type}{P:α->Prop}{l:List α}{d:α}{j:Nat}(h:∀x∈l,P x)(hd:P d):P (l.getD j d):=by
 rw [List.getD_eq_getElem?_getD]
 cases e:l[j]? with
 |none=>exact hd
 |some x=>exact h x (List.mem_of_getElem? e)
theorem n2 {x y:Int}(h:(decide (0<y) && decide (y.natAbs<1024) && decide (x.natAbs<1073741824))=true):NumOk (x,y):=by
 simp at h
 exact ⟨h.1.1,h.1.2,h.2⟩
theorem all_n {l:List Q2}(h:(l.all fun q=>decide (0<q.2) && decide (q.2.natAbs<1024) && decide (q.1.natAbs<1073741824))=true):∀q∈l,NumOk q:=fun q hq=>n2 (List.all_eq_true.mp h q hq)
theorem n01:NumOk (0,1):=n2 (by decide)
theorem in_rot (u l:Nat):In 4 3 (aR u l) (bR u) (wR l) where
 m8:=by decide
 n8:=by decide
 ha:=fun r j=>getD_pr (fun q hq=>getD_pr (P:=fun L=>∀q∈L,NumOk q) (l:=rot u r0) (fun L hL=>by
  have:∀L∈r0,∀q∈L,NumOk q:=fun L hL=>by
   rcases List.mem_cons.mp hL with rfl | hL
   ·exact all_n (by decide)
   rcases List.mem_cons.mp hL with rfl | hL
   ·exact all_n (by decide)
   rcases List.mem_cons.mp hL with rfl | hL
   ·exact all_n (by decide)
   cases hL
  exact this L (rot_mem hL)) (fun _ z=>by cases z) q (rot_mem hq)) n01
 hb:=fun r=>getD_pr (fun q hq=>all_n (l:=b0) (by decide) q (rot_mem hq)) n01
 b0:=fun r=>getD_pr (P:=fun q:Q2=>0<=q.1) (fun q hq=>of_decide_eq_true (List.all_eq_true.mp (show (b0.all fun q=>decide (0<=q.1))=true by decide) q (rot_mem hq))) (by decide)
 hw:=fun j=>getD_pr (fun q hq=>all_n (l:=w0) (by decide) q (rot_mem hq)) n01
theorem list_row {m:Nat}{u:Nat->Q2}{i:Nat}{s:Me}(h:fVarB i s=.ok (rowD m u)):(fCall gList (fCons (fVarB i) fNil)) s=.ok (rowD m u):=by
 simp [fCall,fCons,fNil,h,gList,rowD]
section
variable {m n:Nat}{a:Nat->Nat->Q2}
theorem rr_q4 {x0 x1 x2 x3 x4 x5 x6 x8 x9:Sl}(hn:n<=8):Q__law_round_right_4 [x0,x1,x2,x3,x4,x5,x6,.fz (rowsD m n a),x8,x9]=.ok (rowsD m n a):=by
 have hl:n<=16777216:=by omega
 have ec:=comp_rg (n:=n) (f:=fun r=>rowD m (a r)) (h:=hName 0) (ft:=fAll) (fe:=E__law_round_right_3) (m0:=[.un]) (fun r=>rowD m (a r)) fun r hr=>⟨[.fz (rowD m (a r))],rfl,rfl,list_row rfl⟩
 unfold Q__law_round_right_4 fComp
 rw [show fItL (fVarB 7) [x0,x1,x2,x3,x4,x5,x6,.fz (rowsD m n a),x8,x9]=.ok (rg n fun r=>rowD m (a r)) from rfl]
 simp [cMe,Sl.bor,rg_len,hl,ec]
 rfl
end
noncomputable def sQ (c:D)(t x5 x6 x7 x8 x9:Sl):Me:=[.fz c,.fz (dQ w0),.fz (dR r0),.fz (dQ b0),t,x5,x6,x7,x8,x9]
theorem rbd {c:D}{t l' u':Int}{u l:Nat}{x5 x6 x7 x8 x9:Sl}(I:In 4 3 (aR u l) (bR u) (wR l))
  (e5:gSet 5 (fBin gMod (fVarB 4) (fC (.int 4))) (sQ c (.fz (.int t)) x5 x6 x7 x8 x9)=.ok (.nx,sQ c (.fz (.int t)) (.fz (.int l')) x6 x7 x8 x9))
  (e6:gSet 6 (fBin gDiv (fVarB 4) (fC (.int 4))) (sQ c (.fz (.int t)) (.fz (.int l')) x6 x7 x8 x9)=.ok (.nx,sQ c (.fz (.int t)) (.fz (.int l')) (.fz (.int u')) x7 x8 x9))
  (e7:gSet 7 Q__law_round_right_2 (sQ c (.fz (.int t)) (.fz (.int l')) (.fz (.int u')) x7 x8 x9)=.ok (.nx,sQ c (.fz (.int t)) (.fz (.int l')) (.fz (.int u')) (.fz (rowsD 4 3 (aR u l))) x8 x9))
  (e8:gSet 8 (fBin gAdd (fSl (fVarB 3) (fO1 (fVarB 6)) fO0) (fSl (fVarB 3) fO0 (fO1 (fVarB 6)))) (sQ c (.fz (.int t)) (.fz (.int l')) (.fz (.int u')) (.fz (rowsD 4 3 (aR u l))) x8 x9)=.ok (.nx,sQ c (.fz (.int t)) (.fz (.int l')) (.fz (.int u')) (.fz (rowsD 4 3 (aR u l))) (.fz (bndsD 3 (bR u))) x9))
  (e9:gSet 9 (fBin gAdd (fSl (fVarB 1) (fO1 (fVarB 5)) fO0) (fSl (fVarB 1) fO0 (fO1 (fVarB 5)))) (sQ c (.fz (.int t)) (.fz (.int l')) (.fz (.int u')) (.fz (rowsD 4 3 (aR u l))) (.fz (bndsD 3 (bR u))) x9)=.ok (.nx,sQ c (.fz (.int t)) (.fz (.int l')) (.fz (.int u')) (.fz (rowsD 4 3 (aR u l))) (.fz (bndsD 3 (bR u))) (.fz (rowD 4 (wR l))))):
  B__law_round_right_5 (sQ c (.fz (.int t)) x5 x6 x7 x8 x9)=.ok (.nx,sQ c (.fz (.int t)) (.fz (.int l')) (.fz (.int u')) (.fz (rowsD 4 3 (aR u l))) (.fz (bndsD 3 (bR u))) (.fz (rowD 4 (wR l)))):=by
 obtain ⟨t',U,V,k,_,es,er⟩:=solved I
 unfold B__law_round_right_5
 rw [seq_ok e5,seq_ok e6,seq_ok e7,seq_ok e8,seq_ok e9]
 unfold gIf
 rw [show fNotT (fTv (fFn F__law_right (fCons (fFn F_solve (fCons Q__law_round_right_4 (fCons (fCall gList (fCons (fVarB 8) fNil)) (fCons (fCall gList (fCons (fVarB 9) fNil)) fNil)))) (fCons (fVar 7) (fCons (fVar 8) (fCons (fVar 9) fNil)))))) (sQ c (.fz (.int t)) (.fz (.int l')) (.fz (.int u')) (.fz (rowsD 4 3 (aR u l))) (.fz (bndsD 3 (bR u))) (.fz (rowD 4 (wR l))))=.ok false from not_yes (fn_ok (cons_ok (fn_ok (cons_ok (rr_q4 (by decide)) (cons_ok (list_row (m:=3) rfl) (cons_ok (list_row (m:=4) rfl) rfl))) es) (ds:=[rowsD 4 3 (aR u l),bndsD 3 (bR u),rowD 4 (wR l)]) rfl) er)]
 rfl
theorem rbs {c:D}{t:Int}{x5 x6 x7 x8 x9:Sl}(h0:0<=t)(h:t<12):∃y5 y6 y7 y8 y9,B__law_round_right_5 (sQ c (.fz (.int t)) x5 x6 x7 x8 x9)=.ok (.nx,sQ c (.fz (.int t)) y5 y6 y7 y8 y9):=by
 have:t=0\/t=1\/t=2\/t=3\/t=4\/t=5\/t=6\/t=7\/t=8\/t=9\/t=10\/t=11:=by omega
 rcases this with rfl | rfl | rfl | rfl | rfl | rfl | rfl | rfl | rfl | rfl | rfl | rfl
 ·exact ⟨_,_,_,_,_,rbd (u:=0) (l:=0) (u':=0) (l':=0) (in_rot 0 0) (by kernel_rfl) (by kernel_rfl) (by kernel_rfl) (by kernel_rfl) (by kernel_rfl)⟩
 ·exact ⟨_,_,_,_,_,rbd (u:=0) (l:=1) (u':=0) (l':=1) (in_rot 0 1) (by kernel_rfl) (by kernel_rfl) (by kernel_rfl) (by kernel_rfl) (by kernel_rfl)⟩
 ·exact ⟨_,_,_,_,_,rbd (u:=0) (l:=2) (u':=0) (l':=2) (in_rot 0 2) (by kernel_rfl) (by kernel_rfl) (by kernel_rfl) (by kernel_rfl) (by kernel_rfl)⟩
 ·exact ⟨_,_,_,_,_,rbd (u:=0) (l:=3) (u':=0) (l':=3) (in_rot 0 3) (by kernel_rfl) (by kernel_rfl) (by kernel_rfl) (by kernel_rfl) (by kernel_rfl)⟩
 ·exact ⟨_,_,_,_,_,rbd (u:=1) (l:=0) (u':=1) (l':=0) (in_rot 1 0) (by kernel_rfl) (by kernel_rfl) (by kernel_rfl) (by kernel_rfl) (by kernel_rfl)⟩
 ·exact ⟨_,_,_,_,_,rbd (u:=1) (l:=1) (u':=1) (l':=1) (in_rot 1 1) (by kernel_rfl) (by kernel_rfl) (by kernel_rfl) (by kernel_rfl) (by kernel_rfl)⟩
 ·exact ⟨_,_,_,_,_,rbd (u:=1) (l:=2) (u':=1) (l':=2) (in_rot 1 2) (by kernel_rfl) (by kernel_rfl) (by kernel_rfl) (by kernel_rfl) (by kernel_rfl)⟩
 ·exact ⟨_,_,_,_,_,rbd (u:=1) (l:=3) (u':=1) (l':=3) (in_rot 1 3) (by kernel_rfl) (by kernel_rfl) (by kernel_rfl) (by kernel_rfl) (by kernel_rfl)⟩
 ·exact ⟨_,_,_,_,_,rbd (u:=2) (l:=0) (u':=2) (l':=0) (in_rot 2 0) (by kernel_rfl) (by kernel_rfl) (by kernel_rfl) (by kernel_rfl) (by kernel_rfl)⟩
 ·exact ⟨_,_,_,_,_,rbd (u:=2) (l:=1) (u':=2) (l':=1) (in_rot 2 1) (by kernel_rfl) (by kernel_rfl) (by kernel_rfl) (by kernel_rfl) (by kernel_rfl)⟩
 ·exact ⟨_,_,_,_,_,rbd (u:=2) (l:=2) (u':=2) (l':=2) (in_rot 2 2) (by kernel_rfl) (by kernel_rfl) (by kernel_rfl) (by kernel_rfl) (by kernel_rfl)⟩
 ·exact ⟨_,_,_,_,_,rbd (u:=2) (l:=3) (u':=2) (l':=3) (in_rot 2 3) (by kernel_rfl) (by kernel_rfl) (by kernel_rfl) (by kernel_rfl) (by kernel_rfl)⟩
theorem lp_cons {h:D->Me->Option Me}{k:Me->Res (Fl×Me)}{x:D}{xs:List D}{m m1 m2:Me}(e1:h x m=some m1)(e2:k m1=.ok (.nx,m2)):loopL h k (x::xs) m=loopL h k xs m2:=by
 rw [loopL,e1]
 simp only [e2]
theorem round_eq (c:Int):F__law_round_right [.int c]=.ok (false,.bl true):=by
 obtain ⟨y5,y6,y7,y8,y9,e1⟩:=rbs (c:=.int c) (t:=0) (x5:=.un) (x6:=.un) (x7:=.un) (x8:=.un) (x9:=.un) (by decide) (by decide)
 obtain ⟨z5,z6,z7,z8,z9,e2⟩:=rbs (c:=.int c) (t:=c % 12) (x5:=y5) (x6:=y6) (x7:=y7) (x8:=y8) (x9:=y9) (by omega) (by omega)
 have el:L__law_round_right_6 (sQ (.int c) .un .un .un .un .un .un)=.ok (.nx,sQ (.int c) (.fz (.int (c % 12))) z5 z6 z7 z8 z9):=by
  unfold L__law_round_right_6 gFor
  rw [show fItT (fTup (fCons (fC (.int 0)) (fCons (fBin gMod (fVarB 0) (fC (.int 12))) fNil))) (sQ (.int c) .un .un .un .un .un .un)=.ok [.int 0,.int (c % 12)] by simp [fItT,fTup,fCons,fNil,fC,fBin,fVarB,sQ,gMod,mdI],Res.bind_ok]
  rw [lp_cons (m1:=sQ (.int c) (.fz (.int 0)) .un .un .un .un .un) rfl e1,lp_cons (m1:=sQ (.int c) (.fz (.int (c % 12))) y5 y6 y7 y8 y9) rfl e2]
  rfl
 have eg:g__law_round_right [.fz (.int c),.un,.un,.un,.un,.un,.un,.un,.un,.un]=.ok (.rt false (.bl true),Me.let (sQ (.int c) (.fz (.int (c % 12))) z5 z6 z7 z8 z9)):=by
  unfold g__law_round_right c__law_round_right
  refine (seq_ok (m':=[.fz (.int c),.fz (dQ w0),.un,.un,.un,.un,.un,.un,.un,.un]) rfl).trans ?_
  refine (seq_ok (m':=[.fz (.int c),.fz (dQ w0),.fz (dR r0),.un,.un,.un,.un,.un,.un,.un]) rfl).trans ?_
  refine (seq_ok (m':=sQ (.int c) .un .un .un .un .un .un) rfl).trans ?_
  rw [seq_ok el]
  rfl
 exact runF_rt rfl eg
open PySem L2 Hd F
noncomputable def cl (ns:List Int)(k:Nat):Int:=ns.getD k 0
section
variable {ns:List Int}{m n t:Nat}{s z:Int}{x1 x2 x3 x5 x7 x8 x9 x10 x11 x12 x13 x14 x15:Sl}
theorem e1_eq {j:Nat}:E_law_1 [.fz (.int j),.fz (.int s),.fz (.lst (ns.map D.int)),.fz (.int t)]=.ok (qD (numQ (cl ns (t+j)) s)):=by
 have ck:F__law_cell_at [(.lst (ns.map D.int)),.int ((t:Int)+j)]=.ok (false,.int (cl ns (t+j))):=cell_eq ns (t+j)
 have es:fCons (fVar 2) (fCons (fBin gAdd (fVarB 3) (fVarB 0)) fNil) [.fz (.int j),.fz (.int s),.fz (.lst (ns.map D.int)),.fz (.int t)]=.ok [(.lst (ns.map D.int)),.int ((t:Int)+j)]:=by
  simp [fCons,fNil,fVar,fBin,fVarB,gAdd]
 unfold E_law_1
 rw [fn_ok (cons_ok (fn_ok es ck) (ds:=[.int s]) rfl) (number_eq _ _)]
theorem q2_eq (hm:m<=8):Q_law_2 [.fz (.lst (ns.map D.int)),x1,x2,.fz (.int m),.fz (.int s),x5,.fz (.int t),x7,x8,x9,x10,x11,x12,x13,x14,x15]=.ok (rowD m fun j=>numQ (cl ns (t+j)) s):=by
 have hl:m<=16777216:=by omega
 have ei:=itR (f:=fCons (fVarB 3) fNil) (m:=[.fz (.lst (ns.map D.int)),x1,x2,.fz (.int m),.fz (.int s),x5,.fz (.int t),x7,x8,x9,x10,x11,x12,x13,x14,x15]) (j:=m) (n:=m) rfl rfl (by omega)
 have ec:=comp_rg (n:=m) (f:=fun i=>.int i) (h:=hName 0) (ft:=fAll) (fe:=E_law_1) (m0:=[.un,.fz (.int s),.fz (.lst (ns.map D.int)),.fz (.int t)]) (fun j=>qD (numQ (cl ns (t+j)) s)) fun j hj=>⟨_,rfl,rfl,e1_eq⟩
 unfold Q_law_2 fComp
 rw [ei]
 simp [cMe,Sl.bor,rg_len,hl,ec]
 rfl
theorem q6_eq (hm:m<=8):Q_law_6 [.fz (.lst (ns.map D.int)),x1,x2,.fz (.int m),.fz (.int s),x5,.fz (.int t),x7,x8,x9,x10,x11,x12,x13,x14,x15]=.ok (rowD m fun j=>numQ (cl ns (t+j)) s):=q2_eq hm
theorem q4_eq (hn:n<=8):Q_law_4 [.fz (.lst (ns.map D.int)),x1,.fz (.int n),x3,.fz (.int s),.fz (.int z),.fz (.int t),x7,x8,x9,x10,x11,x12,x13,x14,x15]=.ok (bndsD n fun j=>bndQ (cl ns (t+j)) s z):=by
 have hl:n<=16777216:=by omega
 have ei:=itR (f:=fCons (fVarB 2) fNil) (m:=[.fz (.lst (ns.map D.int)),x1,.fz (.int n),x3,.fz (.int s),.fz (.int z),.fz (.int t),x7,x8,x9,x10,x11,x12,x13,x14,x15]) (j:=n) (n:=n) rfl rfl (by omega)
 have ec:=comp_rg (n:=n) (f:=fun i=>.int i) (h:=hName 0) (ft:=fAll) (fe:=E_law_3) (m0:=[.un,.fz (.int s),.fz (.int z),.fz (.lst (ns.map D.int)),.fz (.int t)]) (fun j=>qD (bndQ (cl ns (t+j)) s z)) fun j hj=>⟨_,rfl,rfl,by
  have ck:F__law_cell_at [(.lst (ns.map D.int)),.int ((t:Int)+j)]=.ok (false,.int (cl ns (t+j))):=cell_eq ns (t+j)
  have es:fCons (fVar 3) (fCons (fBin gAdd (fVarB 4) (fVarB 0)) fNil) [.fz (.int j),.fz (.int s),.fz (.int z),.fz (.lst (ns.map D.int)),.fz (.int t)]=.ok [(.lst (ns.map D.int)),.int ((t:Int)+j)]:=by
   simp [fCons,fNil,fVar,fBin,fVarB,gAdd]
  unfold E_law_3
  exact fn_ok (cons_ok (fn_ok es ck) (ds:=[.int s,.int z]) rfl) (bound_eq _ _ _)⟩
 unfold Q_law_4 fComp
 rw [ei]
 simp [cMe,Sl.bor,rg_len,hl,ec]
 rfl
theorem q10_eq {a:Nat->Nat->Q2}{x0 x4 x6:Sl}(hn:n<=8):Q_law_10 [x0,x1,x2,x3,x4,x5,x6,x7,x8,.fz (rowsD m n a),x10,x11,x12,x13,x14,x15]=.ok (rowsD m n a):=by
 have hl:n<=16777216:=by omega
 have ec:=comp_rg (n:=n) (f:=fun r=>rowD m (a r)) (h:=hName 0) (ft:=fAll) (fe:=E_law_9) (m0:=[.un]) (fun r=>rowD m (a r)) fun r hr=>⟨[.fz (rowD m (a r))],rfl,rfl,list_row rfl⟩
 unfold Q_law_10 fComp
 rw [show fItL (fVarB 9) [x0,x1,x2,x3,x4,x5,x6,x7,x8,.fz (rowsD m n a),x10,x11,x12,x13,x14,x15]=.ok (rg n fun r=>rowD m (a r)) from rfl]
 simp [cMe,Sl.bor,rg_len,hl,ec]
 rfl
end
noncomputable def kE : Me → Res (Fl × Me) :=
 (gSeq (gIf (fOrT (fCmpT gNe (fVarB 11) (fTup (fCons (fVar 9) (fCons (fVar 8) (fCons (fVar 7) fNil))))) (fNotT (fTv (fFnC F__law_right (fCons (fViewT 12 [14, 15]) (fCons (fVarB 9) (fCons (fVarB 8) (fCons (fVarB 7) fNil)))))))) (gRet (fC (.bl false))) gNx)
 (gSeq (gSet 13 (fTup (fCons (fBin gIx (fVarB 12) (fC (.int 0))) (fCons (fCall gList (fCons (fAdr 14 (fBin gIx (fVarB 12) (fC (.int 1)))) fNil)) (fCons (fCall gList (fCons (fAdr 15 (fBin gIx (fVarB 12) (fC (.int 2)))) fNil)) fNil)))))
 (gSeq (gAdrClear 14 (fBin gIx (fVarB 12) (fC (.int 1))))
 (gSeq (gAdrApp 15 (fBin gIx (fVarB 12) (fC (.int 2))) (fTup (fCons (fC (.int 5)) (fCons (fC (.int 1)) fNil))))
 (gRet (fCmp gEq (fFn F_solve (fCons (fVar 9) (fCons (fVar 8) (fCons (fVar 7) fNil)))) (fVarB 13)))))))
theorem end_eq {R B W:D}{t:Str}{U V:List D}{y z:Addr}(hyz:y≠z){x0 x1 x2 x3 x4 x5 x6 x10:Sl}(es:F_solve [R,B,W]=.ok (true,.tup [.str t,.lst U,.lst V]))(er:F__law_right [.tup [.str t,.lst U,.lst V],R,B,W]=.ok (false,.bl true))(hU:U.length<=100)(hV:V.length<=100)
  (h1:gNe (.tup [R,B,W]) (.tup [R,B,W])=some false) (h2:gEq (.tup [.str t,.lst U,.lst V]) (.tup [.str t,.lst U,.lst V])=some true):∃m',kE [x0,x1,x2,x3,x4,x5,x6,.fz W,.fz B,.fz R,x10,.fz (.tup [R,B,W]),.fz (.tup [.str t,.adr y,.adr z]),.un,.hd true y (.lst U),.hd true z (.lst V)]=.ok (.rt false (.bl true),m')/\m'.length=16:=by
 have zy:¬z=y:=Ne.symm hyz
 have ev:(fCons (fViewT 12 [14,15]) (fCons (fVarB 9) (fCons (fVarB 8) (fCons (fVarB 7) fNil)))) [x0,x1,x2,x3,x4,x5,x6,.fz W,.fz B,.fz R,x10,.fz (.tup [R,B,W]),.fz (.tup [.str t,.adr y,.adr z]),.un,.hd true y (.lst U),.hd true z (.lst V)]=.ok [.tup [.str t,.lst U,.lst V],R,B,W]:=by
  simp [fCons,fNil,fVarB,fViewT,vwT,subA,zy]
 have s1:gIf (fOrT (fCmpT gNe (fVarB 11) (fTup (fCons (fVar 9) (fCons (fVar 8) (fCons (fVar 7) fNil))))) (fNotT (fTv (fFnC F__law_right (fCons (fViewT 12 [14,15]) (fCons (fVarB 9) (fCons (fVarB 8) (fCons (fVarB 7) fNil)))))))) (gRet (fC (.bl false))) gNx [x0,x1,x2,x3,x4,x5,x6,.fz W,.fz B,.fz R,x10,.fz (.tup [R,B,W]),.fz (.tup [.str t,.adr y,.adr z]),.un,.hd true y (.lst U),.hd true z (.lst V)]=.ok (.nx,[x0,x1,x2,x3,x4,x5,x6,.fz W,.fz B,.fz R,x10,.fz (.tup [R,B,W]),.fz (.tup [.str t,.adr y,.adr z]),.un,.hd true y (.lst U),.hd true z (.lst V)]):=by
  have q1:fCmpT gNe (fVarB 11) (fTup (fCons (fVar 9) (fCons (fVar 8) (fCons (fVar 7) fNil)))) [x0,x1,x2,x3,x4,x5,x6,.fz W,.fz B,.fz R,x10,.fz (.tup [R,B,W]),.fz (.tup [.str t,.adr y,.adr z]),.un,.hd true y (.lst U),.hd true z (.lst V)]=.ok false:=by
   simp [fCmpT,fVarB,fTup,fCons,fNil,fVar,h1]
  have q2:fFnC F__law_right (fCons (fViewT 12 [14,15]) (fCons (fVarB 9) (fCons (fVarB 8) (fCons (fVarB 7) fNil)))) [x0,x1,x2,x3,x4,x5,x6,.fz W,.fz B,.fz R,x10,.fz (.tup [R,B,W]),.fz (.tup [.str t,.adr y,.adr z]),.un,.hd true y (.lst U),.hd true z (.lst V)]=.ok (.bl true):=by
   unfold fFnC
   rw [ev,Res.bind_ok,er]
   rfl
  unfold gIf
  rw [or_no q1 (not_yes q2)]
  rfl
 have s2:gSet 13 (fTup (fCons (fBin gIx (fVarB 12) (fC (.int 0))) (fCons (fCall gList (fCons (fAdr 14 (fBin gIx (fVarB 12) (fC (.int 1)))) fNil)) (fCons (fCall gList (fCons (fAdr 15 (fBin gIx (fVarB 12) (fC (.int 2)))) fNil)) fNil)))) [x0,x1,x2,x3,x4,x5,x6,.fz W,.fz B,.fz R,x10,.fz (.tup [R,B,W]),.fz (.tup [.str t,.adr y,.adr z]),.un,.hd true y (.lst U),.hd true z (.lst V)]=.ok (.nx,[x0,x1,x2,x3,x4,x5,x6,.fz W,.fz B,.fz R,x10,.fz (.tup [R,B,W]),.fz (.tup [.str t,.adr y,.adr z]),.fz (.tup [.str t,.lst U,.lst V]),.hd true y (.lst U),.hd true z (.lst V)]):=by
  have i0:gIx (.tup [.str t,.adr y,.adr z]) (.int 0)=some (.str t):=rfl
  have i1:gIx (.tup [.str t,.adr y,.adr z]) (.int 1)=some (.adr y):=rfl
  have i2:gIx (.tup [.str t,.adr y,.adr z]) (.int 2)=some (.adr z):=rfl
  simp [gSet,fTup,fCons,fNil,fBin,fVarB,fC,i0,i1,i2,fCall,fAdr,gList]
 have s3:gAdrClear 14 (fBin gIx (fVarB 12) (fC (.int 1))) [x0,x1,x2,x3,x4,x5,x6,.fz W,.fz B,.fz R,x10,.fz (.tup [R,B,W]),.fz (.tup [.str t,.adr y,.adr z]),.fz (.tup [.str t,.lst U,.lst V]),.hd true y (.lst U),.hd true z (.lst V)]=.ok (.nx,[x0,x1,x2,x3,x4,x5,x6,.fz W,.fz B,.fz R,x10,.fz (.tup [R,B,W]),.fz (.tup [.str t,.adr y,.adr z]),.fz (.tup [.str t,.lst U,.lst V]),.hd true y (.lst []),.hd true z (.lst V)]):=by
  have i1:gIx (.tup [.str t,.adr y,.adr z]) (.int 1)=some (.adr y):=rfl
  simp [gAdrClear,fBin,fVarB,fC,i1,hdAt]
 have s4:gAdrApp 15 (fBin gIx (fVarB 12) (fC (.int 2))) (fTup (fCons (fC (.int 5)) (fCons (fC (.int 1)) fNil))) [x0,x1,x2,x3,x4,x5,x6,.fz W,.fz B,.fz R,x10,.fz (.tup [R,B,W]),.fz (.tup [.str t,.adr y,.adr z]),.fz (.tup [.str t,.lst U,.lst V]),.hd true y (.lst []),.hd true z (.lst V)]=.ok (.nx,[x0,x1,x2,x3,x4,x5,x6,.fz W,.fz B,.fz R,x10,.fz (.tup [R,B,W]),.fz (.tup [.str t,.adr y,.adr z]),.fz (.tup [.str t,.lst U,.lst V]),.hd true y (.lst []),.hd true z (.lst (V++[.tup [.int 5,.int 1]]))]):=by
  have i2:gIx (.tup [.str t,.adr y,.adr z]) (.int 2)=some (.adr z):=rfl
  have hz:V.length<16777216:=by omega
  simp [gAdrApp,fBin,fVarB,fC,i2,hdAt,hz,fTup,fCons,fNil]
 have s5:fCmp gEq (fFn F_solve (fCons (fVar 9) (fCons (fVar 8) (fCons (fVar 7) fNil)))) (fVarB 13) (Me.let [x0,x1,x2,x3,x4,x5,x6,.fz W,.fz B,.fz R,x10,.fz (.tup [R,B,W]),.fz (.tup [.str t,.adr y,.adr z]),.fz (.tup [.str t,.lst U,.lst V]),.hd true y (.lst []),.hd true z (.lst (V++[.tup [.int 5,.int 1]]))])=.ok (.bl true):=by
  unfold fCmp
  rw [fn_ok (ds:=[R,B,W]) (by simp [Me.let,Sl.let,fCons,fNil,fVar]) es]
  simp [Me.let,Sl.let,fVarB,h2]
 refine ⟨Me.let [x0,x1,x2,x3,x4,x5,x6,.fz W,.fz B,.fz R,x10,.fz (.tup [R,B,W]),.fz (.tup [.str t,.adr y,.adr z]),.fz (.tup [.str t,.lst U,.lst V]),.hd true y (.lst []),.hd true z (.lst (V++[.tup [.int 5,.int 1]]))],?_,by simp [Me.let]⟩
 unfold kE
 rw [seq_ok s1,seq_ok s2,seq_ok s3,seq_ok s4]
 unfold gRet
 rw [s5]
 rfl
section
variable (ns:List Int)
noncomputable def hN:Nat:=(cl ns 0 % 9).toNat
noncomputable def mN:Nat:=(1+cl ns 0 / 9 % 8).toNat
noncomputable def sN:Int:=cl ns 0 / 72 % 4
noncomputable def zN:Int:=cl ns 0 / 288 % 2
noncomputable def wN (j:Nat):Q2:=numQ (cl ns (1+j)) (sN ns)
noncomputable def bN (r:Nat):Q2:=bndQ (cl ns (1+mN ns+r)) (sN ns) (zN ns)
noncomputable def aN (r j:Nat):Q2:=numQ (cl ns (1+mN ns+hN ns+r * mN ns+j)) (sN ns)
theorem inN:In (mN ns) (hN ns) (aN ns) (bN ns) (wN ns):=⟨by unfold mN; omega,by unfold hN; omega,fun _ _=>num_ok _ _,fun _=>(bnd_ok _ _ _).1,fun _=>(bnd_ok _ _ _).2,fun _=>num_ok _ _⟩
end
theorem okq {k:Nat}{u:Nat->Q2}:okD (rowD k u)=true/\depD (rowD k u)<=2:=by
 have h1:=ok_rg (f:=fun i=>qD (u i)) (fun i=>ok_qD _) (List.range k)
 have h2:=dep_rg (f:=fun i=>qD (u i)) (k:=1) (fun i=>by rw [dep_qD]; exact Nat.le_refl _) (List.range k)
 exact ⟨by show okD (.lst (rg k _))=true; simp [okD]; exact h1,by show depD (.lst (rg k _))<=2; simp [depD]; exact h2⟩
theorem okr {m n:Nat}{a:Nat->Nat->Q2}:okD (rowsD m n a)=true/\depD (rowsD m n a)<=3:=by
 have h1:=ok_rg (f:=fun i=>rowD m (a i)) (fun i=>okq.1) (List.range n)
 have h2:=dep_rg (f:=fun i=>rowD m (a i)) (k:=2) (fun i=>okq.2) (List.range n)
 exact ⟨by show okD (.lst (rg n _))=true; simp [okD]; exact h1,by show depD (.lst (rg n _))<=3; simp [depD]; exact h2⟩
theorem law_true:∀ns:List Int,ns.length<=63->∃fr,F_law [.lst (ns.map D.int)]=.ok (fr,.bl true):=by
 intro ns _
 have I:=inN ns
 have hm8:=I.m8
 have hn8:=I.n8
 refine ⟨false,?_⟩
 obtain ⟨t,u,v,k,⟨hk,ht⟩,es,er⟩:=solved I
 have c0:F__law_cell_at [.lst (ns.map D.int),.int 0]=.ok (false,.int (cl ns 0)):=cell_eq ns 0
 have hh:(hN ns:Int)=cl ns 0 % 9:=by unfold hN; omega
 have hm:(mN ns:Int)=1+cl ns 0 / 9 % 8:=by unfold mN; omega
 have B9:Bq 9:=bq_of (k:=10) (by decide)
 have B72:Bq 72:=bq_of (k:=10) (by decide)
 have B288:Bq 288:=bq_of (k:=10) (by decide)
 have e1:gSet 1 (fFn F__law_cell_at (fCons (fVar 0) (fCons (fC (.int 0)) fNil))) [.fz (.lst (ns.map D.int)),.un,.un,.un,.un,.un,.un,.un,.un,.un,.un,.un,.un,.un,.un,.un]=.ok (.nx,[.fz (.lst (ns.map D.int)),.fz (.int (cl ns 0)),.un,.un,.un,.un,.un,.un,.un,.un,.un,.un,.un,.un,.un,.un]):=by
  unfold gSet
  rw [fn_ok (ds:=[.lst (ns.map D.int),.int 0]) rfl c0]
  rfl
 have e2:fNotT (fTv (fFn F__law_round_right (fCons (fVar 1) fNil))) [.fz (.lst (ns.map D.int)),.fz (.int (cl ns 0)),.un,.un,.un,.un,.un,.un,.un,.un,.un,.un,.un,.un,.un,.un]=.ok false:=not_yes (fn_ok (ds:=[.int (cl ns 0)]) rfl (round_eq _))
 have e3:gSet 2 (fBin gMod (fVarB 1) (fC (.int 9))) [.fz (.lst (ns.map D.int)),.fz (.int (cl ns 0)),.un,.un,.un,.un,.un,.un,.un,.un,.un,.un,.un,.un,.un,.un]=.ok (.nx,[.fz (.lst (ns.map D.int)),.fz (.int (cl ns 0)),.fz (.int (hN ns)),.un,.un,.un,.un,.un,.un,.un,.un,.un,.un,.un,.un,.un]):=by
  simp [gSet,fBin,fC,fVarB,gMod,mdI,← hh]
 have e4:gSet 3 (fBin gAdd (fC (.int 1)) (fBin gMod (fBin gDiv (fVarB 1) (fC (.int 9))) (fC (.int 8)))) [.fz (.lst (ns.map D.int)),.fz (.int (cl ns 0)),.fz (.int (hN ns)),.un,.un,.un,.un,.un,.un,.un,.un,.un,.un,.un,.un,.un]=.ok (.nx,[.fz (.lst (ns.map D.int)),.fz (.int (cl ns 0)),.fz (.int (hN ns)),.fz (.int (mN ns)),.un,.un,.un,.un,.un,.un,.un,.un,.un,.un,.un,.un]):=by
  simp [gSet,fBin,fC,fVarB,gMod,mdI,gDiv,dvI,B9,gAdd,← hm]
 have e5:gSet 4 (fBin gMod (fBin gDiv (fVarB 1) (fC (.int 72))) (fC (.int 4))) [.fz (.lst (ns.map D.int)),.fz (.int (cl ns 0)),.fz (.int (hN ns)),.fz (.int (mN ns)),.un,.un,.un,.un,.un,.un,.un,.un,.un,.un,.un,.un]=.ok (.nx,[.fz (.lst (ns.map D.int)),.fz (.int (cl ns 0)),.fz (.int (hN ns)),.fz (.int (mN ns)),.fz (.int (sN ns)),.un,.un,.un,.un,.un,.un,.un,.un,.un,.un,.un]):=by
  simp [gSet,fBin,fC,fVarB,gMod,mdI,gDiv,dvI,B72,sN]
 have e6:gSet 5 (fBin gMod (fBin gDiv (fVarB 1) (fC (.int 288))) (fC (.int 2))) [.fz (.lst (ns.map D.int)),.fz (.int (cl ns 0)),.fz (.int (hN ns)),.fz (.int (mN ns)),.fz (.int (sN ns)),.un,.un,.un,.un,.un,.un,.un,.un,.un,.un,.un]=.ok (.nx,[.fz (.lst (ns.map D.int)),.fz (.int (cl ns 0)),.fz (.int (hN ns)),.fz (.int (mN ns)),.fz (.int (sN ns)),.fz (.int (zN ns)),.un,.un,.un,.un,.un,.un,.un,.un,.un,.un]):=by
  simp [gSet,fBin,fC,fVarB,gMod,mdI,gDiv,dvI,B288,zN]
 have e7:gSet 6 (fC (.int 1)) [.fz (.lst (ns.map D.int)),.fz (.int (cl ns 0)),.fz (.int (hN ns)),.fz (.int (mN ns)),.fz (.int (sN ns)),.fz (.int (zN ns)),.un,.un,.un,.un,.un,.un,.un,.un,.un,.un]=.ok (.nx,[.fz (.lst (ns.map D.int)),.fz (.int (cl ns 0)),.fz (.int (hN ns)),.fz (.int (mN ns)),.fz (.int (sN ns)),.fz (.int (zN ns)),.fz (.int (1:Nat)),.un,.un,.un,.un,.un,.un,.un,.un,.un]):=by
  rfl
 have e8:gSet 7 Q_law_2 [.fz (.lst (ns.map D.int)),.fz (.int (cl ns 0)),.fz (.int (hN ns)),.fz (.int (mN ns)),.fz (.int (sN ns)),.fz (.int (zN ns)),.fz (.int (1:Nat)),.un,.un,.un,.un,.un,.un,.un,.un,.un]=.ok (.nx,[.fz (.lst (ns.map D.int)),.fz (.int (cl ns 0)),.fz (.int (hN ns)),.fz (.int (mN ns)),.fz (.int (sN ns)),.fz (.int (zN ns)),.fz (.int (1:Nat)),.fz (rowD (mN ns) (wN ns)),.un,.un,.un,.un,.un,.un,.un,.un]):=by
  unfold gSet
  rw [q2_eq (by omega)]
  rfl
 have e9:gSet 6 (fBin gAdd (fVarB 6) (fVarB 3)) [.fz (.lst (ns.map D.int)),.fz (.int (cl ns 0)),.fz (.int (hN ns)),.fz (.int (mN ns)),.fz (.int (sN ns)),.fz (.int (zN ns)),.fz (.int (1:Nat)),.fz (rowD (mN ns) (wN ns)),.un,.un,.un,.un,.un,.un,.un,.un]=.ok (.nx,[.fz (.lst (ns.map D.int)),.fz (.int (cl ns 0)),.fz (.int (hN ns)),.fz (.int (mN ns)),.fz (.int (sN ns)),.fz (.int (zN ns)),.fz (.int (1+mN ns:Nat)),.fz (rowD (mN ns) (wN ns)),.un,.un,.un,.un,.un,.un,.un,.un]):=by
  simp [gSet,fBin,fVarB,gAdd]
 have e10:gSet 8 Q_law_4 [.fz (.lst (ns.map D.int)),.fz (.int (cl ns 0)),.fz (.int (hN ns)),.fz (.int (mN ns)),.fz (.int (sN ns)),.fz (.int (zN ns)),.fz (.int (1+mN ns:Nat)),.fz (rowD (mN ns) (wN ns)),.un,.un,.un,.un,.un,.un,.un,.un]=.ok (.nx,[.fz (.lst (ns.map D.int)),.fz (.int (cl ns 0)),.fz (.int (hN ns)),.fz (.int (mN ns)),.fz (.int (sN ns)),.fz (.int (zN ns)),.fz (.int (1+mN ns:Nat)),.fz (rowD (mN ns) (wN ns)),.fz (bndsD (hN ns) (bN ns)),.un,.un,.un,.un,.un,.un,.un]):=by
  unfold gSet
  rw [q4_eq (by omega)]
  rfl
 have e11:gSet 6 (fBin gAdd (fVarB 6) (fVarB 2)) [.fz (.lst (ns.map D.int)),.fz (.int (cl ns 0)),.fz (.int (hN ns)),.fz (.int (mN ns)),.fz (.int (sN ns)),.fz (.int (zN ns)),.fz (.int (1+mN ns:Nat)),.fz (rowD (mN ns) (wN ns)),.fz (bndsD (hN ns) (bN ns)),.un,.un,.un,.un,.un,.un,.un]=.ok (.nx,[.fz (.lst (ns.map D.int)),.fz (.int (cl ns 0)),.fz (.int (hN ns)),.fz (.int (mN ns)),.fz (.int (sN ns)),.fz (.int (zN ns)),.fz (.int (1+mN ns+hN ns+0 * mN ns:Nat)),.fz (rowD (mN ns) (wN ns)),.fz (bndsD (hN ns) (bN ns)),.un,.un,.un,.un,.un,.un,.un]):=by
  simp [gSet,fBin,fVarB,gAdd]
 have e12:gOwn 9 (fLst fNil) [.fz (.lst (ns.map D.int)),.fz (.int (cl ns 0)),.fz (.int (hN ns)),.fz (.int (mN ns)),.fz (.int (sN ns)),.fz (.int (zN ns)),.fz (.int (1+mN ns+hN ns+0 * mN ns:Nat)),.fz (rowD (mN ns) (wN ns)),.fz (bndsD (hN ns) (bN ns)),.un,.un,.un,.un,.un,.un,.un]=.ok (.nx,[.fz (.lst (ns.map D.int)),.fz (.int (cl ns 0)),.fz (.int (hN ns)),.fz (.int (mN ns)),.fz (.int (sN ns)),.fz (.int (zN ns)),.fz (.int (1+mN ns+hN ns+0 * mN ns:Nat)),.fz (rowD (mN ns) (wN ns)),.fz (bndsD (hN ns) (bN ns)),.ow (.lst (rg 0 fun r=>rowD (mN ns) (aN ns r))),.un,.un,.un,.un,.un,.un]):=by
  rfl
 have el:∃x10,L_law_8 [.fz (.lst (ns.map D.int)),.fz (.int (cl ns 0)),.fz (.int (hN ns)),.fz (.int (mN ns)),.fz (.int (sN ns)),.fz (.int (zN ns)),.fz (.int (1+mN ns+hN ns+0 * mN ns:Nat)),.fz (rowD (mN ns) (wN ns)),.fz (bndsD (hN ns) (bN ns)),.ow (.lst (rg 0 fun r=>rowD (mN ns) (aN ns r))),.un,.un,.un,.un,.un,.un]=.ok (.nx,[.fz (.lst (ns.map D.int)),.fz (.int (cl ns 0)),.fz (.int (hN ns)),.fz (.int (mN ns)),.fz (.int (sN ns)),.fz (.int (zN ns)),.fz (.int (1+mN ns+hN ns+hN ns * mN ns:Nat)),.fz (rowD (mN ns) (wN ns)),.fz (bndsD (hN ns) (bN ns)),.ow (rowsD (mN ns) (hN ns) (aN ns)),x10,.un,.un,.un,.un,.un]):=by
  obtain ⟨m',e,x10,em⟩:=loop_rg (n:=hN ns) (f:=fun i=>.int i) (h:=hName 10) (k:=B_law_7) (m:=[.fz (.lst (ns.map D.int)),.fz (.int (cl ns 0)),.fz (.int (hN ns)),.fz (.int (mN ns)),.fz (.int (sN ns)),.fz (.int (zN ns)),.fz (.int (1+mN ns+hN ns+0 * mN ns:Nat)),.fz (rowD (mN ns) (wN ns)),.fz (bndsD (hN ns) (bN ns)),.ow (.lst (rg 0 fun r=>rowD (mN ns) (aN ns r))),.un,.un,.un,.un,.un,.un]) (fun i s=>∃z,s=[.fz (.lst (ns.map D.int)),.fz (.int (cl ns 0)),.fz (.int (hN ns)),.fz (.int (mN ns)),.fz (.int (sN ns)),.fz (.int (zN ns)),.fz (.int (1+mN ns+hN ns+i * mN ns:Nat)),.fz (rowD (mN ns) (wN ns)),.fz (bndsD (hN ns) (bN ns)),.ow (.lst (rg i fun r=>rowD (mN ns) (aN ns r))),z,.un,.un,.un,.un,.un]) ⟨_,rfl⟩ fun i s hi ⟨z,es⟩=>by
   subst es
   have hl:i<16777216:=by omega
   have a1:gAppend 9 Q_law_6 [.fz (.lst (ns.map D.int)),.fz (.int (cl ns 0)),.fz (.int (hN ns)),.fz (.int (mN ns)),.fz (.int (sN ns)),.fz (.int (zN ns)),.fz (.int (1+mN ns+hN ns+i * mN ns:Nat)),.fz (rowD (mN ns) (wN ns)),.fz (bndsD (hN ns) (bN ns)),.ow (.lst (rg i fun r=>rowD (mN ns) (aN ns r))),.fz (.int i),.un,.un,.un,.un,.un]=.ok (.nx,[.fz (.lst (ns.map D.int)),.fz (.int (cl ns 0)),.fz (.int (hN ns)),.fz (.int (mN ns)),.fz (.int (sN ns)),.fz (.int (zN ns)),.fz (.int (1+mN ns+hN ns+i * mN ns:Nat)),.fz (rowD (mN ns) (wN ns)),.fz (bndsD (hN ns) (bN ns)),.ow (.lst (rg (i+1) fun r=>rowD (mN ns) (aN ns r))),.fz (.int i),.un,.un,.un,.un,.un]):=by
    unfold gAppend
    rw [show Q_law_6 [.fz (.lst (ns.map D.int)),.fz (.int (cl ns 0)),.fz (.int (hN ns)),.fz (.int (mN ns)),.fz (.int (sN ns)),.fz (.int (zN ns)),.fz (.int (1+mN ns+hN ns+i * mN ns:Nat)),.fz (rowD (mN ns) (wN ns)),.fz (bndsD (hN ns) (bN ns)),.ow (.lst (rg i fun r=>rowD (mN ns) (aN ns r))),.fz (.int i),.un,.un,.un,.un,.un]=.ok (rowD (mN ns) (aN ns i)) from q6_eq hm8]
    simp [ownL,rg_len,hl,putL,rg_snoc]
   have a2:gSet 6 (fBin gAdd (fVarB 6) (fVarB 3)) [.fz (.lst (ns.map D.int)),.fz (.int (cl ns 0)),.fz (.int (hN ns)),.fz (.int (mN ns)),.fz (.int (sN ns)),.fz (.int (zN ns)),.fz (.int (1+mN ns+hN ns+i * mN ns:Nat)),.fz (rowD (mN ns) (wN ns)),.fz (bndsD (hN ns) (bN ns)),.ow (.lst (rg (i+1) fun r=>rowD (mN ns) (aN ns r))),.fz (.int i),.un,.un,.un,.un,.un]=.ok (.nx,[.fz (.lst (ns.map D.int)),.fz (.int (cl ns 0)),.fz (.int (hN ns)),.fz (.int (mN ns)),.fz (.int (sN ns)),.fz (.int (zN ns)),.fz (.int (1+mN ns+hN ns+(i+1) * mN ns:Nat)),.fz (rowD (mN ns) (wN ns)),.fz (bndsD (hN ns) (bN ns)),.ow (.lst (rg (i+1) fun r=>rowD (mN ns) (aN ns r))),.fz (.int i),.un,.un,.un,.un,.un]):=by
    have:((1+mN ns+hN ns+i * mN ns:Nat):Int)+(mN ns:Int)=((1+mN ns+hN ns+(i+1) * mN ns:Nat):Int):=by
     rw [Nat.add_mul,Nat.one_mul]; omega
    simp only [gSet,fBin,fVarB,List.getElem?_cons_succ,List.getElem?_cons_zero,Res.bind_ok,gAdd,this,ofO_some]
    rfl
   refine ⟨[.fz (.lst (ns.map D.int)),.fz (.int (cl ns 0)),.fz (.int (hN ns)),.fz (.int (mN ns)),.fz (.int (sN ns)),.fz (.int (zN ns)),.fz (.int (1+mN ns+hN ns+i * mN ns:Nat)),.fz (rowD (mN ns) (wN ns)),.fz (bndsD (hN ns) (bN ns)),.ow (.lst (rg i fun r=>rowD (mN ns) (aN ns r))),.fz (.int i),.un,.un,.un,.un,.un],[.fz (.lst (ns.map D.int)),.fz (.int (cl ns 0)),.fz (.int (hN ns)),.fz (.int (mN ns)),.fz (.int (sN ns)),.fz (.int (zN ns)),.fz (.int (1+mN ns+hN ns+(i+1) * mN ns:Nat)),.fz (rowD (mN ns) (wN ns)),.fz (bndsD (hN ns) (bN ns)),.ow (.lst (rg (i+1) fun r=>rowD (mN ns) (aN ns r))),.fz (.int i),.un,.un,.un,.un,.un],rfl,?_,_,rfl⟩
   unfold B_law_7
   rw [seq_ok a1,a2]
  subst em
  refine ⟨x10,?_⟩
  unfold L_law_8 gFor
  rw [itR (f:=fCons (fVarB 2) fNil) (j:=hN ns) (n:=hN ns) rfl rfl (by omega)]
  exact e
 obtain ⟨x10,el⟩:=el
 have eh:gSet 11 (fTup (fCons Q_law_10 (fCons (fCall gList (fCons (fVarB 8) fNil)) (fCons (fCall gList (fCons (fVarB 7) fNil)) fNil)))) [.fz (.lst (ns.map D.int)),.fz (.int (cl ns 0)),.fz (.int (hN ns)),.fz (.int (mN ns)),.fz (.int (sN ns)),.fz (.int (zN ns)),.fz (.int (1+mN ns+hN ns+hN ns * mN ns:Nat)),.fz (rowD (mN ns) (wN ns)),.fz (bndsD (hN ns) (bN ns)),.fz (rowsD (mN ns) (hN ns) (aN ns)),x10,.un,.un,.un,.un,.un]=.ok (.nx,[.fz (.lst (ns.map D.int)),.fz (.int (cl ns 0)),.fz (.int (hN ns)),.fz (.int (mN ns)),.fz (.int (sN ns)),.fz (.int (zN ns)),.fz (.int (1+mN ns+hN ns+hN ns * mN ns:Nat)),.fz (rowD (mN ns) (wN ns)),.fz (bndsD (hN ns) (bN ns)),.fz (rowsD (mN ns) (hN ns) (aN ns)),x10,.fz (.tup [rowsD (mN ns) (hN ns) (aN ns),bndsD (hN ns) (bN ns),rowD (mN ns) (wN ns)]),.un,.un,.un,.un]):=by
  unfold gSet fTup
  rw [cons_ok (q10_eq hn8) (cons_ok (list_row (m:=hN ns) (u:=bN ns) rfl) (cons_ok (list_row (m:=mN ns) (u:=wN ns) rfl) rfl))]
  rfl
 have h1:gNe (.tup [rowsD (mN ns) (hN ns) (aN ns),bndsD (hN ns) (bN ns),rowD (mN ns) (wN ns)]) (.tup [rowsD (mN ns) (hN ns) (aN ns),bndsD (hN ns) (bN ns),rowD (mN ns) (wN ns)])=some false:=by
  have a1:=okr (m:=mN ns) (n:=hN ns) (a:=aN ns)
  have a2:=okq (k:=hN ns) (u:=bN ns)
  have a3:=okq (k:=mN ns) (u:=wN ns)
  have e:bndsD (hN ns) (bN ns)=rowD (hN ns) (bN ns):=rfl
  rw [e]
  exact gNe_self (by simp [okD,okDs,a1.1,a2.1,a3.1]) (by simp [depD,depDs]; omega)
 have h2:gEq (fnd t (rowD (mN ns) u) (rowD k v)) (fnd t (rowD (mN ns) u) (rowD k v))=some true:=by
  have a2:=okq (k:=mN ns) (u:=u)
  have a3:=okq (k:=k) (u:=v)
  exact gEq_self (by simp [fnd,okD,okDs,a2.1,a3.1,ht]) (by simp [fnd,depD,depDs]; omega)
 have en:gNewT 12 14 F_solve (fCons (fBin gIx (fVarB 11) (fC (.int 0))) (fCons (fBin gIx (fVarB 11) (fC (.int 1))) (fCons (fBin gIx (fVarB 11) (fC (.int 2))) fNil))) kE [.fz (.lst (ns.map D.int)),.fz (.int (cl ns 0)),.fz (.int (hN ns)),.fz (.int (mN ns)),.fz (.int (sN ns)),.fz (.int (zN ns)),.fz (.int (1+mN ns+hN ns+hN ns * mN ns:Nat)),.fz (rowD (mN ns) (wN ns)),.fz (bndsD (hN ns) (bN ns)),.fz (rowsD (mN ns) (hN ns) (aN ns)),x10,.fz (.tup [rowsD (mN ns) (hN ns) (aN ns),bndsD (hN ns) (bN ns),rowD (mN ns) (wN ns)]),.un,.un,.un,.un]=.ok (.rt false (.bl true),[.fz (.lst (ns.map D.int)),.fz (.int (cl ns 0)),.fz (.int (hN ns)),.fz (.int (mN ns)),.fz (.int (sN ns)),.fz (.int (zN ns)),.fz (.int (1+mN ns+hN ns+hN ns * mN ns:Nat)),.fz (rowD (mN ns) (wN ns)),.fz (bndsD (hN ns) (bN ns)),.fz (rowsD (mN ns) (hN ns) (aN ns)),x10,.fz (.tup [rowsD (mN ns) (hN ns) (aN ns),bndsD (hN ns) (bN ns),rowD (mN ns) (wN ns)]),.un,.un,.un,.un].map fun _=>.un):=by
  unfold gNewT
  rw [show (fCons (fBin gIx (fVarB 11) (fC (.int 0))) (fCons (fBin gIx (fVarB 11) (fC (.int 1))) (fCons (fBin gIx (fVarB 11) (fC (.int 2))) fNil))) [.fz (.lst (ns.map D.int)),.fz (.int (cl ns 0)),.fz (.int (hN ns)),.fz (.int (mN ns)),.fz (.int (sN ns)),.fz (.int (zN ns)),.fz (.int (1+mN ns+hN ns+hN ns * mN ns:Nat)),.fz (rowD (mN ns) (wN ns)),.fz (bndsD (hN ns) (bN ns)),.fz (rowsD (mN ns) (hN ns) (aN ns)),x10,.fz (.tup [rowsD (mN ns) (hN ns) (aN ns),bndsD (hN ns) (bN ns),rowD (mN ns) (wN ns)]),.un,.un,.un,.un]=.ok [rowsD (mN ns) (hN ns) (aN ns),bndsD (hN ns) (bN ns),rowD (mN ns) (wN ns)] from rfl,Res.bind_ok,es]
  refine (if_pos ?_).trans ?_
  ·show 14+2<=16
   decide
  refine gUniT_eq fun as hl nd=>?_
  match as,hl,nd with
  |[y,z],_,nd=>
   have hyz:y≠z:=by
    intro h
    subst h
    simp at nd
   exact end_eq hyz es er (by rw [rg_len]; omega) (by rw [rg_len]; omega) h1 h2
 have eg:g_law [.fz (.lst (ns.map D.int)),.un,.un,.un,.un,.un,.un,.un,.un,.un,.un,.un,.un,.un,.un,.un]=.ok (.rt false (.bl true),[.fz (.lst (ns.map D.int)),.fz (.int (cl ns 0)),.fz (.int (hN ns)),.fz (.int (mN ns)),.fz (.int (sN ns)),.fz (.int (zN ns)),.fz (.int (1+mN ns+hN ns+hN ns * mN ns:Nat)),.fz (rowD (mN ns) (wN ns)),.fz (bndsD (hN ns) (bN ns)),.fz (rowsD (mN ns) (hN ns) (aN ns)),x10,.fz (.tup [rowsD (mN ns) (hN ns) (aN ns),bndsD (hN ns) (bN ns),rowD (mN ns) (wN ns)]),.un,.un,.un,.un].map fun _=>.un):=by
  unfold g_law c_law
  rw [seq_ok e1,if_skip e2,seq_ok e3,seq_ok e4,seq_ok e5,seq_ok e6,seq_ok e7,seq_ok e8,seq_ok e9,seq_ok e10,seq_ok e11,seq_ok e12,seq_ok el]
  show gSeq _ _ [.fz (.lst (ns.map D.int)),.fz (.int (cl ns 0)),.fz (.int (hN ns)),.fz (.int (mN ns)),.fz (.int (sN ns)),.fz (.int (zN ns)),.fz (.int (1+mN ns+hN ns+hN ns * mN ns:Nat)),.fz (rowD (mN ns) (wN ns)),.fz (bndsD (hN ns) (bN ns)),.fz (rowsD (mN ns) (hN ns) (aN ns)),x10,.un,.un,.un,.un,.un]=_
  rw [seq_ok eh]
  exact en
 exact runF_rt rfl eg
open PySem L2 Hd F
noncomputable def top (i:Nat):Stmt:=PySem.Challenge.pw_hushduel_k35_whole_seekings_with_papers.main.body.getD i (.Pass ⟨0,0,0,0⟩)
noncomputable def clsAt (s:Stmt)(j:Nat):Stmt:=match s with
 | .ClassDef _ _ _ b ..=>b.getD j (.Pass ⟨0,0,0,0⟩)
 |_=>.Pass ⟨0,0,0,0⟩
theorem bt_abs:bootBuiltins "abs" = some (.builtin "abs"):=by decide +kernel
theorem bt_all:bootBuiltins "all" = some (.builtin "all"):=by decide +kernel
theorem bt_bool:bootBuiltins "bool" = some (.type "bool"):=by decide +kernel
theorem bt_int:bootBuiltins "int" = some (.type "int"):=by decide +kernel
theorem bt_isinstance:bootBuiltins "isinstance" = some (.builtin "isinstance"):=by decide +kernel
theorem bt_len:bootBuiltins "len" = some (.builtin "len"):=by decide +kernel
theorem bt_list:bootBuiltins "list" = some (.type "list"):=by decide +kernel
theorem bt_tuple:bootBuiltins "tuple" = some (.type "tuple"):=by decide +kernel
structure Bt (mg:Str->Option Value):Prop where
 ValueError:mg "ValueError" = none
 abs:mg "abs" = none
 all:mg "all" = none
 bool:mg "bool" = none
 enumerate:mg "enumerate" = none
 int:mg "int" = none
 isinstance:mg "isinstance" = none
 len:mg "len" = none
 list:mg "list" = none
 range:mg "range" = none
 tuple:mg "tuple" = none
 zip:mg "zip" = none
structure CnT (K:PySem.W.Frag)(mg:Str->Option Value):Prop where
 NOUGHT:∃v u,mg "NOUGHT" = some u/\RelV v u/\∀O H,DV ⟨K,mg⟩ O H v (.tup [(.int 0),(.int 1)])
 ONE:∃v u,mg "ONE" = some u/\RelV v u/\∀O H,DV ⟨K,mg⟩ O H v (.tup [(.int 1),(.int 1)])
 MOST_ROWS:∃v u,mg "MOST_ROWS" = some u/\RelV v u/\∀O H,DV ⟨K,mg⟩ O H v (.int 8)
 MOST_WISHED:∃v u,mg "MOST_WISHED" = some u/\RelV v u/\∀O H,DV ⟨K,mg⟩ O H v (.int 8)
theorem cn_NOUGHT {X:Cx}{E:XK}{pos:Pos}(Cn:CnT X.K X.mg)(hg:Gl X "NOUGHT"):FE X E (.Name "NOUGHT" pos) (fC (.tup [(.int 0),(.int 1)])):=by
 obtain ⟨v,u,h1,h2,h3⟩:=Cn.NOUGHT
 exact fe_glob hg h1 h2 h3
theorem cn_ONE {X:Cx}{E:XK}{pos:Pos}(Cn:CnT X.K X.mg)(hg:Gl X "ONE"):FE X E (.Name "ONE" pos) (fC (.tup [(.int 1),(.int 1)])):=by
 obtain ⟨v,u,h1,h2,h3⟩:=Cn.ONE
 exact fe_glob hg h1 h2 h3
theorem cn_MOST_ROWS {X:Cx}{E:XK}{pos:Pos}(Cn:CnT X.K X.mg)(hg:Gl X "MOST_ROWS"):FE X E (.Name "MOST_ROWS" pos) (fC (.int 8)):=by
 obtain ⟨v,u,h1,h2,h3⟩:=Cn.MOST_ROWS
 exact fe_glob hg h1 h2 h3
theorem cn_MOST_WISHED {X:Cx}{E:XK}{pos:Pos}(Cn:CnT X.K X.mg)(hg:Gl X "MOST_WISHED"):FE X E (.Name "MOST_WISHED" pos) (fC (.int 8)):=by
 obtain ⟨v,u,h1,h2,h3⟩:=Cn.MOST_WISHED
 exact fe_glob hg h1 h2 h3
noncomputable abbrev stcommon_divisor:Stmt:=top 7
theorem sccommon_divisor:FnScope ["first", "second", "great", "small", "rest"] ["first", "second"] (defScope stcommon_divisor):=⟨rfl,rfl,rfl,by decide +kernel,rfl,by decide +kernel,by decide +kernel⟩
noncomputable abbrev stlowest:Stmt:=top 8
theorem sclowest:FnScope ["top", "bottom", "divisor"] ["top", "bottom"] (defScope stlowest):=⟨rfl,rfl,rfl,by decide +kernel,rfl,by decide +kernel,by decide +kernel⟩
noncomputable abbrev stscale_of:Stmt:=top 12
theorem scscale_of:FnScope ["fractions", "scale", "fraction"] ["fractions"] (defScope stscale_of):=⟨rfl,rfl,rfl,by decide +kernel,rfl,by decide +kernel,by decide +kernel⟩
noncomputable abbrev stmade_whole:Stmt:=top 13
theorem scmade_whole:FnScope ["fractions", "scale"] ["fractions", "scale"] (defScope stmade_whole):=⟨rfl,rfl,rfl,by decide +kernel,rfl,by decide +kernel,by decide +kernel⟩
noncomputable abbrev strefuse_great_seeking:Stmt:=top 15
theorem screfuse_great_seeking:FnScope ["rows", "wish"] ["rows", "wish"] (defScope strefuse_great_seeking):=⟨rfl,rfl,rfl,by decide +kernel,rfl,by decide +kernel,by decide +kernel⟩
noncomputable abbrev stsolve:Stmt:=top 16
theorem scsolve:FnScope ["rows", "bounds", "wish", "corner", "endless", "%1"] ["rows", "bounds", "wish"] (defScope stsolve):=⟨rfl,rfl,rfl,by decide +kernel,rfl,by decide +kernel,by decide +kernel⟩
noncomputable abbrev st_law_cell_at:Stmt:=top 18
theorem sc_law_cell_at:FnScope ["_law_script", "_law_k"] ["_law_script", "_law_k"] (defScope st_law_cell_at):=⟨rfl,rfl,rfl,by decide +kernel,rfl,by decide +kernel,by decide +kernel⟩
noncomputable abbrev st_law_divisor:Stmt:=top 19
theorem sc_law_divisor:FnScope ["_law_one", "_law_other"] ["_law_one", "_law_other"] (defScope st_law_divisor):=⟨rfl,rfl,rfl,by decide +kernel,rfl,by decide +kernel,by decide +kernel⟩
noncomputable abbrev st_law_lowest:Stmt:=top 20
theorem sc_law_lowest:FnScope ["_law_top", "_law_bottom", "_law_by"] ["_law_top", "_law_bottom"] (defScope st_law_lowest):=⟨rfl,rfl,rfl,by decide +kernel,rfl,by decide +kernel,by decide +kernel⟩
noncomputable abbrev st_law_number:Stmt:=top 21
theorem sc_law_number:FnScope ["_law_cell", "_law_sort"] ["_law_cell", "_law_sort"] (defScope st_law_number):=⟨rfl,rfl,rfl,by decide +kernel,rfl,by decide +kernel,by decide +kernel⟩
noncomputable abbrev st_law_bound:Stmt:=top 22
theorem sc_law_bound:FnScope ["_law_cell", "_law_sort", "_law_zeros", "_law_number_here"] ["_law_cell", "_law_sort", "_law_zeros"] (defScope st_law_bound):=⟨rfl,rfl,rfl,by decide +kernel,rfl,by decide +kernel,by decide +kernel⟩
noncomputable abbrev st_law_fraction:Stmt:=top 23
theorem sc_law_fraction:FnScope ["_law_found", "_law_part"] ["_law_found"] (defScope st_law_fraction):=⟨rfl,rfl,rfl,by decide +kernel,rfl,by decide +kernel,by decide +kernel⟩
noncomputable abbrev st_law_list:Stmt:=top 24
theorem sc_law_list:FnScope ["_law_found", "_law_many", "_law_part"] ["_law_found", "_law_many"] (defScope st_law_list):=⟨rfl,rfl,rfl,by decide +kernel,rfl,by decide +kernel,by decide +kernel⟩
noncomputable abbrev st_law_dot:Stmt:=top 25
theorem sc_law_dot:FnScope ["_law_some", "_law_more", "_law_top", "_law_bottom", "_law_one", "_law_other"] ["_law_some", "_law_more"] (defScope st_law_dot):=⟨rfl,rfl,rfl,by decide +kernel,rfl,by decide +kernel,by decide +kernel⟩
noncomputable abbrev st_law_most:Stmt:=top 26
theorem sc_law_most:FnScope ["_law_one", "_law_other"] ["_law_one", "_law_other"] (defScope st_law_most):=⟨rfl,rfl,rfl,by decide +kernel,rfl,by decide +kernel,by decide +kernel⟩
noncomputable abbrev st_law_right:Stmt:=top 27
theorem sc_law_right:FnScope ["_law_found", "_law_rows", "_law_bounds", "_law_wish", "_law_row", "_law_bound_here", "_law_k", "_law_want", "_law_worth", "_law_paid"] ["_law_found", "_law_rows", "_law_bounds", "_law_wish"] (defScope st_law_right):=⟨rfl,rfl,rfl,by decide +kernel,rfl,by decide +kernel,by decide +kernel⟩
noncomputable abbrev st_law_round_right:Stmt:=top 28
theorem sc_law_round_right:FnScope ["_law_cell", "_law_wish", "_law_rows", "_law_bounds", "_law_turn", "_law_left", "_law_up", "_law_some", "_law_held_to", "_law_aim"] ["_law_cell"] (defScope st_law_round_right):=⟨rfl,rfl,rfl,by decide +kernel,rfl,by decide +kernel,by decide +kernel⟩
noncomputable abbrev stlaw:Stmt:=top 29
theorem sclaw:FnScope ["_law_script", "_law_cell", "_law_high", "_law_wide", "_law_sort", "_law_zeros", "_law_at", "_law_wish", "_law_bounds", "_law_rows", "_law_i", "_law_handed", "_law_found", "_law_kept", "%1", "%2"] ["_law_script"] (defScope stlaw):=⟨rfl,rfl,rfl,by decide +kernel,rfl,by decide +kernel,by decide +kernel⟩
noncomputable abbrev stCorner___init__:Stmt:=clsAt (top 14) 0
theorem scCorner___init__:FnScope ["self", "rows", "bounds", "wishes"] ["self", "rows", "bounds", "wishes"] (defScope stCorner___init__):=⟨rfl,rfl,rfl,by decide +kernel,rfl,by decide +kernel,by decide +kernel⟩
noncomputable abbrev stCorner_first_line:Stmt:=clsAt (top 14) 1
theorem scCorner_first_line:FnScope ["self", "number", "row", "bound", "rests", "scale"] ["self", "number", "row", "bound"] (defScope stCorner_first_line):=⟨rfl,rfl,rfl,by decide +kernel,rfl,by decide +kernel,by decide +kernel⟩
noncomputable abbrev stCorner_first_wish_line:Stmt:=clsAt (top 14) 2
theorem scCorner_first_wish_line:FnScope ["self", "number", "wish", "whole"] ["self", "number", "wish"] (defScope stCorner_first_wish_line):=⟨rfl,rfl,rfl,by decide +kernel,rfl,by decide +kernel,by decide +kernel⟩
noncomputable abbrev stCorner_helping_column:Stmt:=clsAt (top 14) 3
theorem scCorner_helping_column:FnScope ["self", "level", "column", "costs_nothing"] ["self", "level"] (defScope stCorner_helping_column):=⟨rfl,rfl,rfl,by decide +kernel,rfl,by decide +kernel,by decide +kernel⟩
noncomputable abbrev stCorner_ending_line:Stmt:=clsAt (top 14) 4
theorem scCorner_ending_line:FnScope ["self", "column", "found", "number", "line"] ["self", "column"] (defScope stCorner_ending_line):=⟨rfl,rfl,rfl,by decide +kernel,rfl,by decide +kernel,by decide +kernel⟩
noncomputable abbrev stCorner_ends_ahead:Stmt:=clsAt (top 14) 5
theorem scCorner_ends_ahead:FnScope ["self", "number", "other", "column", "here", "there"] ["self", "number", "other", "column"] (defScope stCorner_ends_ahead):=⟨rfl,rfl,rfl,by decide +kernel,rfl,by decide +kernel,by decide +kernel⟩
noncomputable abbrev stCorner_turn_about:Stmt:=clsAt (top 14) 6
theorem scCorner_turn_about:FnScope ["self", "number", "column", "turned", "%1"] ["self", "number", "column"] (defScope stCorner_turn_about):=⟨rfl,rfl,rfl,by decide +kernel,rfl,by decide +kernel,by decide +kernel⟩
noncomputable abbrev stCorner_cleared:Stmt:=clsAt (top 14) 7
theorem scCorner_cleared:FnScope ["self", "line", "turned", "column", "by", "less"] ["self", "line", "turned", "column"] (defScope stCorner_cleared):=⟨rfl,rfl,rfl,by decide +kernel,rfl,by decide +kernel,by decide +kernel⟩
noncomputable abbrev stCorner_climb:Stmt:=clsAt (top 14) 8
theorem scCorner_climb:FnScope ["self", "level", "column", "number", "%1"] ["self", "level"] (defScope stCorner_climb):=⟨rfl,rfl,rfl,by decide +kernel,rfl,by decide +kernel,by decide +kernel⟩
noncomputable abbrev stCorner_fit:Stmt:=clsAt (top 14) 9
theorem scCorner_fit:FnScope ["self"] ["self"] (defScope stCorner_fit):=⟨rfl,rfl,rfl,by decide +kernel,rfl,by decide +kernel,by decide +kernel⟩
noncomputable abbrev stCorner_way_along:Stmt:=clsAt (top 14) 10
theorem scCorner_way_along:FnScope ["self", "column", "found"] ["self", "column"] (defScope stCorner_way_along):=⟨rfl,rfl,rfl,by decide +kernel,rfl,by decide +kernel,by decide +kernel⟩
noncomputable abbrev stCorner_amounts:Stmt:=clsAt (top 14) 11
theorem scCorner_amounts:FnScope ["self", "tops", "found", "column", "top"] ["self", "tops"] (defScope stCorner_amounts):=⟨rfl,rfl,rfl,by decide +kernel,rfl,by decide +kernel,by decide +kernel⟩
noncomputable abbrev stCorner_prices:Stmt:=clsAt (top 14) 12
theorem scCorner_prices:FnScope ["self", "level", "line", "bottom"] ["self", "level"] (defScope stCorner_prices):=⟨rfl,rfl,rfl,by decide +kernel,rfl,by decide +kernel,by decide +kernel⟩
theorem ok_common_divisor {P:Program}{w:World}{K:PySem.W.Frag}{mg:Str->Option Value}{base:Heap}{f:Addr}{fd:FuncData}(B:Bt mg)(Fu:Fun K "common_divisor" "common_divisor" stcommon_divisor f fd)  :
  FnOk P w K mg base (CX1 P w) 1 f fd ["first", "second"] (spF ⟨K,mg⟩ F_common_divisor):=
 fun_okF Fu sccommon_divisor fun cdv A outer s H E hr=>by
 have hu:=hr.units
 unfold g_common_divisor c_common_divisor
 exact (fss_cons (fs_set (i:=2) sccommon_divisor.nd rfl (Or.inl rfl) (fe_callB call_gAbs rfl B.abs bt_abs (fab_cons (fb_var 0) fab_nil)))
  (fss_cons (fs_set (i:=3) sccommon_divisor.nd rfl (Or.inl rfl) (fe_callB call_gAbs rfl B.abs bt_abs (fab_cons (fb_var 1) fab_nil)))
  (fss_cons (fs_while PassesOwn.leaving (ft_cmp (op_gNe hu) (fb_var 3) (fb_of fe_int) (nomark _))
  (fss_cons (fs_set (i:=4) sccommon_divisor.nd rfl (Or.inl rfl) (fe_bin op_gMod (fb_var 2) (fb_var 3)))
  (fss_cons (fs_set (i:=2) sccommon_divisor.nd rfl (Or.inl rfl) (fe_var 3))
  (fss_one (fs_set (i:=3) sccommon_divisor.nd rfl (Or.inl rfl) (fe_var 4))))))
  (fss_one (fs_ret (fe_var 2))))))
theorem ok_lowest {P:Program}{w:World}{K:PySem.W.Frag}{mg:Str->Option Value}{base:Heap}{f:Addr}{fd:FuncData}(B:Bt mg)(Fu:Fun K "lowest" "lowest" stlowest f fd)(Gcommon_divisor:FF P w K mg base 1 "common_divisor" ["first", "second"] F_common_divisor):
  FnOk P w K mg base (CX1 P w) 2 f fd ["top", "bottom"] (spF ⟨K,mg⟩ F_lowest):=
 fun_okF Fu sclowest fun cdv A outer s H E hr=>by
 have hu:=hr.units
 unfold g_lowest c_lowest
 exact (fss_cons (fs_set (i:=2) sclowest.nd rfl (Or.inl rfl) (fe_fn Gcommon_divisor hr cx_pass (fae_cons (fe_var 0) (fae_cons (fe_var 1) fae_nil))))
  (fss_cons (fs_if (ft_cmp (op_gLt hu) (fb_var 1) (fb_of fe_int) (nomark _))
  (fss_one (fs_set (i:=2) sclowest.nd rfl (Or.inl rfl) (fe_un un_gNeg (fb_var 2))))
  fss_nil)
  (fss_one (fs_ret (fe_tup (fae_cons (fe_bin op_gDiv (fb_var 0) (fb_var 2)) (fae_cons (fe_bin op_gDiv (fb_var 1) (fb_var 2)) fae_nil)))))))
theorem ok_scale_of {P:Program}{w:World}{K:PySem.W.Frag}{mg:Str->Option Value}{base:Heap}{f:Addr}{fd:FuncData}(B:Bt mg)(Fu:Fun K "scale_of" "scale_of" stscale_of f fd)(Gcommon_divisor:FF P w K mg base 1 "common_divisor" ["first", "second"] F_common_divisor):
  FnOk P w K mg base (CX1 P w) 2 f fd ["fractions"] (spF ⟨K,mg⟩ F_scale_of):=
 fun_okF Fu scscale_of fun cdv A outer s H E hr=>by
 have hu:=hr.units
 unfold g_scale_of c_scale_of
 exact (fss_cons (fs_set (i:=1) scscale_of.nd rfl (Or.inl rfl) fe_int)
  (fss_cons (fs_for (k:=1000) PassesOwn.leaving rfl (fi_list (fe_var 0)) (fg_name (i:=2) scscale_of.nd rfl (Or.inl rfl))
  (fss_one (fs_set (i:=1) scscale_of.nd rfl (Or.inl rfl) (fe_bin op_gDiv (fb_of (fe_bin op_gMul (fb_var 1) (fb_of (fe_ix ix_g (fb_var 2) (fb_of fe_int) (fun _ _=>rfl))))) (fb_of (fe_fn Gcommon_divisor hr cx_pass (fae_cons (fe_var 1) (fae_cons (fe_ix ix_g (fb_var 2) (fb_of fe_int) (fun _ _=>rfl)) fae_nil))))))))
  (fss_one (fs_ret (fe_var 1)))))
theorem ok_made_whole {P:Program}{w:World}{K:PySem.W.Frag}{mg:Str->Option Value}{base:Heap}{f:Addr}{fd:FuncData}(B:Bt mg)(Fu:Fun K "made_whole" "made_whole" stmade_whole f fd)  :
  FnOk P w K mg base (CX1 P w) 1 f fd ["fractions", "scale"] (spF ⟨K,mg⟩ F_made_whole):=
 fun_okF Fu scmade_whole fun cdv A outer s H E hr=>by
 have hu:=hr.units
 unfold g_made_whole c_made_whole
 exact (fss_one (fs_retN (fn_comp (defScope stmade_whole) ["fraction", "scale"] ["scale"] 1 [1] rfl ⟨rfl,by decide +kernel,by decide +kernel,by decide +kernel,by decide +kernel⟩ (.cons rfl .nil) (fiw_list (fb_var 0)) (fun _ _ _ _ _ _=>(fg_name (i:=0) (show List.Nodup (["fraction", "scale"]:List Str) by decide) rfl (Or.inl rfl))) (fun _ _ _ _ _ _=>fifs_nil) (fun _ _ _ _ _ _=>(fe_bin op_gMul (fb_of (fe_ix ix_g (fb_var 0) (fb_of fe_int) (fun _ _=>rfl))) (fb_of (fe_bin op_gDiv (fb_var 1) (fb_of (fe_ix ix_g (fb_var 0) (fb_of fe_int) (fun _ _=>rfl))))))))))
theorem ok_refuse_great_seeking {P:Program}{w:World}{K:PySem.W.Frag}{mg:Str->Option Value}{base:Heap}{f:Addr}{fd:FuncData}(B:Bt mg)(Cn:CnT K mg)(Fu:Fun K "refuse_great_seeking" "refuse_great_seeking" strefuse_great_seeking f fd)  :
  FnOk P w K mg base (CX1 P w) 1 f fd ["rows", "wish"] (spF ⟨K,mg⟩ F_refuse_great_seeking):=
 fun_okF Fu screfuse_great_seeking fun cdv A outer s H E hr=>by
 have hu:=hr.units
 unfold g_refuse_great_seeking c_refuse_great_seeking
 exact (fss_cons (fs_if (ft_cmp op_gGt (fb_of (fe_callB call_gLen rfl B.len bt_len (fab_cons (fb_var 0) fab_nil))) (fb_of (cn_MOST_ROWS Cn rfl)) (nomark _))
  (fss_one fs_stuck)
  fss_nil)
  (fss_one (fs_if (ft_cmp op_gGt (fb_of (fe_callB call_gLen rfl B.len bt_len (fab_cons (fb_var 1) fab_nil))) (fb_of (cn_MOST_WISHED Cn rfl)) (nomark _))
  (fss_one fs_stuck)
  fss_nil)))
theorem ok_Corner_first_line {P:Program}{w:World}{K:PySem.W.Frag}{mg:Str->Option Value}{base:Heap}{f:Addr}{fd:FuncData}(B:Bt mg)(Ck:ClsT K mg "Corner" ["bottom", "held_columns", "lines", "scales", "wide", "wish_lines", "wish_scales"])(Fu:Fun K "first_line" "Corner.first_line" stCorner_first_line f fd)(Gmade_whole:FF P w K mg base 1 "made_whole" ["fractions", "scale"] F_made_whole):
  FnOk P w K mg base (CX1 P w) 2 f fd ["self", "number", "row", "bound"] (spF ⟨K,mg⟩ F_Corner_first_line):=
 fun_okF Fu scCorner_first_line fun cdv A outer s H E hr=>by
 have hu:=hr.units
 unfold g_Corner_first_line c_Corner_first_line
 exact (fss_cons (fs_setComp (i:=4) (defScope stCorner_first_line) ["other", "number"] ["number"] 1 [1] scCorner_first_line.nd rfl (Or.inl rfl) rfl ⟨rfl,by decide +kernel,by decide +kernel,by decide +kernel,by decide +kernel⟩ (.cons rfl .nil) (fiw_of (fi_range1 rfl B.range (fab_cons (fb_of (fe_callB call_gLen rfl B.len bt_len (fab_cons (fb_of (fe_fld Ck (fb_var 0))) fab_nil))) fab_nil))) (fun _ _ _ _ _ _=>(fg_name (i:=0) (show List.Nodup (["other", "number"]:List Str) by decide) rfl (Or.inl rfl))) (fun _ _ _ _ _ _=>fifs_nil) (fun _ _ _ _ _ _=>(fe_if (ft_cmp (op_gEq hu) (fb_var 0) (fb_var 1) (nomark _)) fe_int fe_int)))
  (fss_cons (fs_set (i:=5) scCorner_first_line.nd rfl (Or.inl rfl) (fe_ix ix_g (fb_of (fe_fld Ck (fb_var 0))) (fb_var 1) (fun _ _=>rfl)))
  (fss_one (fs_retN (fn_cat (fb_of (fe_bin op_gAdd (fb_of (fe_fn Gmade_whole hr cx_pass (fae_cons (fe_var 2) (fae_cons (fe_var 5) fae_nil)))) (fb_var 4))) (fb_of (fe_fn Gmade_whole hr cx_pass (fae_cons (fe_new (fn_lst (fae_cons (fe_var 3) fae_nil))) (fae_cons (fe_var 5) fae_nil)))))))))
theorem ok_Corner_first_wish_line {P:Program}{w:World}{K:PySem.W.Frag}{mg:Str->Option Value}{base:Heap}{f:Addr}{fd:FuncData}(B:Bt mg)(Ck:ClsT K mg "Corner" ["bottom", "held_columns", "lines", "scales", "wide", "wish_lines", "wish_scales"])(Fu:Fun K "first_wish_line" "Corner.first_wish_line" stCorner_first_wish_line f fd)(Gmade_whole:FF P w K mg base 1 "made_whole" ["fractions", "scale"] F_made_whole):
  FnOk P w K mg base (CX1 P w) 2 f fd ["self", "number", "wish"] (spF ⟨K,mg⟩ F_Corner_first_wish_line):=
 fun_okF Fu scCorner_first_wish_line fun cdv A outer s H E hr=>by
 have hu:=hr.units
 unfold g_Corner_first_wish_line c_Corner_first_wish_line
 exact (fss_cons (fs_set (i:=3) scCorner_first_wish_line.nd rfl (Or.inl rfl) (fe_fn Gmade_whole hr cx_pass (fae_cons (fe_var 2) (fae_cons (fe_ix ix_g (fb_of (fe_fld Ck (fb_var 0))) (fb_var 1) (fun _ _=>rfl)) fae_nil))))
  (fss_one (fs_retN (fn_cat (fb_of (fe_bin op_gAdd (fb_of (fe_new (fn_comp (defScope stCorner_first_wish_line) ["each"] [] 1 [] rfl ⟨rfl,by decide +kernel,by decide +kernel,by decide +kernel,by decide +kernel⟩ .nil (fiw_list (fb_var 3)) (fun _ _ _ _ _ _=>(fg_name (i:=0) (show List.Nodup (["each"]:List Str) by decide) rfl (Or.inl rfl))) (fun _ _ _ _ _ _=>fifs_nil) (fun _ _ _ _ _ _=>(fe_un un_gNeg (fb_var 0)))))) (fb_of (fe_new (fn_comp (defScope stCorner_first_wish_line) ["scale"] [] 1 [] rfl ⟨rfl,by decide +kernel,by decide +kernel,by decide +kernel,by decide +kernel⟩ .nil (fiw_list (fb_of (fe_fld Ck (fb_var 0)))) (fun _ _ _ _ _ _=>(fg_name (i:=0) (show List.Nodup (["scale"]:List Str) by decide) rfl (Or.inl rfl))) (fun _ _ _ _ _ _=>fifs_nil) (fun _ _ _ _ _ _=>fe_int)))))) (fb_of (fe_new (fn_lst (fae_cons fe_int fae_nil))))))))
theorem ok_Corner___init__ {P:Program}{w:World}{K:PySem.W.Frag}{mg:Str->Option Value}{base:Heap}{f:Addr}{fd:FuncData}(B:Bt mg)(Ck:ClsT K mg "Corner" ["bottom", "held_columns", "lines", "scales", "wide", "wish_lines", "wish_scales"])(Fu:Fun K "__init__" "Corner.__init__" stCorner___init__ f fd)(Gscale_of:FF P w K mg base 2 "scale_of" ["fractions"] F_scale_of)(GCorner_first_line:FMd P w K mg base 2 "Corner" "first_line" ["self", "number", "row", "bound"] F_Corner_first_line)(GCorner_first_wish_line:FMd P w K mg base 2 "Corner" "first_wish_line" ["self", "number", "wish"] F_Corner_first_wish_line):
  FnOk P w K mg base (CX1 P w) 3 f fd ["self", "rows", "bounds", "wishes"] (spI ⟨K,mg⟩ "Corner" "held_columns" F_Corner___init__):=
 fun_okI "Corner" "held_columns" Fu scCorner___init__ (by decide) fun cdv A outer s H E hr=>by
 have hu:=hr.units
 unfold g_Corner___init__ c_Corner___init__
 exact (fi_cons (fs_fld 0 Ck (fe_callB call_gLen rfl B.len bt_len (fab_cons (fb_of (fe_ix ix_g (fb_var 3) (fb_of fe_int) (fun _ _=>rfl))) fab_nil)))
  (fi_cons (fs_fld 0 Ck (fe_new (fn_comp (defScope stCorner___init__) ["row", "bound"] [] 2 [] rfl ⟨rfl,by decide +kernel,by decide +kernel,by decide +kernel,by decide +kernel⟩ .nil (fiw_zip rfl B.zip (fab_cons (fb_var 1) (fab_cons (fb_var 2) fab_nil))) (fun _ _ _ _ _ _=>(fg_tup rfl (fgs_cons (fg_name (i:=0) (show List.Nodup (["row", "bound"]:List Str) by decide) rfl (Or.inl rfl)) (fgs_cons (fg_name (i:=1) (show List.Nodup (["row", "bound"]:List Str) by decide) rfl (Or.inl rfl)) fgs_nil)))) (fun _ _ _ _ _ _=>fifs_nil) (fun _ _ _ _ _ _=>(fe_fn Gscale_of hr pass1 (fae_cons (fe_bin op_gAdd (fb_var 0) (fb_of (fe_new (fn_lst (fae_cons (fe_var 1) fae_nil))))) fae_nil))))))
  (fi_cons (fs_fld 0 Ck (fe_new (fn_comp (defScope stCorner___init__) ["wish"] [] 1 [] rfl ⟨rfl,by decide +kernel,by decide +kernel,by decide +kernel,by decide +kernel⟩ .nil (fiw_list (fb_var 3)) (fun _ _ _ _ _ _=>(fg_name (i:=0) (show List.Nodup (["wish"]:List Str) by decide) rfl (Or.inl rfl))) (fun _ _ _ _ _ _=>fifs_nil) (fun _ _ _ _ _ _=>(fe_fn Gscale_of hr pass1 (fae_cons (fe_var 0) fae_nil))))))
  (fi_cons (fs_fld 0 Ck (fe_new (fn_comp (defScope stCorner___init__) ["number", "self", "rows", "bounds"] ["self", "rows", "bounds"] 1 [0,1,2] rfl ⟨rfl,by decide +kernel,by decide +kernel,by decide +kernel,by decide +kernel⟩ (.cons rfl (.cons rfl (.cons rfl .nil))) (fiw_of (fi_range1 rfl B.range (fab_cons (fb_of (fe_callB call_gLen rfl B.len bt_len (fab_cons (fb_var 1) fab_nil))) fab_nil))) (fun _ _ _ _ _ _=>(fg_name (i:=0) (show List.Nodup (["number", "self", "rows", "bounds"]:List Str) by decide) rfl (Or.inl rfl))) (fun _ _ _ _ _ _=>fifs_nil) (fun _ _ _ _ _ _=>(fe_mt GCorner_first_line hr pass1 (fv_of (fb_var 1)) (fab_cons (fb_var 0) (fab_cons (fb_of (fe_ix ix_g (fb_var 2) (fb_var 0) (fun _ _=>rfl))) (fab_cons (fb_of (fe_ix ix_g (fb_var 3) (fb_var 0) (fun _ _=>rfl))) fab_nil))))))))
  (fi_cons (fs_fld 0 Ck (fe_new (fn_comp (defScope stCorner___init__) ["number", "wish", "self"] ["self"] 2 [0] rfl ⟨rfl,by decide +kernel,by decide +kernel,by decide +kernel,by decide +kernel⟩ (.cons rfl .nil) (fiw_enum rfl B.enumerate (fab_cons (fb_var 3) fab_nil)) (fun _ _ _ _ _ _=>(fg_tup rfl (fgs_cons (fg_name (i:=0) (show List.Nodup (["number", "wish", "self"]:List Str) by decide) rfl (Or.inl rfl)) (fgs_cons (fg_name (i:=1) (show List.Nodup (["number", "wish", "self"]:List Str) by decide) rfl (Or.inl rfl)) fgs_nil)))) (fun _ _ _ _ _ _=>fifs_nil) (fun _ _ _ _ _ _=>(fe_mt GCorner_first_wish_line hr pass1 (fv_of (fb_var 2)) (fab_cons (fb_var 0) (fab_cons (fb_var 1) fab_nil)))))))
  (fi_cons (fs_fld 0 Ck fe_int)
  (fi_last 0 Ck (fn_comp (defScope stCorner___init__) ["number", "self"] ["self"] 1 [0] rfl ⟨rfl,by decide +kernel,by decide +kernel,by decide +kernel,by decide +kernel⟩ (.cons rfl .nil) (fiw_of (fi_range1 rfl B.range (fab_cons (fb_of (fe_callB call_gLen rfl B.len bt_len (fab_cons (fb_var 1) fab_nil))) fab_nil))) (fun _ _ _ _ _ _=>(fg_name (i:=0) (show List.Nodup (["number", "self"]:List Str) by decide) rfl (Or.inl rfl))) (fun _ _ _ _ _ _=>fifs_nil) (fun _ _ _ _ _ _=>(fe_bin op_gAdd (fb_of (fe_fld Ck (fb_var 1))) (fb_var 0)))))))))))
theorem ok_Corner_helping_column {P:Program}{w:World}{K:PySem.W.Frag}{mg:Str->Option Value}{base:Heap}{f:Addr}{fd:FuncData}(B:Bt mg)(Ck:ClsT K mg "Corner" ["bottom", "held_columns", "lines", "scales", "wide", "wish_lines", "wish_scales"])(Fu:Fun K "helping_column" "Corner.helping_column" stCorner_helping_column f fd)  :
  FnOk P w K mg base (CX1 P w) 1 f fd ["self", "level"] (spF ⟨K,mg⟩ F_Corner_helping_column):=
 fun_okF Fu scCorner_helping_column fun cdv A outer s H E hr=>by
 have hu:=hr.units
 unfold g_Corner_helping_column c_Corner_helping_column
 exact (fss_cons (fs_for (k:=1000) PassesOwn.leaving rfl (fi_range1 rfl B.range (fab_cons (fb_of (fe_bin op_gAdd (fb_of (fe_fld Ck (fb_var 0))) (fb_of (fe_callB call_gLen rfl B.len bt_len (fab_cons (fb_of (fe_fld Ck (fb_var 0))) fab_nil))))) fab_nil)) (fg_name (i:=2) scCorner_helping_column.nd rfl (Or.inr rfl))
  (fss_cons (fs_set (i:=3) scCorner_helping_column.nd rfl (Or.inl rfl) (fe_callB (call_gAll rfl) rfl B.all bt_all (fab_cons (fb_of (fe_new (fn_comp (defScope stCorner_helping_column) ["line", "column"] ["column"] 1 [2] rfl ⟨rfl,by decide +kernel,by decide +kernel,by decide +kernel,by decide +kernel⟩ (.cons rfl .nil) (fiw_list (fb_of (fe_slice (fb_of (fe_fld Ck (fb_var 0))) fo_none (fo_some (fb_var 1))))) (fun _ _ _ _ _ _=>(fg_name (i:=0) (show List.Nodup (["line", "column"]:List Str) by decide) rfl (Or.inl rfl))) (fun _ _ _ _ _ _=>fifs_nil) (fun _ _ _ _ _ _=>(fe_cmp (op_gEq hu) (fb_of (fe_ix ix_g (fb_var 0) (fb_var 1) (fun _ _=>rfl))) (fb_of fe_int) (nomark _)))))) fab_nil)))
  (fss_one (fs_if (ft_w (fw_and (ft_val (fe_var 3)) (fw_and1 (ft_cmp (op_gLt hu) (fb_of (fe_ix ix_g (fb_of (fe_ix ix_g (fb_of (fe_fld Ck (fb_var 0))) (fb_var 1) (fun _ _=>rfl))) (fb_var 2) (fun _ _=>rfl))) (fb_of fe_int) (nomark _)))))
  (fss_one (fs_ret (fe_var 2)))
  fss_nil))))
  (fss_one (fs_ret fe_non)))
theorem ok_Corner_ends_ahead {P:Program}{w:World}{K:PySem.W.Frag}{mg:Str->Option Value}{base:Heap}{f:Addr}{fd:FuncData}(B:Bt mg)(Ck:ClsT K mg "Corner" ["bottom", "held_columns", "lines", "scales", "wide", "wish_lines", "wish_scales"])(Fu:Fun K "ends_ahead" "Corner.ends_ahead" stCorner_ends_ahead f fd)  :
  FnOk P w K mg base (CX1 P w) 1 f fd ["self", "number", "other", "column"] (spF ⟨K,mg⟩ F_Corner_ends_ahead):=
 fun_okF Fu scCorner_ends_ahead fun cdv A outer s H E hr=>by
 have hu:=hr.units
 unfold g_Corner_ends_ahead c_Corner_ends_ahead
 exact (fss_cons (fs_set (i:=4) scCorner_ends_ahead.nd rfl (Or.inl rfl) (fe_bin op_gMul (fb_of (fe_ix ix_g (fb_of (fe_ix ix_g (fb_of (fe_fld Ck (fb_var 0))) (fb_var 1) (fun _ _=>rfl))) (fb_of (fe_un un_gNeg (fb_of fe_int))) (fun _ _=>rfl))) (fb_of (fe_ix ix_g (fb_of (fe_ix ix_g (fb_of (fe_fld Ck (fb_var 0))) (fb_var 2) (fun _ _=>rfl))) (fb_var 3) (fun _ _=>rfl)))))
  (fss_cons (fs_set (i:=5) scCorner_ends_ahead.nd rfl (Or.inl rfl) (fe_bin op_gMul (fb_of (fe_ix ix_g (fb_of (fe_ix ix_g (fb_of (fe_fld Ck (fb_var 0))) (fb_var 2) (fun _ _=>rfl))) (fb_of (fe_un un_gNeg (fb_of fe_int))) (fun _ _=>rfl))) (fb_of (fe_ix ix_g (fb_of (fe_ix ix_g (fb_of (fe_fld Ck (fb_var 0))) (fb_var 1) (fun _ _=>rfl))) (fb_var 3) (fun _ _=>rfl)))))
  (fss_cons (fs_if (ft_cmp (op_gEq hu) (fb_var 4) (fb_var 5) (nomark _))
  (fss_one (fs_ret (fe_cmp (op_gLt hu) (fb_of (fe_ix ix_g (fb_of (fe_fld Ck (fb_var 0))) (fb_var 1) (fun _ _=>rfl))) (fb_of (fe_ix ix_g (fb_of (fe_fld Ck (fb_var 0))) (fb_var 2) (fun _ _=>rfl))) (nomark _))))
  fss_nil)
  (fss_one (fs_ret (fe_cmp (op_gLt hu) (fb_var 4) (fb_var 5) (nomark _)))))))
theorem ok_Corner_ending_line {P:Program}{w:World}{K:PySem.W.Frag}{mg:Str->Option Value}{base:Heap}{f:Addr}{fd:FuncData}(B:Bt mg)(Ck:ClsT K mg "Corner" ["bottom", "held_columns", "lines", "scales", "wide", "wish_lines", "wish_scales"])(Fu:Fun K "ending_line" "Corner.ending_line" stCorner_ending_line f fd)(GCorner_ends_ahead:FMd P w K mg base 1 "Corner" "ends_ahead" ["self", "number", "other", "column"] F_Corner_ends_ahead):
  FnOk P w K mg base (CX1 P w) 2 f fd ["self", "column"] (spF ⟨K,mg⟩ F_Corner_ending_line):=
 fun_okF Fu scCorner_ending_line fun cdv A outer s H E hr=>by
 have hu:=hr.units
 unfold g_Corner_ending_line c_Corner_ending_line
 exact (fss_cons (fs_set (i:=2) scCorner_ending_line.nd rfl (Or.inl rfl) fe_non)
  (fss_cons (fs_for (k:=1000) PassesOwn.leaving rfl (fi_enum rfl B.enumerate (fae_cons (fe_fld Ck (fb_var 0)) fae_nil)) (fg_tup rfl (fgs_cons (fg_name (i:=3) scCorner_ending_line.nd rfl (Or.inl rfl)) (fgs_cons (fg_name (i:=4) scCorner_ending_line.nd rfl (Or.inl rfl)) fgs_nil)))
  (fss_one (fs_if (ft_w (fw_and (ft_cmp op_gGt (fb_of (fe_ix ix_g (fb_var 4) (fb_var 1) (fun _ _=>rfl))) (fb_of fe_int) (nomark _)) (fw_and1 (ft_w (fw_or (ft_cmp op_gIs (fb_var 2) (fb_of fe_non) (nomark _)) (fw_or1 (ft_val (fe_mt GCorner_ends_ahead hr cx_pass (fv_of (fb_var 0)) (fab_cons (fb_var 3) (fab_cons (fb_var 2) (fab_cons (fb_var 1) fab_nil)))))))))))
  (fss_one (fs_set (i:=2) scCorner_ending_line.nd rfl (Or.inl rfl) (fe_var 3)))
  fss_nil)))
  (fss_one (fs_ret (fe_var 2)))))
theorem ok_Corner_cleared {P:Program}{w:World}{K:PySem.W.Frag}{mg:Str->Option Value}{base:Heap}{f:Addr}{fd:FuncData}(B:Bt mg)(Ck:ClsT K mg "Corner" ["bottom", "held_columns", "lines", "scales", "wide", "wish_lines", "wish_scales"])(Fu:Fun K "cleared" "Corner.cleared" stCorner_cleared f fd)  :
  FnOk P w K mg base (CX1 P w) 1 f fd ["self", "line", "turned", "column"] (spF ⟨K,mg⟩ F_Corner_cleared):=
 fun_okF Fu scCorner_cleared fun cdv A outer s H E hr=>by
 have hu:=hr.units
 unfold g_Corner_cleared c_Corner_cleared
 exact (fss_cons (fs_set (i:=4) scCorner_cleared.nd rfl (Or.inr rfl) (fe_ix ix_g (fb_var 2) (fb_var 3) (fun _ _=>rfl)))
  (fss_cons (fs_set (i:=5) scCorner_cleared.nd rfl (Or.inr rfl) (fe_ix ix_g (fb_var 1) (fb_var 3) (fun _ _=>rfl)))
  (fss_one (fs_retN (fn_comp (defScope stCorner_cleared) ["each", "there", "self", "by", "less"] ["self", "by", "less"] 2 [0,4,5] rfl ⟨rfl,by decide +kernel,by decide +kernel,by decide +kernel,by decide +kernel⟩ (.cons rfl (.cons rfl (.cons rfl .nil))) (fiw_zip rfl B.zip (fab_cons (fb_var 1) (fab_cons (fb_var 2) fab_nil))) (fun _ _ _ _ _ _=>(fg_tup rfl (fgs_cons (fg_name (i:=0) (show List.Nodup (["each", "there", "self", "by", "less"]:List Str) by decide) rfl (Or.inl rfl)) (fgs_cons (fg_name (i:=1) (show List.Nodup (["each", "there", "self", "by", "less"]:List Str) by decide) rfl (Or.inl rfl)) fgs_nil)))) (fun _ _ _ _ _ _=>fifs_nil) (fun _ _ _ _ _ _=>(fe_bin op_gDiv (fb_of (fe_bin op_gSub (fb_of (fe_bin op_gMul (fb_var 0) (fb_var 3))) (fb_of (fe_bin op_gMul (fb_var 4) (fb_var 1))))) (fb_of (fe_fld Ck (fb_var 2))))))))))
theorem ok_Corner_turn_about {P:Program}{w:World}{K:PySem.W.Frag}{mg:Str->Option Value}{base:Heap}{f:Addr}{fd:FuncData}(B:Bt mg)(Ck:ClsT K mg "Corner" ["bottom", "held_columns", "lines", "scales", "wide", "wish_lines", "wish_scales"])(Fu:Fun K "turn_about" "Corner.turn_about" stCorner_turn_about f fd)(GCorner_cleared:FMd P w K mg base 1 "Corner" "cleared" ["self", "line", "turned", "column"] F_Corner_cleared):
  FnOk P w K mg base (CX1 P w) 2 f fd ["self", "number", "column"] (spM ⟨K,mg⟩ F_Corner_turn_about):=
 fun_okM Fu scCorner_turn_about (by decide) fun cdv A outer s H E hr=>by
 have hu:=hr.units
 unfold g_Corner_turn_about c_Corner_turn_about
 exact (fss_cons (fs_set (i:=3) scCorner_turn_about.nd rfl (Or.inr rfl) (fe_ix ix_g (fb_of (fe_fld Ck (fb_var 0))) (fb_var 1) (fun _ _=>rfl)))
  (fss_cons (fs_fld 0 Ck (fe_new (fn_comp (defScope stCorner_turn_about) ["line", "turned", "column", "self"] ["turned", "column", "self"] 1 [3,2,0] rfl ⟨rfl,by decide +kernel,by decide +kernel,by decide +kernel,by decide +kernel⟩ (.cons rfl (.cons rfl (.cons rfl .nil))) (fiw_list (fb_of (fe_fld Ck (fb_var 0)))) (fun _ _ _ _ _ _=>(fg_name (i:=0) (show List.Nodup (["line", "turned", "column", "self"]:List Str) by decide) rfl (Or.inl rfl))) (fun _ _ _ _ _ _=>fifs_nil) (fun _ _ _ _ _ _=>(fe_mt GCorner_cleared hr pass1 (fv_of (fb_var 3)) (fab_cons (fb_var 0) (fab_cons (fb_var 1) (fab_cons (fb_var 2) fab_nil))))))))
  (fss_fldIx 0 1 3 Ck (fn_comp (defScope stCorner_turn_about) ["line", "turned", "column", "self"] ["turned", "column", "self"] 1 [3,2,0] rfl ⟨rfl,by decide +kernel,by decide +kernel,by decide +kernel,by decide +kernel⟩ (.cons rfl (.cons rfl (.cons rfl .nil))) (fiw_list (fb_of (fe_fld Ck (fb_var 0)))) (fun _ _ _ _ _ _=>(fg_name (i:=0) (show List.Nodup (["line", "turned", "column", "self"]:List Str) by decide) rfl (Or.inl rfl))) (fun _ _ _ _ _ _=>fifs_nil) (fun _ _ _ _ _ _=>(fe_mt GCorner_cleared hr pass1 (fv_of (fb_var 3)) (fab_cons (fb_var 0) (fab_cons (fb_var 1) (fab_cons (fb_var 2) fab_nil))))))
  (fss_cons (fs_adrSetIx 4 (fe_var 2) (fe_fld Ck (fb_var 0)) (fe_var 1))
  (fss_one (fs_fld 0 Ck (fe_ix ix_g (fb_var 3) (fb_var 2) (fun _ _=>rfl))))))))
theorem ok_Corner_climb {P:Program}{w:World}{K:PySem.W.Frag}{mg:Str->Option Value}{base:Heap}{f:Addr}{fd:FuncData}(B:Bt mg)(Ck:ClsT K mg "Corner" ["bottom", "held_columns", "lines", "scales", "wide", "wish_lines", "wish_scales"])(Fu:Fun K "climb" "Corner.climb" stCorner_climb f fd)(GCorner_helping_column:FMd P w K mg base 1 "Corner" "helping_column" ["self", "level"] F_Corner_helping_column)(GCorner_ending_line:FMd P w K mg base 2 "Corner" "ending_line" ["self", "column"] F_Corner_ending_line)(GCorner_turn_about:FMm P w K mg base 2 "Corner" "turn_about" ["self", "number", "column"] F_Corner_turn_about):
  FnOk P w K mg base (CX1 P w) 3 f fd ["self", "level"] (spM ⟨K,mg⟩ F_Corner_climb):=
 fun_okM Fu scCorner_climb (by decide) fun cdv A outer s H E hr=>by
 have hu:=hr.units
 unfold g_Corner_climb c_Corner_climb
 exact (fss_cons (fs_set (i:=2) scCorner_climb.nd rfl (Or.inl rfl) (fe_mt GCorner_helping_column hr cx_pass (fv_view 0 4) (fab_cons (fb_var 1) fab_nil)))
  (fss_cons (fs_while PassesOwn.leaving (ft_cmp op_gIsnt (fb_var 2) (fb_of fe_non) (nomark _))
  (fss_cons (fs_set (i:=3) scCorner_climb.nd rfl (Or.inl rfl) (fe_mt GCorner_ending_line hr cx_pass (fv_view 0 4) (fab_cons (fb_var 2) fab_nil)))
  (fss_cons (fs_if (ft_cmp op_gIs (fb_var 3) (fb_of fe_non) (nomark _))
  (fss_one (fs_ret (fe_var 2)))
  fss_nil)
  (fss_cons (fs_exprX (fx_m 0 4 GCorner_turn_about hr cx_pass (fae_cons (fe_var 3) (fae_cons (fe_var 2) fae_nil))))
  (fss_one (fs_set (i:=2) scCorner_climb.nd rfl (Or.inl rfl) (fe_mt GCorner_helping_column hr cx_pass (fv_view 0 4) (fab_cons (fb_var 1) fab_nil))))))))
  (fss_one (fs_ret fe_non))))
theorem ok_Corner_amounts {P:Program}{w:World}{K:PySem.W.Frag}{mg:Str->Option Value}{base:Heap}{f:Addr}{fd:FuncData}(B:Bt mg)(Cn:CnT K mg)(Ck:ClsT K mg "Corner" ["bottom", "held_columns", "lines", "scales", "wide", "wish_lines", "wish_scales"])(Fu:Fun K "amounts" "Corner.amounts" stCorner_amounts f fd)(Glowest:FF P w K mg base 2 "lowest" ["top", "bottom"] F_lowest):
  FnOk P w K mg base (CX1 P w) 3 f fd ["self", "tops"] (spF ⟨K,mg⟩ F_Corner_amounts):=
 fun_okF Fu scCorner_amounts fun cdv A outer s H E hr=>by
 have hu:=hr.units
 unfold g_Corner_amounts c_Corner_amounts
 exact (fss_cons (fs_ownComp (i:=2) (defScope stCorner_amounts) ["column"] [] 1 [] scCorner_amounts.nd rfl (Or.inl rfl) rfl ⟨rfl,by decide +kernel,by decide +kernel,by decide +kernel,by decide +kernel⟩ .nil (fiw_of (fi_range1 rfl B.range (fab_cons (fb_of (fe_fld Ck (fb_var 0))) fab_nil))) (fun _ _ _ _ _ _=>(fg_name (i:=0) (show List.Nodup (["column"]:List Str) by decide) rfl (Or.inl rfl))) (fun _ _ _ _ _ _=>fifs_nil) (fun _ _ _ _ _ _=>(cn_NOUGHT Cn rfl)))
  (fss_cons (fs_for (k:=1000) PassesOwn.leaving rfl (fi_zip rfl B.zip (fae_cons (fe_fld Ck (fb_var 0)) (fae_cons (fe_var 1) fae_nil))) (fg_tup rfl (fgs_cons (fg_name (i:=3) scCorner_amounts.nd rfl (Or.inl rfl)) (fgs_cons (fg_name (i:=4) scCorner_amounts.nd rfl (Or.inl rfl)) fgs_nil)))
  (fss_one (fs_if (ft_cmp (op_gLt hu) (fb_var 3) (fb_of (fe_fld Ck (fb_var 0))) (nomark _))
  (fss_one (fs_setIx 2 (fe_fn Glowest hr cx_pass (fae_cons (fe_var 4) (fae_cons (fe_fld Ck (fb_var 0)) fae_nil))) (fe_var 3)))
  fss_nil)))
  (fss_one (fs_retV 2))))
theorem ok_Corner_fit {P:Program}{w:World}{K:PySem.W.Frag}{mg:Str->Option Value}{base:Heap}{f:Addr}{fd:FuncData}(B:Bt mg)(Ck:ClsT K mg "Corner" ["bottom", "held_columns", "lines", "scales", "wide", "wish_lines", "wish_scales"])(Fu:Fun K "fit" "Corner.fit" stCorner_fit f fd)(GCorner_amounts:FMd P w K mg base 3 "Corner" "amounts" ["self", "tops"] F_Corner_amounts):
  FnOk P w K mg base (CX1 P w) 4 f fd ["self"] (spF ⟨K,mg⟩ F_Corner_fit):=
 fun_okF Fu scCorner_fit fun cdv A outer s H E hr=>by
 have hu:=hr.units
 unfold g_Corner_fit c_Corner_fit
 exact (fss_one (fs_retN (fn_mt GCorner_amounts hr cx_pass (fv_of (fb_var 0)) (fab_cons (fb_of (fe_new (fn_comp (defScope stCorner_fit) ["line"] [] 1 [] rfl ⟨rfl,by decide +kernel,by decide +kernel,by decide +kernel,by decide +kernel⟩ .nil (fiw_list (fb_of (fe_fld Ck (fb_var 0)))) (fun _ _ _ _ _ _=>(fg_name (i:=0) (show List.Nodup (["line"]:List Str) by decide) rfl (Or.inl rfl))) (fun _ _ _ _ _ _=>fifs_nil) (fun _ _ _ _ _ _=>(fe_ix ix_g (fb_var 0) (fb_of (fe_un un_gNeg (fb_of fe_int))) (fun _ _=>rfl)))))) fab_nil))))
theorem ok_Corner_way_along {P:Program}{w:World}{K:PySem.W.Frag}{mg:Str->Option Value}{base:Heap}{f:Addr}{fd:FuncData}(B:Bt mg)(Cn:CnT K mg)(Ck:ClsT K mg "Corner" ["bottom", "held_columns", "lines", "scales", "wide", "wish_lines", "wish_scales"])(Fu:Fun K "way_along" "Corner.way_along" stCorner_way_along f fd)(GCorner_amounts:FMd P w K mg base 3 "Corner" "amounts" ["self", "tops"] F_Corner_amounts):
  FnOk P w K mg base (CX1 P w) 4 f fd ["self", "column"] (spF ⟨K,mg⟩ F_Corner_way_along):=
 fun_okF Fu scCorner_way_along fun cdv A outer s H E hr=>by
 have hu:=hr.units
 unfold g_Corner_way_along c_Corner_way_along
 exact (fss_cons (fs_own (i:=2) scCorner_way_along.nd rfl (Or.inl rfl) (fn_mt GCorner_amounts hr cx_pass (fv_of (fb_var 0)) (fab_cons (fb_of (fe_new (fn_comp (defScope stCorner_way_along) ["line", "column"] ["column"] 1 [1] rfl ⟨rfl,by decide +kernel,by decide +kernel,by decide +kernel,by decide +kernel⟩ (.cons rfl .nil) (fiw_list (fb_of (fe_fld Ck (fb_var 0)))) (fun _ _ _ _ _ _=>(fg_name (i:=0) (show List.Nodup (["line", "column"]:List Str) by decide) rfl (Or.inl rfl))) (fun _ _ _ _ _ _=>fifs_nil) (fun _ _ _ _ _ _=>(fe_un un_gNeg (fb_of (fe_ix ix_g (fb_var 0) (fb_var 1) (fun _ _=>rfl)))))))) fab_nil)))
  (fss_cons (fs_if (ft_cmp (op_gLt hu) (fb_var 1) (fb_of (fe_fld Ck (fb_var 0))) (nomark _))
  (fss_one (fs_setIx 2 (cn_ONE Cn rfl) (fe_var 1)))
  fss_nil)
  (fss_one (fs_retV 2))))
theorem ok_Corner_prices {P:Program}{w:World}{K:PySem.W.Frag}{mg:Str->Option Value}{base:Heap}{f:Addr}{fd:FuncData}(B:Bt mg)(Ck:ClsT K mg "Corner" ["bottom", "held_columns", "lines", "scales", "wide", "wish_lines", "wish_scales"])(Fu:Fun K "prices" "Corner.prices" stCorner_prices f fd)(Glowest:FF P w K mg base 2 "lowest" ["top", "bottom"] F_lowest):
  FnOk P w K mg base (CX1 P w) 3 f fd ["self", "level"] (spF ⟨K,mg⟩ F_Corner_prices):=
 fun_okF Fu scCorner_prices fun cdv A outer s H E hr=>by
 have hu:=hr.units
 unfold g_Corner_prices c_Corner_prices
 exact (fss_cons (fs_set (i:=2) scCorner_prices.nd rfl (Or.inr rfl) (fe_ix ix_g (fb_of (fe_fld Ck (fb_var 0))) (fb_var 1) (fun _ _=>rfl)))
  (fss_cons (fs_set (i:=3) scCorner_prices.nd rfl (Or.inr rfl) (fe_bin op_gMul (fb_of (fe_fld Ck (fb_var 0))) (fb_of (fe_ix ix_g (fb_of (fe_fld Ck (fb_var 0))) (fb_var 1) (fun _ _=>rfl)))))
  (fss_one (fs_retN (fn_comp (defScope stCorner_prices) ["number", "scale", "bottom", "line", "self"] ["bottom", "line", "self"] 2 [3,2,0] rfl ⟨rfl,by decide +kernel,by decide +kernel,by decide +kernel,by decide +kernel⟩ (.cons rfl (.cons rfl (.cons rfl .nil))) (fiw_enum rfl B.enumerate (fab_cons (fb_of (fe_fld Ck (fb_var 0))) fab_nil)) (fun _ _ _ _ _ _=>(fg_tup rfl (fgs_cons (fg_name (i:=0) (show List.Nodup (["number", "scale", "bottom", "line", "self"]:List Str) by decide) rfl (Or.inl rfl)) (fgs_cons (fg_name (i:=1) (show List.Nodup (["number", "scale", "bottom", "line", "self"]:List Str) by decide) rfl (Or.inl rfl)) fgs_nil)))) (fun _ _ _ _ _ _=>fifs_nil) (fun _ _ _ _ _ _=>(fe_fn Glowest hr pass1 (fae_cons (fe_bin op_gMul (fb_of (fe_ix ix_g (fb_var 3) (fb_of (fe_bin op_gAdd (fb_of (fe_fld Ck (fb_var 4))) (fb_var 0))) (fun _ _=>rfl))) (fb_var 1)) (fae_cons (fe_var 2) fae_nil)))))))))
theorem ok_solve {P:Program}{w:World}{K:PySem.W.Frag}{mg:Str->Option Value}{base:Heap}{f:Addr}{fd:FuncData}(B:Bt mg)(Fu:Fun K "solve" "solve" stsolve f fd)(Grefuse_great_seeking:FF P w K mg base 1 "refuse_great_seeking" ["rows", "wish"] F_refuse_great_seeking)(GCorner___init__:MkT P w K mg base 3 "Corner" ["self", "rows", "bounds", "wishes"] (spI ⟨K,mg⟩ "Corner" "held_columns" F_Corner___init__))(GCorner_climb:FMm P w K mg base 3 "Corner" "climb" ["self", "level"] F_Corner_climb)(GCorner_fit:FMd P w K mg base 4 "Corner" "fit" ["self"] F_Corner_fit)(GCorner_way_along:FMd P w K mg base 4 "Corner" "way_along" ["self", "column"] F_Corner_way_along)(GCorner_prices:FMd P w K mg base 3 "Corner" "prices" ["self", "level"] F_Corner_prices):
  FnOk P w K mg base (CX1 P w) 5 f fd ["rows", "bounds", "wish"] (spF ⟨K,mg⟩ F_solve):=
 fun_okF Fu scsolve fun cdv A outer s H E hr=>by
 have hu:=hr.units
 unfold g_solve c_solve
 exact (fss_cons (fs_expr (fe_fn Grefuse_great_seeking hr cx_pass (fae_cons (fe_var 0) (fae_cons (fe_var 2) fae_nil))))
  (fss_newO 3 5 GCorner___init__ hr cx_pass scsolve.nd rfl (Or.inl rfl) (fae_cons (fe_var 0) (fae_cons (fe_var 1) (fae_cons (fe_new (fn_lst (fae_cons (fe_var 2) fae_nil))) fae_nil)))
  (fss_cons (fs_setX (i:=4) scsolve.nd rfl (Or.inl rfl) (fx_m 3 5 GCorner_climb hr cx_pass (fae_cons fe_int fae_nil)))
  (fss_cons (fs_if (ft_cmp op_gIsnt (fb_var 4) (fb_of fe_non) (nomark _))
  (fss_one (fs_retT (fai_flat fe_str (fai_new (fn_mt0 GCorner_fit hr cx_pass (fv_view 3 5)) (fai_new (fn_mt GCorner_way_along hr cx_pass (fv_view 3 5) (fab_cons (fb_var 4) fab_nil)) fai_nil)))))
  fss_nil)
  (fss_one (fs_retT (fai_flat fe_str (fai_new (fn_mt0 GCorner_fit hr cx_pass (fv_view 3 5)) (fai_new (fn_mt GCorner_prices hr cx_pass (fv_view 3 5) (fab_cons (fb_of fe_int) fab_nil)) fai_nil)))))))))
theorem ok__law_cell_at {P:Program}{w:World}{K:PySem.W.Frag}{mg:Str->Option Value}{base:Heap}{f:Addr}{fd:FuncData}(B:Bt mg)(Fu:Fun K "_law_cell_at" "_law_cell_at" st_law_cell_at f fd)  :
  FnOk P w K mg base (CX1 P w) 1 f fd ["_law_script", "_law_k"] (spF ⟨K,mg⟩ F__law_cell_at):=
 fun_okF Fu sc_law_cell_at fun cdv A outer s H E hr=>by
 have hu:=hr.units
 unfold g__law_cell_at c__law_cell_at
 exact (fss_cons (fs_if (ft_cmp (op_gLt hu) (fb_var 1) (fb_of (fe_callB call_gLen rfl B.len bt_len (fab_cons (fb_var 0) fab_nil))) (nomark _))
  (fss_one (fs_ret (fe_ix ix_g (fb_var 0) (fb_var 1) (fun _ _=>rfl))))
  fss_nil)
  (fss_one (fs_ret fe_int)))
theorem ok__law_divisor {P:Program}{w:World}{K:PySem.W.Frag}{mg:Str->Option Value}{base:Heap}{f:Addr}{fd:FuncData}(B:Bt mg)(Fu:Fun K "_law_divisor" "_law_divisor" st_law_divisor f fd)  :
  FnOk P w K mg base (CX1 P w) 1 f fd ["_law_one", "_law_other"] (spF ⟨K,mg⟩ F__law_divisor):=
 fun_okF Fu sc_law_divisor fun cdv A outer s H E hr=>by
 have hu:=hr.units
 unfold g__law_divisor c__law_divisor
 exact (fss_cons (fs_while PassesOwn.leaving (ft_cmp (op_gNe hu) (fb_var 1) (fb_of fe_int) (nomark _))
  (fss_one (fs_par (i:=0) (j:=1) rfl sc_law_divisor.nd rfl rfl (by decide) rfl rfl (fae_cons (fe_var 1) (fae_cons (fe_bin op_gMod (fb_var 0) (fb_var 1)) fae_nil)))))
  (fss_one (fs_ret (fe_callB call_gAbs rfl B.abs bt_abs (fab_cons (fb_var 0) fab_nil)))))
theorem ok__law_lowest {P:Program}{w:World}{K:PySem.W.Frag}{mg:Str->Option Value}{base:Heap}{f:Addr}{fd:FuncData}(B:Bt mg)(Fu:Fun K "_law_lowest" "_law_lowest" st_law_lowest f fd)(G_law_divisor:FF P w K mg base 1 "_law_divisor" ["_law_one", "_law_other"] F__law_divisor):
  FnOk P w K mg base (CX1 P w) 2 f fd ["_law_top", "_law_bottom"] (spF ⟨K,mg⟩ F__law_lowest):=
 fun_okF Fu sc_law_lowest fun cdv A outer s H E hr=>by
 have hu:=hr.units
 unfold g__law_lowest c__law_lowest
 exact (fss_cons (fs_set (i:=2) sc_law_lowest.nd rfl (Or.inl rfl) (fe_fn G_law_divisor hr cx_pass (fae_cons (fe_var 0) (fae_cons (fe_var 1) fae_nil))))
  (fss_one (fs_ret (fe_tup (fae_cons (fe_bin op_gDiv (fb_var 0) (fb_var 2)) (fae_cons (fe_bin op_gDiv (fb_var 1) (fb_var 2)) fae_nil))))))
theorem ok__law_number {P:Program}{w:World}{K:PySem.W.Frag}{mg:Str->Option Value}{base:Heap}{f:Addr}{fd:FuncData}(B:Bt mg)(Fu:Fun K "_law_number" "_law_number" st_law_number f fd)(G_law_lowest:FF P w K mg base 2 "_law_lowest" ["_law_top", "_law_bottom"] F__law_lowest):
  FnOk P w K mg base (CX1 P w) 3 f fd ["_law_cell", "_law_sort"] (spF ⟨K,mg⟩ F__law_number):=
 fun_okF Fu sc_law_number fun cdv A outer s H E hr=>by
 have hu:=hr.units
 unfold g__law_number c__law_number
 exact (fss_cons (fs_if (ft_cmp (op_gEq hu) (fb_var 1) (fb_of fe_int) (nomark _))
  (fss_one (fs_ret (fe_tup (fae_cons (fe_bin op_gSub (fb_of (fe_bin op_gMod (fb_var 0) (fb_of fe_int))) (fb_of fe_int)) (fae_cons fe_int fae_nil)))))
  fss_nil)
  (fss_cons (fs_if (ft_cmp (op_gEq hu) (fb_var 1) (fb_of fe_int) (nomark _))
  (fss_one (fs_ret (fe_tup (fae_cons (fe_ix ix_g (fb_of (fe_new (fn_lst (fae_cons fe_int (fae_cons fe_int (fae_cons fe_int (fae_cons (fe_un un_gNeg (fb_of fe_int)) (fae_cons fe_int (fae_cons fe_int fae_nil))))))))) (fb_of (fe_bin op_gMod (fb_var 0) (fb_of fe_int))) (fun _ _=>rfl)) (fae_cons fe_int fae_nil)))))
  fss_nil)
  (fss_cons (fs_if (ft_cmp (op_gEq hu) (fb_var 1) (fb_of fe_int) (nomark _))
  (fss_one (fs_ret (fe_fn G_law_lowest hr cx_pass (fae_cons (fe_bin op_gSub (fb_of (fe_bin op_gMod (fb_var 0) (fb_of fe_int))) (fb_of fe_int)) (fae_cons (fe_bin op_gAdd (fb_of fe_int) (fb_of (fe_bin op_gMod (fb_of (fe_bin op_gDiv (fb_var 0) (fb_of fe_int))) (fb_of fe_int)))) fae_nil)))))
  fss_nil)
  (fss_one (fs_ret (fe_fn G_law_lowest hr cx_pass (fae_cons (fe_bin op_gSub (fb_of (fe_bin op_gMod (fb_var 0) (fb_of (fe_bin op_gMul (fb_of fe_int) (fb_of (fe_bin op_gPow (fb_of fe_int) (fb_of fe_int))))))) (fb_of (fe_bin op_gPow (fb_of fe_int) (fb_of fe_int)))) (fae_cons (fe_bin op_gAdd (fb_of fe_int) (fb_of (fe_bin op_gMod (fb_of (fe_bin op_gDiv (fb_var 0) (fb_of fe_int))) (fb_of fe_int)))) fae_nil))))))))
theorem ok__law_bound {P:Program}{w:World}{K:PySem.W.Frag}{mg:Str->Option Value}{base:Heap}{f:Addr}{fd:FuncData}(B:Bt mg)(Fu:Fun K "_law_bound" "_law_bound" st_law_bound f fd)(G_law_number:FF P w K mg base 3 "_law_number" ["_law_cell", "_law_sort"] F__law_number):
  FnOk P w K mg base (CX1 P w) 4 f fd ["_law_cell", "_law_sort", "_law_zeros"] (spF ⟨K,mg⟩ F__law_bound):=
 fun_okF Fu sc_law_bound fun cdv A outer s H E hr=>by
 have hu:=hr.units
 unfold g__law_bound c__law_bound
 exact (fss_cons (fs_if (ft_w (fw_and (ft_cmp (op_gEq hu) (fb_var 2) (fb_of fe_int) (nomark _)) (fw_and1 (ft_cmp (op_gLt hu) (fb_of (fe_bin op_gMod (fb_var 0) (fb_of fe_int))) (fb_of fe_int) (nomark _)))))
  (fss_one (fs_ret (fe_tup (fae_cons fe_int (fae_cons fe_int fae_nil)))))
  fss_nil)
  (fss_cons (fs_set (i:=3) sc_law_bound.nd rfl (Or.inl rfl) (fe_fn G_law_number hr cx_pass (fae_cons (fe_bin op_gDiv (fb_var 0) (fb_of fe_int)) (fae_cons (fe_var 1) fae_nil))))
  (fss_one (fs_ret (fe_tup (fae_cons (fe_callB call_gAbs rfl B.abs bt_abs (fab_cons (fb_of (fe_ix ix_g (fb_var 3) (fb_of fe_int) (fun _ _=>rfl))) fab_nil)) (fae_cons (fe_ix ix_g (fb_var 3) (fb_of fe_int) (fun _ _=>rfl)) fae_nil)))))))
theorem ok__law_fraction {P:Program}{w:World}{K:PySem.W.Frag}{mg:Str->Option Value}{base:Heap}{f:Addr}{fd:FuncData}(B:Bt mg)(Fu:Fun K "_law_fraction" "_law_fraction" st_law_fraction f fd)(G_law_divisor:FF P w K mg base 1 "_law_divisor" ["_law_one", "_law_other"] F__law_divisor):
  FnOk P w K mg base (CX1 P w) 2 f fd ["_law_found"] (spF ⟨K,mg⟩ F__law_fraction):=
 fun_okF Fu sc_law_fraction fun cdv A outer s H E hr=>by
 have hu:=hr.units
 unfold g__law_fraction c__law_fraction
 exact (fss_cons (fs_if (ft_w (fw_or (ft_not (ft_val (fe_isi (x:="") (fb_var 0) rfl B.isinstance bt_isinstance rfl B.tuple bt_tuple))) (fw_or1 (ft_cmp (op_gNe hu) (fb_of (fe_callB call_gLen rfl B.len bt_len (fab_cons (fb_var 0) fab_nil))) (fb_of fe_int) (nomark _)))))
  (fss_one (fs_ret fe_bl))
  fss_nil)
  (fss_cons (fs_for (k:=1000) PassesOwn.leaving rfl (fi_tup (fe_var 0)) (fg_name (i:=1) sc_law_fraction.nd rfl (Or.inl rfl))
  (fss_one (fs_if (ft_w (fw_or (ft_not (ft_val (fe_isi (x:="") (fb_var 1) rfl B.isinstance bt_isinstance rfl B.int bt_int))) (fw_or1 (ft_val (fe_isi (x:="") (fb_var 1) rfl B.isinstance bt_isinstance rfl B.bool bt_bool)))))
  (fss_one (fs_ret fe_bl))
  fss_nil)))
  (fss_one (fs_ret (fe_and (fe_cmp op_gGt (fb_of (fe_ix ix_g (fb_var 0) (fb_of fe_int) (fun _ _=>rfl))) (fb_of fe_int) (nomark _)) (fe_one (fe_cmp (op_gEq hu) (fb_of (fe_fn G_law_divisor hr cx_pass (fae_cons (fe_ix ix_g (fb_var 0) (fb_of fe_int) (fun _ _=>rfl)) (fae_cons (fe_ix ix_g (fb_var 0) (fb_of fe_int) (fun _ _=>rfl)) fae_nil)))) (fb_of fe_int) (nomark _))))))))
theorem ok__law_list {P:Program}{w:World}{K:PySem.W.Frag}{mg:Str->Option Value}{base:Heap}{f:Addr}{fd:FuncData}(B:Bt mg)(Fu:Fun K "_law_list" "_law_list" st_law_list f fd)(G_law_fraction:FF P w K mg base 2 "_law_fraction" ["_law_found"] F__law_fraction):
  FnOk P w K mg base (CX1 P w) 3 f fd ["_law_found", "_law_many"] (spF ⟨K,mg⟩ F__law_list):=
 fun_okF Fu sc_law_list fun cdv A outer s H E hr=>by
 have hu:=hr.units
 unfold g__law_list c__law_list
 exact (fss_cons (fs_if (ft_w (fw_or (ft_not (ft_val (fe_isi (x:="") (fb_var 0) rfl B.isinstance bt_isinstance rfl B.list bt_list))) (fw_or1 (ft_cmp (op_gNe hu) (fb_of (fe_callB call_gLen rfl B.len bt_len (fab_cons (fb_var 0) fab_nil))) (fb_var 1) (nomark _)))))
  (fss_one (fs_ret fe_bl))
  fss_nil)
  (fss_cons (fs_for (k:=1000) PassesOwn.leaving rfl (fi_list (fe_var 0)) (fg_name (i:=2) sc_law_list.nd rfl (Or.inl rfl))
  (fss_one (fs_if (ft_w (fw_or (ft_not (ft_val (fe_fn G_law_fraction hr cx_pass (fae_cons (fe_var 2) fae_nil)))) (fw_or1 (ft_cmp (op_gLt hu) (fb_of (fe_ix ix_g (fb_var 2) (fb_of fe_int) (fun _ _=>rfl))) (fb_of fe_int) (nomark _)))))
  (fss_one (fs_ret fe_bl))
  fss_nil)))
  (fss_one (fs_ret fe_bl))))
theorem ok__law_dot {P:Program}{w:World}{K:PySem.W.Frag}{mg:Str->Option Value}{base:Heap}{f:Addr}{fd:FuncData}(B:Bt mg)(Fu:Fun K "_law_dot" "_law_dot" st_law_dot f fd)  :
  FnOk P w K mg base (CX1 P w) 1 f fd ["_law_some", "_law_more"] (spF ⟨K,mg⟩ F__law_dot):=
 fun_okF Fu sc_law_dot fun cdv A outer s H E hr=>by
 have hu:=hr.units
 unfold g__law_dot c__law_dot
 exact (fss_cons (fs_set (i:=2) sc_law_dot.nd rfl (Or.inl rfl) fe_int)
  (fss_cons (fs_set (i:=3) sc_law_dot.nd rfl (Or.inl rfl) fe_int)
  (fss_cons (fs_for (k:=1000) PassesOwn.leaving rfl (fi_zip rfl B.zip (fae_cons (fe_var 0) (fae_cons (fe_var 1) fae_nil))) (fg_tup rfl (fgs_cons (fg_name (i:=4) sc_law_dot.nd rfl (Or.inl rfl)) (fgs_cons (fg_name (i:=5) sc_law_dot.nd rfl (Or.inl rfl)) fgs_nil)))
  (fss_cons (fs_set (i:=2) sc_law_dot.nd rfl (Or.inl rfl) (fe_bin op_gAdd (fb_of (fe_bin op_gMul (fb_of (fe_bin op_gMul (fb_var 2) (fb_of (fe_ix ix_g (fb_var 4) (fb_of fe_int) (fun _ _=>rfl))))) (fb_of (fe_ix ix_g (fb_var 5) (fb_of fe_int) (fun _ _=>rfl))))) (fb_of (fe_bin op_gMul (fb_of (fe_bin op_gMul (fb_of (fe_ix ix_g (fb_var 4) (fb_of fe_int) (fun _ _=>rfl))) (fb_of (fe_ix ix_g (fb_var 5) (fb_of fe_int) (fun _ _=>rfl))))) (fb_var 3)))))
  (fss_one (fs_set (i:=3) sc_law_dot.nd rfl (Or.inl rfl) (fe_bin op_gMul (fb_of (fe_bin op_gMul (fb_var 3) (fb_of (fe_ix ix_g (fb_var 4) (fb_of fe_int) (fun _ _=>rfl))))) (fb_of (fe_ix ix_g (fb_var 5) (fb_of fe_int) (fun _ _=>rfl))))))))
  (fss_one (fs_ret (fe_tup (fae_cons (fe_var 2) (fae_cons (fe_var 3) fae_nil))))))))
theorem ok__law_most {P:Program}{w:World}{K:PySem.W.Frag}{mg:Str->Option Value}{base:Heap}{f:Addr}{fd:FuncData}(B:Bt mg)(Fu:Fun K "_law_most" "_law_most" st_law_most f fd)  :
  FnOk P w K mg base (CX1 P w) 1 f fd ["_law_one", "_law_other"] (spF ⟨K,mg⟩ F__law_most):=
 fun_okF Fu sc_law_most fun cdv A outer s H E hr=>by
 have hu:=hr.units
 unfold g__law_most c__law_most
 exact (fss_one (fs_ret (fe_cmp op_gLe (fb_of (fe_bin op_gMul (fb_of (fe_ix ix_g (fb_var 0) (fb_of fe_int) (fun _ _=>rfl))) (fb_of (fe_ix ix_g (fb_var 1) (fb_of fe_int) (fun _ _=>rfl))))) (fb_of (fe_bin op_gMul (fb_of (fe_ix ix_g (fb_var 1) (fb_of fe_int) (fun _ _=>rfl))) (fb_of (fe_ix ix_g (fb_var 0) (fb_of fe_int) (fun _ _=>rfl))))) (nomark _))))
theorem ok__law_right {P:Program}{w:World}{K:PySem.W.Frag}{mg:Str->Option Value}{base:Heap}{f:Addr}{fd:FuncData}(B:Bt mg)(Fu:Fun K "_law_right" "_law_right" st_law_right f fd)(G_law_list:FF P w K mg base 3 "_law_list" ["_law_found", "_law_many"] F__law_list)(G_law_dot:FF P w K mg base 1 "_law_dot" ["_law_some", "_law_more"] F__law_dot)(G_law_most:FF P w K mg base 1 "_law_most" ["_law_one", "_law_other"] F__law_most):
  FnOk P w K mg base (CX1 P w) 4 f fd ["_law_found", "_law_rows", "_law_bounds", "_law_wish"] (spF ⟨K,mg⟩ F__law_right):=
 fun_okF Fu sc_law_right fun cdv A outer s H E hr=>by
 have hu:=hr.units
 unfold g__law_right c__law_right
 exact (fss_cons (fs_if (ft_w (fw_or (ft_not (ft_val (fe_isi (x:="") (fb_var 0) rfl B.isinstance bt_isinstance rfl B.tuple bt_tuple))) (fw_or (ft_cmp (op_gNe hu) (fb_of (fe_callB call_gLen rfl B.len bt_len (fab_cons (fb_var 0) fab_nil))) (fb_of fe_int) (nomark _)) (fw_or1 (ft_not (ft_val (fe_fn G_law_list hr cx_pass (fae_cons (fe_ix ix_g (fb_var 0) (fb_of fe_int) (fun _ _=>rfl)) (fae_cons (fe_callB call_gLen rfl B.len bt_len (fab_cons (fb_var 3) fab_nil)) fae_nil)))))))))
  (fss_one (fs_ret fe_bl))
  fss_nil)
  (fss_cons (fs_for (k:=1000) PassesOwn.leaving rfl (fi_zip rfl B.zip (fae_cons (fe_var 1) (fae_cons (fe_var 2) fae_nil))) (fg_tup rfl (fgs_cons (fg_name (i:=4) sc_law_right.nd rfl (Or.inl rfl)) (fgs_cons (fg_name (i:=5) sc_law_right.nd rfl (Or.inl rfl)) fgs_nil)))
  (fss_one (fs_if (ft_not (ft_val (fe_fn G_law_most hr cx_pass (fae_cons (fe_fn G_law_dot hr cx_pass (fae_cons (fe_var 4) (fae_cons (fe_ix ix_g (fb_var 0) (fb_of fe_int) (fun _ _=>rfl)) fae_nil))) (fae_cons (fe_var 5) fae_nil)))))
  (fss_one (fs_ret fe_bl))
  fss_nil)))
  (fss_cons (fs_if (ft_cmp (op_gEq hu) (fb_of (fe_ix ix_g (fb_var 0) (fb_of fe_int) (fun _ _=>rfl))) (fb_of fe_str) (nomark _))
  (fss_cons (fs_if (ft_not (ft_val (fe_fn G_law_list hr cx_pass (fae_cons (fe_ix ix_g (fb_var 0) (fb_of fe_int) (fun _ _=>rfl)) (fae_cons (fe_callB call_gLen rfl B.len bt_len (fab_cons (fb_var 3) fab_nil)) fae_nil)))))
  (fss_one (fs_ret fe_bl))
  fss_nil)
  (fss_cons (fs_for (k:=1000) PassesOwn.leaving rfl (fi_list (fe_var 1)) (fg_name (i:=4) sc_law_right.nd rfl (Or.inl rfl))
  (fss_one (fs_if (ft_cmp op_gGt (fb_of (fe_ix ix_g (fb_of (fe_fn G_law_dot hr cx_pass (fae_cons (fe_var 4) (fae_cons (fe_ix ix_g (fb_var 0) (fb_of fe_int) (fun _ _=>rfl)) fae_nil)))) (fb_of fe_int) (fun _ _=>rfl))) (fb_of fe_int) (nomark _))
  (fss_one (fs_ret fe_bl))
  fss_nil)))
  (fss_one (fs_ret (fe_cmp op_gGt (fb_of (fe_ix ix_g (fb_of (fe_fn G_law_dot hr cx_pass (fae_cons (fe_var 3) (fae_cons (fe_ix ix_g (fb_var 0) (fb_of fe_int) (fun _ _=>rfl)) fae_nil)))) (fb_of fe_int) (fun _ _=>rfl))) (fb_of fe_int) (nomark _))))))
  fss_nil)
  (fss_cons (fs_if (ft_w (fw_or (ft_cmp (op_gNe hu) (fb_of (fe_ix ix_g (fb_var 0) (fb_of fe_int) (fun _ _=>rfl))) (fb_of fe_str) (nomark _)) (fw_or1 (ft_not (ft_val (fe_fn G_law_list hr cx_pass (fae_cons (fe_ix ix_g (fb_var 0) (fb_of fe_int) (fun _ _=>rfl)) (fae_cons (fe_callB call_gLen rfl B.len bt_len (fab_cons (fb_var 1) fab_nil)) fae_nil))))))))
  (fss_one (fs_ret fe_bl))
  fss_nil)
  (fss_cons (fs_for (k:=1000) PassesOwn.leaving rfl (fi_enum rfl B.enumerate (fae_cons (fe_var 3) fae_nil)) (fg_tup rfl (fgs_cons (fg_name (i:=6) sc_law_right.nd rfl (Or.inr rfl)) (fgs_cons (fg_name (i:=7) sc_law_right.nd rfl (Or.inl rfl)) fgs_nil)))
  (fss_one (fs_if (ft_not (ft_val (fe_fn G_law_most hr cx_pass (fae_cons (fe_var 7) (fae_cons (fe_fn G_law_dot hr cx_pass (fae_cons (fe_new (fn_comp (defScope st_law_right) ["_law_row", "_law_k"] ["_law_k"] 1 [6] rfl ⟨rfl,by decide +kernel,by decide +kernel,by decide +kernel,by decide +kernel⟩ (.cons rfl .nil) (fiw_list (fb_var 1)) (fun _ _ _ _ _ _=>(fg_name (i:=0) (show List.Nodup (["_law_row", "_law_k"]:List Str) by decide) rfl (Or.inl rfl))) (fun _ _ _ _ _ _=>fifs_nil) (fun _ _ _ _ _ _=>(fe_ix ix_g (fb_var 0) (fb_var 1) (fun _ _=>rfl))))) (fae_cons (fe_ix ix_g (fb_var 0) (fb_of fe_int) (fun _ _=>rfl)) fae_nil))) fae_nil)))))
  (fss_one (fs_ret fe_bl))
  fss_nil)))
  (fss_cons (fs_set (i:=8) sc_law_right.nd rfl (Or.inl rfl) (fe_fn G_law_dot hr cx_pass (fae_cons (fe_var 3) (fae_cons (fe_ix ix_g (fb_var 0) (fb_of fe_int) (fun _ _=>rfl)) fae_nil))))
  (fss_cons (fs_set (i:=9) sc_law_right.nd rfl (Or.inl rfl) (fe_fn G_law_dot hr cx_pass (fae_cons (fe_var 2) (fae_cons (fe_ix ix_g (fb_var 0) (fb_of fe_int) (fun _ _=>rfl)) fae_nil))))
  (fss_one (fs_ret (fe_cmp (op_gEq hu) (fb_of (fe_bin op_gMul (fb_of (fe_ix ix_g (fb_var 8) (fb_of fe_int) (fun _ _=>rfl))) (fb_of (fe_ix ix_g (fb_var 9) (fb_of fe_int) (fun _ _=>rfl))))) (fb_of (fe_bin op_gMul (fb_of (fe_ix ix_g (fb_var 9) (fb_of fe_int) (fun _ _=>rfl))) (fb_of (fe_ix ix_g (fb_var 8) (fb_of fe_int) (fun _ _=>rfl))))) (nomark _)))))))))))
theorem ok__law_round_right {P:Program}{w:World}{K:PySem.W.Frag}{mg:Str->Option Value}{base:Heap}{f:Addr}{fd:FuncData}(B:Bt mg)(Fu:Fun K "_law_round_right" "_law_round_right" st_law_round_right f fd)(Gsolve:FF P w K mg base 5 "solve" ["rows", "bounds", "wish"] F_solve)(G_law_right:FF P w K mg base 4 "_law_right" ["_law_found", "_law_rows", "_law_bounds", "_law_wish"] F__law_right):
  FnOk P w K mg base (CX1 P w) 6 f fd ["_law_cell"] (spF ⟨K,mg⟩ F__law_round_right):=
 fun_okF Fu sc_law_round_right fun cdv A outer s H E hr=>by
 have hu:=hr.units
 unfold g__law_round_right c__law_round_right
 refine Wr.out ?_
 exact (w_cons (w_set (i:=1) sc_law_round_right.nd rfl (Or.inl rfl) (w_new (w_lst (w_aec (w_tup (w_aec (Wr.mk fe_int) (w_aec (Wr.mk fe_int) (Wr.mk fae_nil)))) (w_aec (w_tup (w_aec (Wr.mk (fe_un un_gNeg (fb_of fe_int))) (w_aec (Wr.mk fe_int) (Wr.mk fae_nil)))) (w_aec (w_tup (w_aec (Wr.mk (fe_un un_gNeg (fb_of fe_int))) (w_aec (Wr.mk fe_int) (Wr.mk fae_nil)))) (w_aec (w_tup (w_aec (Wr.mk (fe_un un_gNeg (fb_of fe_int))) (w_aec (Wr.mk fe_int) (Wr.mk fae_nil)))) (Wr.mk fae_nil)))))))) (w_cons (w_set (i:=2) sc_law_round_right.nd rfl (Or.inl rfl) (w_new (w_lst (w_aec (w_new (w_lst (w_aec (w_tup (w_aec (Wr.mk fe_int) (w_aec (Wr.mk fe_int) (Wr.mk fae_nil)))) (w_aec (w_tup (w_aec (Wr.mk (fe_un un_gNeg (fb_of fe_int))) (w_aec (Wr.mk fe_int) (Wr.mk fae_nil)))) (w_aec (w_tup (w_aec (Wr.mk (fe_un un_gNeg (fb_of fe_int))) (w_aec (Wr.mk fe_int) (Wr.mk fae_nil)))) (w_aec (w_tup (w_aec (Wr.mk fe_int) (w_aec (Wr.mk fe_int) (Wr.mk fae_nil)))) (Wr.mk fae_nil))))))) (w_aec (w_new (w_lst (w_aec (w_tup (w_aec (Wr.mk fe_int) (w_aec (Wr.mk fe_int) (Wr.mk fae_nil)))) (w_aec (w_tup (w_aec (Wr.mk (fe_un un_gNeg (fb_of fe_int))) (w_aec (Wr.mk fe_int) (Wr.mk fae_nil)))) (w_aec (w_tup (w_aec (Wr.mk (fe_un un_gNeg (fb_of fe_int))) (w_aec (Wr.mk fe_int) (Wr.mk fae_nil)))) (w_aec (w_tup (w_aec (Wr.mk fe_int) (w_aec (Wr.mk fe_int) (Wr.mk fae_nil)))) (Wr.mk fae_nil))))))) (w_aec (w_new (w_lst (w_aec (w_tup (w_aec (Wr.mk fe_int) (w_aec (Wr.mk fe_int) (Wr.mk fae_nil)))) (w_aec (w_tup (w_aec (Wr.mk fe_int) (w_aec (Wr.mk fe_int) (Wr.mk fae_nil)))) (w_aec (w_tup (w_aec (Wr.mk fe_int) (w_aec (Wr.mk fe_int) (Wr.mk fae_nil)))) (w_aec (w_tup (w_aec (Wr.mk fe_int) (w_aec (Wr.mk fe_int) (Wr.mk fae_nil)))) (Wr.mk fae_nil))))))) (Wr.mk fae_nil))))))) (w_cons (w_set (i:=3) sc_law_round_right.nd rfl (Or.inl rfl) (w_new (w_lst (w_aec (w_tup (w_aec (Wr.mk fe_int) (w_aec (Wr.mk fe_int) (Wr.mk fae_nil)))) (w_aec (w_tup (w_aec (Wr.mk fe_int) (w_aec (Wr.mk fe_int) (Wr.mk fae_nil)))) (w_aec (w_tup (w_aec (Wr.mk fe_int) (w_aec (Wr.mk fe_int) (Wr.mk fae_nil)))) (Wr.mk fae_nil))))))) (w_cons (Wr.mk (fs_for (k:=1000) PassesOwn.leaving rfl (fi_tup (fe_tup (fae_cons fe_int (fae_cons (fe_bin op_gMod (fb_var 0) (fb_of fe_int)) fae_nil)))) (fg_name (i:=4) sc_law_round_right.nd rfl (Or.inl rfl)) (fss_cons (fs_set (i:=5) sc_law_round_right.nd rfl (Or.inr rfl) (fe_bin op_gMod (fb_var 4) (fb_of fe_int))) (fss_cons (fs_set (i:=6) sc_law_round_right.nd rfl (Or.inl rfl) (fe_bin op_gDiv (fb_var 4) (fb_of fe_int))) (fss_cons (fs_setComp (i:=7) (defScope st_law_round_right) ["_law_row", "_law_left" ] ["_law_left"] 1 [5] sc_law_round_right.nd rfl (Or.inl rfl) rfl ⟨rfl,by decide +kernel,by decide +kernel,by decide +kernel,by decide +kernel⟩ (.cons rfl .nil) (fiw_list (fb_of (fe_bin op_gAdd (fb_of (fe_slice (fb_var 2) (fo_some (fb_var 6)) fo_none)) (fb_of (fe_slice (fb_var 2) fo_none (fo_some (fb_var 6))))))) (fun _ _ _ _ _ _=>(fg_name (i:=0) (show List.Nodup (["_law_row", "_law_left" ]:List Str) by decide) rfl (Or.inl rfl))) (fun _ _ _ _ _ _=>fifs_nil) (fun _ _ _ _ _ _=>(fe_bin op_gAdd (fb_of (fe_slice (fb_var 0) (fo_some (fb_var 1)) fo_none)) (fb_of (fe_slice (fb_var 0) fo_none (fo_some (fb_var 1))))))) (fss_cons (fs_set (i:=8) sc_law_round_right.nd rfl (Or.inl rfl) (fe_bin op_gAdd (fb_of (fe_slice (fb_var 3) (fo_some (fb_var 6)) fo_none)) (fb_of (fe_slice (fb_var 3) fo_none (fo_some (fb_var 6)))))) (fss_cons (fs_set (i:=9) sc_law_round_right.nd rfl (Or.inl rfl) (fe_bin op_gAdd (fb_of (fe_slice (fb_var 1) (fo_some (fb_var 5)) fo_none)) (fb_of (fe_slice (fb_var 1) fo_none (fo_some (fb_var 5)))))) (fss_one (fs_if (ft_not (ft_val (fe_fn G_law_right hr cx_pass (fae_cons (fe_fn Gsolve hr cx_pass (fae_cons (fe_new (fn_comp (defScope st_law_round_right) ["_law_row"] [] 1 [] rfl ⟨rfl,by decide +kernel,by decide +kernel,by decide +kernel,by decide +kernel⟩ .nil (fiw_list (fb_var 7)) (fun _ _ _ _ _ _=>(fg_name (i:=0) (show List.Nodup (["_law_row"]:List Str) by decide) rfl (Or.inl rfl))) (fun _ _ _ _ _ _=>fifs_nil) (fun _ _ _ _ _ _=>(fe_new (fn_callTy call_gList rfl B.list bt_list (fab_cons (fb_var 0) fab_nil)))))) (fae_cons (fe_new (fn_callTy call_gList rfl B.list bt_list (fab_cons (fb_var 8) fab_nil))) (fae_cons (fe_new (fn_callTy call_gList rfl B.list bt_list (fab_cons (fb_var 9) fab_nil))) fae_nil)))) (fae_cons (fe_var 7) (fae_cons (fe_var 8) (fae_cons (fe_var 9) fae_nil))))))) (fss_one (fs_ret fe_bl)) fss_nil))))))))) (w_one (w_ret (Wr.mk fe_bl)))))))
theorem ok_law {P:Program}{w:World}{K:PySem.W.Frag}{mg:Str->Option Value}{base:Heap}{f:Addr}{fd:FuncData}(B:Bt mg)(Fu:Fun K "law" "law" stlaw f fd)(Gsolve:FF P w K mg base 5 "solve" ["rows", "bounds", "wish"] F_solve)(G_law_cell_at:FF P w K mg base 1 "_law_cell_at" ["_law_script", "_law_k"] F__law_cell_at)(G_law_number:FF P w K mg base 3 "_law_number" ["_law_cell", "_law_sort"] F__law_number)(G_law_bound:FF P w K mg base 4 "_law_bound" ["_law_cell", "_law_sort", "_law_zeros"] F__law_bound)(G_law_right:FF P w K mg base 4 "_law_right" ["_law_found", "_law_rows", "_law_bounds", "_law_wish"] F__law_right)(G_law_round_right:FF P w K mg base 6 "_law_round_right" ["_law_cell"] F__law_round_right):
  FnOk P w K mg base (CX1 P w) 7 f fd ["_law_script"] (spF ⟨K,mg⟩ F_law):=
 fun_okF Fu sclaw fun cdv A outer s H E hr=>by
 have hu:=hr.units
 unfold g_law c_law
 exact (fss_cons (fs_set (i:=1) sclaw.nd rfl (Or.inl rfl) (fe_fn G_law_cell_at hr cx_pass (fae_cons (fe_var 0) (fae_cons fe_int fae_nil))))
  (fss_cons (fs_if (ft_not (ft_val (fe_fn G_law_round_right hr cx_pass (fae_cons (fe_var 1) fae_nil))))
  (fss_one (fs_ret fe_bl))
  fss_nil)
  (fss_cons (fs_set (i:=2) sclaw.nd rfl (Or.inl rfl) (fe_bin op_gMod (fb_var 1) (fb_of fe_int)))
  (fss_cons (fs_set (i:=3) sclaw.nd rfl (Or.inl rfl) (fe_bin op_gAdd (fb_of fe_int) (fb_of (fe_bin op_gMod (fb_of (fe_bin op_gDiv (fb_var 1) (fb_of fe_int))) (fb_of fe_int)))))
  (fss_cons (fs_set (i:=4) sclaw.nd rfl (Or.inr rfl) (fe_bin op_gMod (fb_of (fe_bin op_gDiv (fb_var 1) (fb_of fe_int))) (fb_of fe_int)))
  (fss_cons (fs_set (i:=5) sclaw.nd rfl (Or.inr rfl) (fe_bin op_gMod (fb_of (fe_bin op_gDiv (fb_var 1) (fb_of fe_int))) (fb_of fe_int)))
  (fss_cons (fs_set (i:=6) sclaw.nd rfl (Or.inr rfl) fe_int)
  (fss_cons (fs_setComp (i:=7) (defScope stlaw) ["_law_k", "_law_sort", "_law_script", "_law_at"] ["_law_sort", "_law_script", "_law_at"] 1 [4,0,6] sclaw.nd rfl (Or.inl rfl) rfl ⟨rfl,by decide +kernel,by decide +kernel,by decide +kernel,by decide +kernel⟩ (.cons rfl (.cons rfl (.cons rfl .nil))) (fiw_of (fi_range1 rfl B.range (fab_cons (fb_var 3) fab_nil))) (fun _ _ _ _ _ _=>(fg_name (i:=0) (show List.Nodup (["_law_k", "_law_sort", "_law_script", "_law_at"]:List Str) by decide) rfl (Or.inl rfl))) (fun _ _ _ _ _ _=>fifs_nil) (fun _ _ _ _ _ _=>(fe_fn G_law_number hr pass1 (fae_cons (fe_fn G_law_cell_at hr pass1 (fae_cons (fe_var 2) (fae_cons (fe_bin op_gAdd (fb_var 3) (fb_var 0)) fae_nil))) (fae_cons (fe_var 1) fae_nil)))))
  (fss_cons (fs_set (i:=6) sclaw.nd rfl (Or.inr rfl) (fe_bin op_gAdd (fb_var 6) (fb_var 3)))
  (fss_cons (fs_setComp (i:=8) (defScope stlaw) ["_law_k", "_law_sort", "_law_zeros", "_law_script", "_law_at"] ["_law_sort", "_law_zeros", "_law_script", "_law_at"] 1 [4,5,0,6] sclaw.nd rfl (Or.inl rfl) rfl ⟨rfl,by decide +kernel,by decide +kernel,by decide +kernel,by decide +kernel⟩ (.cons rfl (.cons rfl (.cons rfl (.cons rfl .nil)))) (fiw_of (fi_range1 rfl B.range (fab_cons (fb_var 2) fab_nil))) (fun _ _ _ _ _ _=>(fg_name (i:=0) (show List.Nodup (["_law_k", "_law_sort", "_law_zeros", "_law_script", "_law_at"]:List Str) by decide) rfl (Or.inl rfl))) (fun _ _ _ _ _ _=>fifs_nil) (fun _ _ _ _ _ _=>(fe_fn G_law_bound hr pass1 (fae_cons (fe_fn G_law_cell_at hr pass1 (fae_cons (fe_var 3) (fae_cons (fe_bin op_gAdd (fb_var 4) (fb_var 0)) fae_nil))) (fae_cons (fe_var 1) (fae_cons (fe_var 2) fae_nil))))))
  (fss_cons (fs_set (i:=6) sclaw.nd rfl (Or.inr rfl) (fe_bin op_gAdd (fb_var 6) (fb_var 2)))
  (fss_cons (fs_own (i:=9) sclaw.nd rfl (Or.inl rfl) (fn_lst fae_nil))
  (fss_cons (fs_for (k:=1000) PassesOwn.leaving rfl (fi_range1 rfl B.range (fab_cons (fb_var 2) fab_nil)) (fg_name (i:=10) sclaw.nd rfl (Or.inl rfl))
  (fss_cons (fs_append 9 (fe_new (fn_comp (defScope stlaw) ["_law_k", "_law_sort", "_law_script", "_law_at"] ["_law_sort", "_law_script", "_law_at"] 1 [4,0,6] rfl ⟨rfl,by decide +kernel,by decide +kernel,by decide +kernel,by decide +kernel⟩ (.cons rfl (.cons rfl (.cons rfl .nil))) (fiw_of (fi_range1 rfl B.range (fab_cons (fb_var 3) fab_nil))) (fun _ _ _ _ _ _=>(fg_name (i:=0) (show List.Nodup (["_law_k", "_law_sort", "_law_script", "_law_at"]:List Str) by decide) rfl (Or.inl rfl))) (fun _ _ _ _ _ _=>fifs_nil) (fun _ _ _ _ _ _=>(fe_fn G_law_number hr pass1 (fae_cons (fe_fn G_law_cell_at hr pass1 (fae_cons (fe_var 2) (fae_cons (fe_bin op_gAdd (fb_var 3) (fb_var 0)) fae_nil))) (fae_cons (fe_var 1) fae_nil)))))))
  (fss_one (fs_set (i:=6) sclaw.nd rfl (Or.inr rfl) (fe_bin op_gAdd (fb_var 6) (fb_var 3))))))
  (fss_let 9 (fss_cons (fs_set (i:=11) sclaw.nd rfl (Or.inl rfl) (fe_tup (fae_cons (fe_new (fn_comp (defScope stlaw) ["_law_row"] [] 1 [] rfl ⟨rfl,by decide +kernel,by decide +kernel,by decide +kernel,by decide +kernel⟩ .nil (fiw_list (fb_var 9)) (fun _ _ _ _ _ _=>(fg_name (i:=0) (show List.Nodup (["_law_row"]:List Str) by decide) rfl (Or.inl rfl))) (fun _ _ _ _ _ _=>fifs_nil) (fun _ _ _ _ _ _=>(fe_new (fn_callTy call_gList rfl B.list bt_list (fab_cons (fb_var 0) fab_nil)))))) (fae_cons (fe_new (fn_callTy call_gList rfl B.list bt_list (fab_cons (fb_var 8) fab_nil))) (fae_cons (fe_new (fn_callTy call_gList rfl B.list bt_list (fab_cons (fb_var 7) fab_nil))) fae_nil)))))
  (fss_newT 12 14 Gsolve hr cx_pass sclaw.nd rfl (Or.inl rfl) (fae_cons (fe_ix ix_g (fb_var 11) (fb_of fe_int) (fun _ _=>rfl)) (fae_cons (fe_ix ix_g (fb_var 11) (fb_of fe_int) (fun _ _=>rfl)) (fae_cons (fe_ix ix_g (fb_var 11) (fb_of fe_int) (fun _ _=>rfl)) fae_nil)))
  (fss_cons (fs_if (ft_w (fw_or (ft_cmp (op_gNe hu) (fb_var 11) (fb_of (fe_tup (fae_cons (fe_var 9) (fae_cons (fe_var 8) (fae_cons (fe_var 7) fae_nil))))) (nomark _)) (fw_or1 (ft_not (ft_val (fe_fnV G_law_right hr cx_pass (fav_cons (fv_viewT 12 [14,15]) (fav_cons (fv_of (fb_var 9)) (fav_cons (fv_of (fb_var 8)) (fav_cons (fv_of (fb_var 7)) fav_nil))))))))))
  (fss_one (fs_ret fe_bl))
  fss_nil)
  (fss_cons (fs_set (i:=13) sclaw.nd rfl (Or.inl rfl) (fe_tup (fae_cons (fe_ix ix_g (fb_var 12) (fb_of fe_int) (fun _ _=>rfl)) (fae_cons (fe_new (fn_callTy call_gList rfl B.list bt_list (fab_cons (fb_adr 14 (fe_ix ix_g (fb_var 12) (fb_of fe_int) (fun _ _=>rfl))) fab_nil))) (fae_cons (fe_new (fn_callTy call_gList rfl B.list bt_list (fab_cons (fb_adr 15 (fe_ix ix_g (fb_var 12) (fb_of fe_int) (fun _ _=>rfl))) fab_nil))) fae_nil)))))
  (fss_cons (fs_adrClear 14 (fe_ix ix_g (fb_var 12) (fb_of fe_int) (fun _ _=>rfl)))
  (fss_cons (fs_adrApp 15 (fe_ix ix_g (fb_var 12) (fb_of fe_int) (fun _ _=>rfl)) (fe_tup (fae_cons fe_int (fae_cons fe_int fae_nil))))
  (fss_one (fs_ret (fe_cmp (op_gEq hu) (fb_of (fe_fn Gsolve hr cx_pass (fae_cons (fe_var 9) (fae_cons (fe_var 8) (fae_cons (fe_var 7) fae_nil))))) (fb_var 13) (nomark _))))))))))))))))))))))))
open PySem L2 Hd F
theorem df_mk {K:PySem.W.Frag}{mg:Str->Option Value}{x:Str}{st:Stmt}{ps:List Str}{f:Addr}{oc:Value}{od an:Option Addr}{osl:Array (Option Value)}{kV doc pm cdv ct:Value}(l:K.lookup f=some ⟨oc,od,.func (PySem.W.fnOf x x (defArgs st) (defBody st) (defScope st) .none kV doc pm an cdv ct),osl⟩)
  (c:PySem.W.codeIn K cdv x=true) (k:PySem.W.keepIn K (.ref f)=true) (m:mg x=some (.ref f)) (hb:∀(kV doc pm:Value) (an:Option Addr) (cdv ct:Value) (us:List Value),us.length=ps.length->bindArgs (PySem.W.fnOf x x (defArgs st) (defBody st) (defScope st) .none kV doc pm an cdv ct) ⟨us,[]⟩=pure (ps.zip us)):Df K mg x st ps:=
 let F:=fun_mk (st:=st) l c k
 ⟨f,_,F,F.binds hb,m⟩
theorem all_mk {l:PySem.W.OpenLaw}{w:World}{K:PySem.W.Frag}{h:Heap}{mg:Str->Option Value}{fa f0 f1 f2 f3 f4 f5 f6 f7 f8 f9 f10 f11 f12 f13 f14 f15 f16 f17:Addr}(X:K.In h)(G:h.Ns mainGlobals mg)(hfa:mg "law" = some (.ref fa))
  {od0 an0:Option Addr} {sl0:Array (Option Value)} {oc0 kV0 dc0 pm0 cd0 ct0:Value}
  (a0:PySem.W.nsIn K mainGlobals "common_divisor" = some (some (.ref f0))) (l0:K.lookup f0=some ⟨oc0,od0,.func (PySem.W.fnOf "common_divisor" "common_divisor" (defArgs stcommon_divisor) (defBody stcommon_divisor) (defScope stcommon_divisor) .none kV0 dc0 pm0 an0 cd0 ct0),sl0⟩) (c0:PySem.W.codeIn K cd0 "common_divisor" = true) (k0:PySem.W.keepIn K (.ref f0)=true)
  {od1 an1:Option Addr} {sl1:Array (Option Value)} {oc1 kV1 dc1 pm1 cd1 ct1:Value}
  (a1:PySem.W.nsIn K mainGlobals "lowest" = some (some (.ref f1))) (l1:K.lookup f1=some ⟨oc1,od1,.func (PySem.W.fnOf "lowest" "lowest" (defArgs stlowest) (defBody stlowest) (defScope stlowest) .none kV1 dc1 pm1 an1 cd1 ct1),sl1⟩) (c1:PySem.W.codeIn K cd1 "lowest" = true) (k1:PySem.W.keepIn K (.ref f1)=true)
  {od2 an2:Option Addr} {sl2:Array (Option Value)} {oc2 kV2 dc2 pm2 cd2 ct2:Value}
  (a2:PySem.W.nsIn K mainGlobals "scale_of" = some (some (.ref f2))) (l2:K.lookup f2=some ⟨oc2,od2,.func (PySem.W.fnOf "scale_of" "scale_of" (defArgs stscale_of) (defBody stscale_of) (defScope stscale_of) .none kV2 dc2 pm2 an2 cd2 ct2),sl2⟩) (c2:PySem.W.codeIn K cd2 "scale_of" = true) (k2:PySem.W.keepIn K (.ref f2)=true)
  {od3 an3:Option Addr} {sl3:Array (Option Value)} {oc3 kV3 dc3 pm3 cd3 ct3:Value}
  (a3:PySem.W.nsIn K mainGlobals "made_whole" = some (some (.ref f3))) (l3:K.lookup f3=some ⟨oc3,od3,.func (PySem.W.fnOf "made_whole" "made_whole" (defArgs stmade_whole) (defBody stmade_whole) (defScope stmade_whole) .none kV3 dc3 pm3 an3 cd3 ct3),sl3⟩) (c3:PySem.W.codeIn K cd3 "made_whole" = true) (k3:PySem.W.keepIn K (.ref f3)=true)
  {od4 an4:Option Addr} {sl4:Array (Option Value)} {oc4 kV4 dc4 pm4 cd4 ct4:Value}
  (a4:PySem.W.nsIn K mainGlobals "refuse_great_seeking" = some (some (.ref f4))) (l4:K.lookup f4=some ⟨oc4,od4,.func (PySem.W.fnOf "refuse_great_seeking" "refuse_great_seeking" (defArgs strefuse_great_seeking) (defBody strefuse_great_seeking) (defScope strefuse_great_seeking) .none kV4 dc4 pm4 an4 cd4 ct4),sl4⟩) (c4:PySem.W.codeIn K cd4 "refuse_great_seeking" = true) (k4:PySem.W.keepIn K (.ref f4)=true)
  {od5 an5:Option Addr} {sl5:Array (Option Value)} {oc5 kV5 dc5 pm5 cd5 ct5:Value}
  (a5:PySem.W.nsIn K mainGlobals "solve" = some (some (.ref f5))) (l5:K.lookup f5=some ⟨oc5,od5,.func (PySem.W.fnOf "solve" "solve" (defArgs stsolve) (defBody stsolve) (defScope stsolve) .none kV5 dc5 pm5 an5 cd5 ct5),sl5⟩) (c5:PySem.W.codeIn K cd5 "solve" = true) (k5:PySem.W.keepIn K (.ref f5)=true)
  {od6 an6:Option Addr} {sl6:Array (Option Value)} {oc6 kV6 dc6 pm6 cd6 ct6:Value}
  (a6:PySem.W.nsIn K mainGlobals "_law_cell_at" = some (some (.ref f6))) (l6:K.lookup f6=some ⟨oc6,od6,.func (PySem.W.fnOf "_law_cell_at" "_law_cell_at" (defArgs st_law_cell_at) (defBody st_law_cell_at) (defScope st_law_cell_at) .none kV6 dc6 pm6 an6 cd6 ct6),sl6⟩) (c6:PySem.W.codeIn K cd6 "_law_cell_at" = true) (k6:PySem.W.keepIn K (.ref f6)=true)
  {od7 an7:Option Addr} {sl7:Array (Option Value)} {oc7 kV7 dc7 pm7 cd7 ct7:Value}
  (a7:PySem.W.nsIn K mainGlobals "_law_divisor" = some (some (.ref f7))) (l7:K.lookup f7=some ⟨oc7,od7,.func (PySem.W.fnOf "_law_divisor" "_law_divisor" (defArgs st_law_divisor) (defBody st_law_divisor) (defScope st_law_divisor) .none kV7 dc7 pm7 an7 cd7 ct7),sl7⟩) (c7:PySem.W.codeIn K cd7 "_law_divisor" = true) (k7:PySem.W.keepIn K (.ref f7)=true)
  {od8 an8:Option Addr} {sl8:Array (Option Value)} {oc8 kV8 dc8 pm8 cd8 ct8:Value}
  (a8:PySem.W.nsIn K mainGlobals "_law_lowest" = some (some (.ref f8))) (l8:K.lookup f8=some ⟨oc8,od8,.func (PySem.W.fnOf "_law_lowest" "_law_lowest" (defArgs st_law_lowest) (defBody st_law_lowest) (defScope st_law_lowest) .none kV8 dc8 pm8 an8 cd8 ct8),sl8⟩) (c8:PySem.W.codeIn K cd8 "_law_lowest" = true) (k8:PySem.W.keepIn K (.ref f8)=true)
  {od9 an9:Option Addr} {sl9:Array (Option Value)} {oc9 kV9 dc9 pm9 cd9 ct9:Value}
  (a9:PySem.W.nsIn K mainGlobals "_law_number" = some (some (.ref f9))) (l9:K.lookup f9=some ⟨oc9,od9,.func (PySem.W.fnOf "_law_number" "_law_number" (defArgs st_law_number) (defBody st_law_number) (defScope st_law_number) .none kV9 dc9 pm9 an9 cd9 ct9),sl9⟩) (c9:PySem.W.codeIn K cd9 "_law_number" = true) (k9:PySem.W.keepIn K (.ref f9)=true)
  {od10 an10:Option Addr} {sl10:Array (Option Value)} {oc10 kV10 dc10 pm10 cd10 ct10:Value}
  (a10:PySem.W.nsIn K mainGlobals "_law_bound" = some (some (.ref f10))) (l10:K.lookup f10=some ⟨oc10,od10,.func (PySem.W.fnOf "_law_bound" "_law_bound" (defArgs st_law_bound) (defBody st_law_bound) (defScope st_law_bound) .none kV10 dc10 pm10 an10 cd10 ct10),sl10⟩) (c10:PySem.W.codeIn K cd10 "_law_bound" = true) (k10:PySem.W.keepIn K (.ref f10)=true)
  {od11 an11:Option Addr} {sl11:Array (Option Value)} {oc11 kV11 dc11 pm11 cd11 ct11:Value}
  (a11:PySem.W.nsIn K mainGlobals "_law_fraction" = some (some (.ref f11))) (l11:K.lookup f11=some ⟨oc11,od11,.func (PySem.W.fnOf "_law_fraction" "_law_fraction" (defArgs st_law_fraction) (defBody st_law_fraction) (defScope st_law_fraction) .none kV11 dc11 pm11 an11 cd11 ct11),sl11⟩) (c11:PySem.W.codeIn K cd11 "_law_fraction" = true) (k11:PySem.W.keepIn K (.ref f11)=true)
  {od12 an12:Option Addr} {sl12:Array (Option Value)} {oc12 kV12 dc12 pm12 cd12 ct12:Value}
  (a12:PySem.W.nsIn K mainGlobals "_law_list" = some (some (.ref f12))) (l12:K.lookup f12=some ⟨oc12,od12,.func (PySem.W.fnOf "_law_list" "_law_list" (defArgs st_law_list) (defBody st_law_list) (defScope st_law_list) .none kV12 dc12 pm12 an12 cd12 ct12),sl12⟩) (c12:PySem.W.codeIn K cd12 "_law_list" = true) (k12:PySem.W.keepIn K (.ref f12)=true)
  {od13 an13:Option Addr} {sl13:Array (Option Value)} {oc13 kV13 dc13 pm13 cd13 ct13:Value}
  (a13:PySem.W.nsIn K mainGlobals "_law_dot" = some (some (.ref f13))) (l13:K.lookup f13=some ⟨oc13,od13,.func (PySem.W.fnOf "_law_dot" "_law_dot" (defArgs st_law_dot) (defBody st_law_dot) (defScope st_law_dot) .none kV13 dc13 pm13 an13 cd13 ct13),sl13⟩) (c13:PySem.W.codeIn K cd13 "_law_dot" = true) (k13:PySem.W.keepIn K (.ref f13)=true)
  {od14 an14:Option Addr} {sl14:Array (Option Value)} {oc14 kV14 dc14 pm14 cd14 ct14:Value}
  (a14:PySem.W.nsIn K mainGlobals "_law_most" = some (some (.ref f14))) (l14:K.lookup f14=some ⟨oc14,od14,.func (PySem.W.fnOf "_law_most" "_law_most" (defArgs st_law_most) (defBody st_law_most) (defScope st_law_most) .none kV14 dc14 pm14 an14 cd14 ct14),sl14⟩) (c14:PySem.W.codeIn K cd14 "_law_most" = true) (k14:PySem.W.keepIn K (.ref f14)=true)
  {od15 an15:Option Addr} {sl15:Array (Option Value)} {oc15 kV15 dc15 pm15 cd15 ct15:Value}
  (a15:PySem.W.nsIn K mainGlobals "_law_right" = some (some (.ref f15))) (l15:K.lookup f15=some ⟨oc15,od15,.func (PySem.W.fnOf "_law_right" "_law_right" (defArgs st_law_right) (defBody st_law_right) (defScope st_law_right) .none kV15 dc15 pm15 an15 cd15 ct15),sl15⟩) (c15:PySem.W.codeIn K cd15 "_law_right" = true) (k15:PySem.W.keepIn K (.ref f15)=true)
  {od16 an16:Option Addr} {sl16:Array (Option Value)} {oc16 kV16 dc16 pm16 cd16 ct16:Value}
  (a16:PySem.W.nsIn K mainGlobals "_law_round_right" = some (some (.ref f16))) (l16:K.lookup f16=some ⟨oc16,od16,.func (PySem.W.fnOf "_law_round_right" "_law_round_right" (defArgs st_law_round_right) (defBody st_law_round_right) (defScope st_law_round_right) .none kV16 dc16 pm16 an16 cd16 ct16),sl16⟩) (c16:PySem.W.codeIn K cd16 "_law_round_right" = true) (k16:PySem.W.keepIn K (.ref f16)=true)
  {od17 an17:Option Addr} {sl17:Array (Option Value)} {oc17 kV17 dc17 pm17 cd17 ct17:Value}
  (a17:PySem.W.nsIn K mainGlobals "law" = some (some (.ref f17))) (l17:K.lookup f17=some ⟨oc17,od17,.func (PySem.W.fnOf "law" "law" (defArgs stlaw) (defBody stlaw) (defScope stlaw) .none kV17 dc17 pm17 an17 cd17 ct17),sl17⟩) (c17:PySem.W.codeIn K cd17 "law" = true) (k17:PySem.W.keepIn K (.ref f17)=true)
  {CCorner:Addr} (oCorner:PySem.W.nsIn K mainGlobals "Corner" = some (some (.ref CCorner)))
  (pgCorner:PySem.W.plainGet K CCorner Str.empty=true)
  (hdCorner:PySem.W.hasDictIn K CCorner=true)
  (poCorner:PySem.W.plainOver K CCorner=true)
  (saCorner:PySem.W.findIn K (.ref CCorner) "__setattr__" = some (some (.builtin "object.__setattr__")))
  (mkCorner:PySem.W.makesIn K CCorner=true)
  (kcCorner:PySem.W.keepIn K (.ref CCorner)=true)
  (nfCornerbottom:PySem.W.findIn K (.ref CCorner) "bottom" = some none)
  (nfCornerheld_columns:PySem.W.findIn K (.ref CCorner) "held_columns" = some none)
  (nfCornerlines:PySem.W.findIn K (.ref CCorner) "lines" = some none)
  (nfCornerscales:PySem.W.findIn K (.ref CCorner) "scales" = some none)
  (nfCornerwide:PySem.W.findIn K (.ref CCorner) "wide" = some none)
  (nfCornerwish_lines:PySem.W.findIn K (.ref CCorner) "wish_lines" = some none)
  (nfCornerwish_scales:PySem.W.findIn K (.ref CCorner) "wish_scales" = some none)
  {fm0:Addr} {odm0 anm0:Option Addr} {slm0:Array (Option Value)} {ocm0 kVm0 dcm0 pmm0 cdm0 ctm0:Value}
  (am0:PySem.W.findIn K (.ref CCorner) "__init__" = some (some (.ref fm0)))
  (im0:PySem.W.isFn K (.ref fm0)=true)
  (lm0:K.lookup fm0=some ⟨ocm0,odm0,.func (PySem.W.fnOf "__init__" "Corner.__init__" (defArgs stCorner___init__) (defBody stCorner___init__) (defScope stCorner___init__) .none kVm0 dcm0 pmm0 anm0 cdm0 ctm0),slm0⟩)
  (cm0:PySem.W.codeIn K cdm0 "Corner.__init__" = true)
  (km0:PySem.W.keepIn K (.ref fm0)=true)
  {fm1:Addr} {odm1 anm1:Option Addr} {slm1:Array (Option Value)} {ocm1 kVm1 dcm1 pmm1 cdm1 ctm1:Value}
  (am1:PySem.W.findIn K (.ref CCorner) "first_line" = some (some (.ref fm1)))
  (im1:PySem.W.isFn K (.ref fm1)=true)
  (lm1:K.lookup fm1=some ⟨ocm1,odm1,.func (PySem.W.fnOf "first_line" "Corner.first_line" (defArgs stCorner_first_line) (defBody stCorner_first_line) (defScope stCorner_first_line) .none kVm1 dcm1 pmm1 anm1 cdm1 ctm1),slm1⟩)
  (cm1:PySem.W.codeIn K cdm1 "Corner.first_line" = true)
  (km1:PySem.W.keepIn K (.ref fm1)=true)
  {fm2:Addr} {odm2 anm2:Option Addr} {slm2:Array (Option Value)} {ocm2 kVm2 dcm2 pmm2 cdm2 ctm2:Value}
  (am2:PySem.W.findIn K (.ref CCorner) "first_wish_line" = some (some (.ref fm2)))
  (im2:PySem.W.isFn K (.ref fm2)=true)
  (lm2:K.lookup fm2=some ⟨ocm2,odm2,.func (PySem.W.fnOf "first_wish_line" "Corner.first_wish_line" (defArgs stCorner_first_wish_line) (defBody stCorner_first_wish_line) (defScope stCorner_first_wish_line) .none kVm2 dcm2 pmm2 anm2 cdm2 ctm2),slm2⟩)
  (cm2:PySem.W.codeIn K cdm2 "Corner.first_wish_line" = true)
  (km2:PySem.W.keepIn K (.ref fm2)=true)
  {fm3:Addr} {odm3 anm3:Option Addr} {slm3:Array (Option Value)} {ocm3 kVm3 dcm3 pmm3 cdm3 ctm3:Value}
  (am3:PySem.W.findIn K (.ref CCorner) "helping_column" = some (some (.ref fm3)))
  (im3:PySem.W.isFn K (.ref fm3)=true)
  (lm3:K.lookup fm3=some ⟨ocm3,odm3,.func (PySem.W.fnOf "helping_column" "Corner.helping_column" (defArgs stCorner_helping_column) (defBody stCorner_helping_column) (defScope stCorner_helping_column) .none kVm3 dcm3 pmm3 anm3 cdm3 ctm3),slm3⟩)
  (cm3:PySem.W.codeIn K cdm3 "Corner.helping_column" = true)
  (km3:PySem.W.keepIn K (.ref fm3)=true)
  {fm4:Addr} {odm4 anm4:Option Addr} {slm4:Array (Option Value)} {ocm4 kVm4 dcm4 pmm4 cdm4 ctm4:Value}
  (am4:PySem.W.findIn K (.ref CCorner) "ending_line" = some (some (.ref fm4)))
  (im4:PySem.W.isFn K (.ref fm4)=true)
  (lm4:K.lookup fm4=some ⟨ocm4,odm4,.func (PySem.W.fnOf "ending_line" "Corner.ending_line" (defArgs stCorner_ending_line) (defBody stCorner_ending_line) (defScope stCorner_ending_line) .none kVm4 dcm4 pmm4 anm4 cdm4 ctm4),slm4⟩)
  (cm4:PySem.W.codeIn K cdm4 "Corner.ending_line" = true)
  (km4:PySem.W.keepIn K (.ref fm4)=true)
  {fm5:Addr} {odm5 anm5:Option Addr} {slm5:Array (Option Value)} {ocm5 kVm5 dcm5 pmm5 cdm5 ctm5:Value}
  (am5:PySem.W.findIn K (.ref CCorner) "ends_ahead" = some (some (.ref fm5)))
  (im5:PySem.W.isFn K (.ref fm5)=true)
  (lm5:K.lookup fm5=some ⟨ocm5,odm5,.func (PySem.W.fnOf "ends_ahead" "Corner.ends_ahead" (defArgs stCorner_ends_ahead) (defBody stCorner_ends_ahead) (defScope stCorner_ends_ahead) .none kVm5 dcm5 pmm5 anm5 cdm5 ctm5),slm5⟩)
  (cm5:PySem.W.codeIn K cdm5 "Corner.ends_ahead" = true)
  (km5:PySem.W.keepIn K (.ref fm5)=true)
  {fm6:Addr} {odm6 anm6:Option Addr} {slm6:Array (Option Value)} {ocm6 kVm6 dcm6 pmm6 cdm6 ctm6:Value}
  (am6:PySem.W.findIn K (.ref CCorner) "turn_about" = some (some (.ref fm6)))
  (im6:PySem.W.isFn K (.ref fm6)=true)
  (lm6:K.lookup fm6=some ⟨ocm6,odm6,.func (PySem.W.fnOf "turn_about" "Corner.turn_about" (defArgs stCorner_turn_about) (defBody stCorner_turn_about) (defScope stCorner_turn_about) .none kVm6 dcm6 pmm6 anm6 cdm6 ctm6),slm6⟩)
  (cm6:PySem.W.codeIn K cdm6 "Corner.turn_about" = true)
  (km6:PySem.W.keepIn K (.ref fm6)=true)
  {fm7:Addr} {odm7 anm7:Option Addr} {slm7:Array (Option Value)} {ocm7 kVm7 dcm7 pmm7 cdm7 ctm7:Value}
  (am7:PySem.W.findIn K (.ref CCorner) "cleared" = some (some (.ref fm7)))
  (im7:PySem.W.isFn K (.ref fm7)=true)
  (lm7:K.lookup fm7=some ⟨ocm7,odm7,.func (PySem.W.fnOf "cleared" "Corner.cleared" (defArgs stCorner_cleared) (defBody stCorner_cleared) (defScope stCorner_cleared) .none kVm7 dcm7 pmm7 anm7 cdm7 ctm7),slm7⟩)
  (cm7:PySem.W.codeIn K cdm7 "Corner.cleared" = true)
  (km7:PySem.W.keepIn K (.ref fm7)=true)
  {fm8:Addr} {odm8 anm8:Option Addr} {slm8:Array (Option Value)} {ocm8 kVm8 dcm8 pmm8 cdm8 ctm8:Value}
  (am8:PySem.W.findIn K (.ref CCorner) "climb" = some (some (.ref fm8)))
  (im8:PySem.W.isFn K (.ref fm8)=true)
  (lm8:K.lookup fm8=some ⟨ocm8,odm8,.func (PySem.W.fnOf "climb" "Corner.climb" (defArgs stCorner_climb) (defBody stCorner_climb) (defScope stCorner_climb) .none kVm8 dcm8 pmm8 anm8 cdm8 ctm8),slm8⟩)
  (cm8:PySem.W.codeIn K cdm8 "Corner.climb" = true)
  (km8:PySem.W.keepIn K (.ref fm8)=true)
  {fm9:Addr} {odm9 anm9:Option Addr} {slm9:Array (Option Value)} {ocm9 kVm9 dcm9 pmm9 cdm9 ctm9:Value}
  (am9:PySem.W.findIn K (.ref CCorner) "fit" = some (some (.ref fm9)))
  (im9:PySem.W.isFn K (.ref fm9)=true)
  (lm9:K.lookup fm9=some ⟨ocm9,odm9,.func (PySem.W.fnOf "fit" "Corner.fit" (defArgs stCorner_fit) (defBody stCorner_fit) (defScope stCorner_fit) .none kVm9 dcm9 pmm9 anm9 cdm9 ctm9),slm9⟩)
  (cm9:PySem.W.codeIn K cdm9 "Corner.fit" = true)
  (km9:PySem.W.keepIn K (.ref fm9)=true)
  {fm10:Addr} {odm10 anm10:Option Addr} {slm10:Array (Option Value)} {ocm10 kVm10 dcm10 pmm10 cdm10 ctm10:Value}
  (am10:PySem.W.findIn K (.ref CCorner) "way_along" = some (some (.ref fm10)))
  (im10:PySem.W.isFn K (.ref fm10)=true)
  (lm10:K.lookup fm10=some ⟨ocm10,odm10,.func (PySem.W.fnOf "way_along" "Corner.way_along" (defArgs stCorner_way_along) (defBody stCorner_way_along) (defScope stCorner_way_along) .none kVm10 dcm10 pmm10 anm10 cdm10 ctm10),slm10⟩)
  (cm10:PySem.W.codeIn K cdm10 "Corner.way_along" = true)
  (km10:PySem.W.keepIn K (.ref fm10)=true)
  {fm11:Addr} {odm11 anm11:Option Addr} {slm11:Array (Option Value)} {ocm11 kVm11 dcm11 pmm11 cdm11 ctm11:Value}
  (am11:PySem.W.findIn K (.ref CCorner) "amounts" = some (some (.ref fm11)))
  (im11:PySem.W.isFn K (.ref fm11)=true)
  (lm11:K.lookup fm11=some ⟨ocm11,odm11,.func (PySem.W.fnOf "amounts" "Corner.amounts" (defArgs stCorner_amounts) (defBody stCorner_amounts) (defScope stCorner_amounts) .none kVm11 dcm11 pmm11 anm11 cdm11 ctm11),slm11⟩)
  (cm11:PySem.W.codeIn K cdm11 "Corner.amounts" = true)
  (km11:PySem.W.keepIn K (.ref fm11)=true)
  {fm12:Addr} {odm12 anm12:Option Addr} {slm12:Array (Option Value)} {ocm12 kVm12 dcm12 pmm12 cdm12 ctm12:Value}
  (am12:PySem.W.findIn K (.ref CCorner) "prices" = some (some (.ref fm12)))
  (im12:PySem.W.isFn K (.ref fm12)=true)
  (lm12:K.lookup fm12=some ⟨ocm12,odm12,.func (PySem.W.fnOf "prices" "Corner.prices" (defArgs stCorner_prices) (defBody stCorner_prices) (defScope stCorner_prices) .none kVm12 dcm12 pmm12 anm12 cdm12 ctm12),slm12⟩)
  (cm12:PySem.W.codeIn K cdm12 "Corner.prices" = true)
  (km12:PySem.W.keepIn K (.ref fm12)=true)
  (zValueError:PySem.W.nsIn K mainGlobals "ValueError" = some none)
  (zabs:PySem.W.nsIn K mainGlobals "abs" = some none)
  (zall:PySem.W.nsIn K mainGlobals "all" = some none)
  (zbool:PySem.W.nsIn K mainGlobals "bool" = some none)
  (zenumerate:PySem.W.nsIn K mainGlobals "enumerate" = some none)
  (zint:PySem.W.nsIn K mainGlobals "int" = some none)
  (zisinstance:PySem.W.nsIn K mainGlobals "isinstance" = some none)
  (zlen:PySem.W.nsIn K mainGlobals "len" = some none)
  (zlist:PySem.W.nsIn K mainGlobals "list" = some none)
  (zrange:PySem.W.nsIn K mainGlobals "range" = some none)
  (ztuple:PySem.W.nsIn K mainGlobals "tuple" = some none)
  (zzip:PySem.W.nsIn K mainGlobals "zip" = some none)
  {CNOUGHT:Addr} (nNOUGHT:PySem.W.nsIn K mainGlobals "NOUGHT" = some (some (.ref CNOUGHT)))
  {odNOUGHT:Option Addr} {nnNOUGHT:Nat} {slNOUGHT:Array (Option Value)} {tNOUGHT0 tNOUGHT1:Tok} (vNOUGHT:K.lookup CNOUGHT=some ⟨.type "tuple",odNOUGHT,.seq #[.int 0 tNOUGHT0,.int 1 tNOUGHT1] nnNOUGHT,slNOUGHT⟩)
  {CONE:Addr} (nONE:PySem.W.nsIn K mainGlobals "ONE" = some (some (.ref CONE)))
  {odONE:Option Addr} {nnONE:Nat} {slONE:Array (Option Value)} {tONE0 tONE1:Tok} (vONE:K.lookup CONE=some ⟨.type "tuple",odONE,.seq #[.int 1 tONE0,.int 1 tONE1] nnONE,slONE⟩)
  {tMOST_ROWS:Tok} (nMOST_ROWS:PySem.W.nsIn K mainGlobals "MOST_ROWS" = some (some (.int 8 tMOST_ROWS)))
  {tMOST_WISHED:Tok} (nMOST_WISHED:PySem.W.nsIn K mainGlobals "MOST_WISHED" = some (some (.int 8 tMOST_WISHED)))
  : ∃fd:FuncData,(∀(s:Shared) (v:Value),BindsTo s fd ⟨[v],[]⟩ [("_law_script",v)])/\∀base:Heap,K.In base->base.Ns mainGlobals mg->FnOk l.prog w K mg base (CX1 l.prog w) 7 fa fd ["_law_script"] (spLaw K):=by
 have e:=hfa.symm.trans (PySem.W.mg_of X G a17)
 cases e
 have D0:Df K mg "common_divisor" stcommon_divisor ["first", "second"]:=df_mk l0 c0 k0 (PySem.W.mg_of X G a0) fun _ _ _ _ _ _ us hl=>by obtain ⟨a,b,rfl⟩:=xl2 hl; rfl
 have D1:Df K mg "lowest" stlowest ["top", "bottom"]:=df_mk l1 c1 k1 (PySem.W.mg_of X G a1) fun _ _ _ _ _ _ us hl=>by obtain ⟨a,b,rfl⟩:=xl2 hl; rfl
 have D2:Df K mg "scale_of" stscale_of ["fractions"]:=df_mk l2 c2 k2 (PySem.W.mg_of X G a2) fun _ _ _ _ _ _ us hl=>(xl1 hl).elim fun a e=>by subst e; rfl
 have D3:Df K mg "made_whole" stmade_whole ["fractions", "scale"]:=df_mk l3 c3 k3 (PySem.W.mg_of X G a3) fun _ _ _ _ _ _ us hl=>by obtain ⟨a,b,rfl⟩:=xl2 hl; rfl
 have D4:Df K mg "refuse_great_seeking" strefuse_great_seeking ["rows", "wish"]:=df_mk l4 c4 k4 (PySem.W.mg_of X G a4) fun _ _ _ _ _ _ us hl=>by obtain ⟨a,b,rfl⟩:=xl2 hl; rfl
 have D5:Df K mg "solve" stsolve ["rows", "bounds", "wish"]:=df_mk l5 c5 k5 (PySem.W.mg_of X G a5) fun _ _ _ _ _ _ us hl=>by obtain ⟨a,b,c,rfl⟩:=xl3 hl; rfl
 have D6:Df K mg "_law_cell_at" st_law_cell_at ["_law_script", "_law_k"]:=df_mk l6 c6 k6 (PySem.W.mg_of X G a6) fun _ _ _ _ _ _ us hl=>by obtain ⟨a,b,rfl⟩:=xl2 hl; rfl
 have D7:Df K mg "_law_divisor" st_law_divisor ["_law_one", "_law_other"]:=df_mk l7 c7 k7 (PySem.W.mg_of X G a7) fun _ _ _ _ _ _ us hl=>by obtain ⟨a,b,rfl⟩:=xl2 hl; rfl
 have D8:Df K mg "_law_lowest" st_law_lowest ["_law_top", "_law_bottom"]:=df_mk l8 c8 k8 (PySem.W.mg_of X G a8) fun _ _ _ _ _ _ us hl=>by obtain ⟨a,b,rfl⟩:=xl2 hl; rfl
 have D9:Df K mg "_law_number" st_law_number ["_law_cell", "_law_sort"]:=df_mk l9 c9 k9 (PySem.W.mg_of X G a9) fun _ _ _ _ _ _ us hl=>by obtain ⟨a,b,rfl⟩:=xl2 hl; rfl
 have D10:Df K mg "_law_bound" st_law_bound ["_law_cell", "_law_sort", "_law_zeros"]:=df_mk l10 c10 k10 (PySem.W.mg_of X G a10) fun _ _ _ _ _ _ us hl=>by obtain ⟨a,b,c,rfl⟩:=xl3 hl; rfl
 have D11:Df K mg "_law_fraction" st_law_fraction ["_law_found"]:=df_mk l11 c11 k11 (PySem.W.mg_of X G a11) fun _ _ _ _ _ _ us hl=>(xl1 hl).elim fun a e=>by subst e; rfl
 have D12:Df K mg "_law_list" st_law_list ["_law_found", "_law_many"]:=df_mk l12 c12 k12 (PySem.W.mg_of X G a12) fun _ _ _ _ _ _ us hl=>by obtain ⟨a,b,rfl⟩:=xl2 hl; rfl
 have D13:Df K mg "_law_dot" st_law_dot ["_law_some", "_law_more"]:=df_mk l13 c13 k13 (PySem.W.mg_of X G a13) fun _ _ _ _ _ _ us hl=>by obtain ⟨a,b,rfl⟩:=xl2 hl; rfl
 have D14:Df K mg "_law_most" st_law_most ["_law_one", "_law_other"]:=df_mk l14 c14 k14 (PySem.W.mg_of X G a14) fun _ _ _ _ _ _ us hl=>by obtain ⟨a,b,rfl⟩:=xl2 hl; rfl
 have D15:Df K mg "_law_right" st_law_right ["_law_found", "_law_rows", "_law_bounds", "_law_wish"]:=df_mk l15 c15 k15 (PySem.W.mg_of X G a15) fun _ _ _ _ _ _ us hl=>by obtain ⟨a,b,c,d,rfl⟩:=xl4 hl; rfl
 have D16:Df K mg "_law_round_right" st_law_round_right ["_law_cell"]:=df_mk l16 c16 k16 (PySem.W.mg_of X G a16) fun _ _ _ _ _ _ us hl=>(xl1 hl).elim fun a e=>by subst e; rfl
 have B:Bt mg:=⟨PySem.W.mg_none_of X G zValueError,PySem.W.mg_none_of X G zabs,PySem.W.mg_none_of X G zall,PySem.W.mg_none_of X G zbool,PySem.W.mg_none_of X G zenumerate,PySem.W.mg_none_of X G zint,PySem.W.mg_none_of X G zisinstance,PySem.W.mg_none_of X G zlen,PySem.W.mg_none_of X G zlist,PySem.W.mg_none_of X G zrange,PySem.W.mg_none_of X G ztuple,PySem.W.mg_none_of X G zzip⟩
 have Cn:CnT K mg:=⟨⟨.ref CNOUGHT,_,PySem.W.mg_of X G nNOUGHT,rfl,fun _ _=>.tup (xs:=[.int 0,.int 1]) (.inr ⟨_,_,_,vNOUGHT,rfl,rfl,(show 2<=sizeLine by decide),(.cons ⟨tNOUGHT0,rfl⟩ (.cons ⟨tNOUGHT1,rfl⟩ .nil))⟩) (.cons (.int 0) (.cons (.int 1) .nil))⟩,⟨.ref CONE,_,PySem.W.mg_of X G nONE,rfl,fun _ _=>.tup (xs:=[.int 1,.int 1]) (.inr ⟨_,_,_,vONE,rfl,rfl,(show 2<=sizeLine by decide),(.cons ⟨tONE0,rfl⟩ (.cons ⟨tONE1,rfl⟩ .nil))⟩) (.cons (.int 1) (.cons (.int 1) .nil))⟩,⟨.int 8,_,PySem.W.mg_of X G nMOST_ROWS,⟨tMOST_ROWS,rfl⟩,fun _ _=>.int 8⟩,⟨.int 8,_,PySem.W.mg_of X G nMOST_WISHED,⟨tMOST_WISHED,rfl⟩,fun _ _=>.int 8⟩⟩
 have ClCorner:Cls K CCorner:=⟨pgCorner,hdCorner,poCorner,saCorner⟩
 have MgCorner:=PySem.W.mg_of X G oCorner
 have Ck:ClsT K mg "Corner" ["bottom", "held_columns", "lines", "scales", "wide", "wish_lines", "wish_scales"]:=⟨CCorner,MgCorner,ClCorner,fun f hf=>by
  simp only [List.mem_cons,List.not_mem_nil,or_false] at hf
  rcases hf with rfl | rfl | rfl | rfl | rfl | rfl | rfl
  ·exact nfCornerbottom
  ·exact nfCornerheld_columns
  ·exact nfCornerlines
  ·exact nfCornerscales
  ·exact nfCornerwide
  ·exact nfCornerwish_lines
  ·exact nfCornerwish_scales⟩
 refine ⟨PySem.W.fnOf "law" "law" (defArgs stlaw) (defBody stlaw) (defScope stlaw) .none kV17 dc17 pm17 an17 cd17 ct17,fun s v=>.of_eq rfl,fun base kb nb=>?_⟩
 have Gcommon_divisor:=D0.fn (P:=l.prog) (w:=w) (base:=base) fun f fd F=>ok_common_divisor B F
 have Glowest:=D1.fn (P:=l.prog) (w:=w) (base:=base) fun f fd F=>ok_lowest B F Gcommon_divisor
 have Gscale_of:=D2.fn (P:=l.prog) (w:=w) (base:=base) fun f fd F=>ok_scale_of B F Gcommon_divisor
 have Gmade_whole:=D3.fn (P:=l.prog) (w:=w) (base:=base) fun f fd F=>ok_made_whole B F
 have Grefuse_great_seeking:=D4.fn (P:=l.prog) (w:=w) (base:=base) fun f fd F=>ok_refuse_great_seeking B Cn F
 have Fm1:=fun_mk (st:=stCorner_first_line) lm1 cm1 km1
 have GCorner_first_line:FMd l.prog w K mg base 2 "Corner" "first_line" ["self", "number", "row", "bound"] F_Corner_first_line:=⟨CCorner,fm1,_,MgCorner,ClCorner,⟨am1,im1,km1⟩,ok_Corner_first_line B Ck Fm1 Gmade_whole,Fm1.binds (ps:=["self", "number", "row", "bound"]) fun _ _ _ _ _ _ us hl=>by obtain ⟨a,b,c,d,rfl⟩:=xl4 hl; rfl⟩
 have Fm2:=fun_mk (st:=stCorner_first_wish_line) lm2 cm2 km2
 have GCorner_first_wish_line:FMd l.prog w K mg base 2 "Corner" "first_wish_line" ["self", "number", "wish"] F_Corner_first_wish_line:=⟨CCorner,fm2,_,MgCorner,ClCorner,⟨am2,im2,km2⟩,ok_Corner_first_wish_line B Ck Fm2 Gmade_whole,Fm2.binds (ps:=["self", "number", "wish"]) fun _ _ _ _ _ _ us hl=>by obtain ⟨a,b,c,rfl⟩:=xl3 hl; rfl⟩
 have Fm0:=fun_mk (st:=stCorner___init__) lm0 cm0 km0
 have GCorner___init__:MkT l.prog w K mg base 3 "Corner" ["self", "rows", "bounds", "wishes"] (spI ⟨K,mg⟩ "Corner" "held_columns" F_Corner___init__):=⟨CCorner,fm0,_,MgCorner,⟨mkCorner,am0,im0,kcCorner⟩,ok_Corner___init__ B Ck Fm0 Gscale_of GCorner_first_line GCorner_first_wish_line,Fm0.binds (ps:=["self", "rows", "bounds", "wishes"]) fun _ _ _ _ _ _ us hl=>by obtain ⟨a,b,c,d,rfl⟩:=xl4 hl; rfl⟩
 have Fm3:=fun_mk (st:=stCorner_helping_column) lm3 cm3 km3
 have GCorner_helping_column:FMd l.prog w K mg base 1 "Corner" "helping_column" ["self", "level"] F_Corner_helping_column:=⟨CCorner,fm3,_,MgCorner,ClCorner,⟨am3,im3,km3⟩,ok_Corner_helping_column B Ck Fm3 ,Fm3.binds (ps:=["self", "level"]) fun _ _ _ _ _ _ us hl=>by obtain ⟨a,b,rfl⟩:=xl2 hl; rfl⟩
 have Fm5:=fun_mk (st:=stCorner_ends_ahead) lm5 cm5 km5
 have GCorner_ends_ahead:FMd l.prog w K mg base 1 "Corner" "ends_ahead" ["self", "number", "other", "column"] F_Corner_ends_ahead:=⟨CCorner,fm5,_,MgCorner,ClCorner,⟨am5,im5,km5⟩,ok_Corner_ends_ahead B Ck Fm5 ,Fm5.binds (ps:=["self", "number", "other", "column"]) fun _ _ _ _ _ _ us hl=>by obtain ⟨a,b,c,d,rfl⟩:=xl4 hl; rfl⟩
 have Fm4:=fun_mk (st:=stCorner_ending_line) lm4 cm4 km4
 have GCorner_ending_line:FMd l.prog w K mg base 2 "Corner" "ending_line" ["self", "column"] F_Corner_ending_line:=⟨CCorner,fm4,_,MgCorner,ClCorner,⟨am4,im4,km4⟩,ok_Corner_ending_line B Ck Fm4 GCorner_ends_ahead,Fm4.binds (ps:=["self", "column"]) fun _ _ _ _ _ _ us hl=>by obtain ⟨a,b,rfl⟩:=xl2 hl; rfl⟩
 have Fm7:=fun_mk (st:=stCorner_cleared) lm7 cm7 km7
 have GCorner_cleared:FMd l.prog w K mg base 1 "Corner" "cleared" ["self", "line", "turned", "column"] F_Corner_cleared:=⟨CCorner,fm7,_,MgCorner,ClCorner,⟨am7,im7,km7⟩,ok_Corner_cleared B Ck Fm7 ,Fm7.binds (ps:=["self", "line", "turned", "column"]) fun _ _ _ _ _ _ us hl=>by obtain ⟨a,b,c,d,rfl⟩:=xl4 hl; rfl⟩
 have Fm6:=fun_mk (st:=stCorner_turn_about) lm6 cm6 km6
 have GCorner_turn_about:FMm l.prog w K mg base 2 "Corner" "turn_about" ["self", "number", "column"] F_Corner_turn_about:=⟨CCorner,fm6,_,MgCorner,ClCorner,⟨am6,im6,km6⟩,ok_Corner_turn_about B Ck Fm6 GCorner_cleared,Fm6.binds (ps:=["self", "number", "column"]) fun _ _ _ _ _ _ us hl=>by obtain ⟨a,b,c,rfl⟩:=xl3 hl; rfl⟩
 have Fm8:=fun_mk (st:=stCorner_climb) lm8 cm8 km8
 have GCorner_climb:FMm l.prog w K mg base 3 "Corner" "climb" ["self", "level"] F_Corner_climb:=⟨CCorner,fm8,_,MgCorner,ClCorner,⟨am8,im8,km8⟩,ok_Corner_climb B Ck Fm8 GCorner_helping_column GCorner_ending_line GCorner_turn_about,Fm8.binds (ps:=["self", "level"]) fun _ _ _ _ _ _ us hl=>by obtain ⟨a,b,rfl⟩:=xl2 hl; rfl⟩
 have Fm11:=fun_mk (st:=stCorner_amounts) lm11 cm11 km11
 have GCorner_amounts:FMd l.prog w K mg base 3 "Corner" "amounts" ["self", "tops"] F_Corner_amounts:=⟨CCorner,fm11,_,MgCorner,ClCorner,⟨am11,im11,km11⟩,ok_Corner_amounts B Cn Ck Fm11 Glowest,Fm11.binds (ps:=["self", "tops"]) fun _ _ _ _ _ _ us hl=>by obtain ⟨a,b,rfl⟩:=xl2 hl; rfl⟩
 have Fm9:=fun_mk (st:=stCorner_fit) lm9 cm9 km9
 have GCorner_fit:FMd l.prog w K mg base 4 "Corner" "fit" ["self"] F_Corner_fit:=⟨CCorner,fm9,_,MgCorner,ClCorner,⟨am9,im9,km9⟩,ok_Corner_fit B Ck Fm9 GCorner_amounts,Fm9.binds (ps:=["self"]) fun _ _ _ _ _ _ us hl=>(xl1 hl).elim fun a e=>by subst e; rfl⟩
 have Fm10:=fun_mk (st:=stCorner_way_along) lm10 cm10 km10
 have GCorner_way_along:FMd l.prog w K mg base 4 "Corner" "way_along" ["self", "column"] F_Corner_way_along:=⟨CCorner,fm10,_,MgCorner,ClCorner,⟨am10,im10,km10⟩,ok_Corner_way_along B Cn Ck Fm10 GCorner_amounts,Fm10.binds (ps:=["self", "column"]) fun _ _ _ _ _ _ us hl=>by obtain ⟨a,b,rfl⟩:=xl2 hl; rfl⟩
 have Fm12:=fun_mk (st:=stCorner_prices) lm12 cm12 km12
 have GCorner_prices:FMd l.prog w K mg base 3 "Corner" "prices" ["self", "level"] F_Corner_prices:=⟨CCorner,fm12,_,MgCorner,ClCorner,⟨am12,im12,km12⟩,ok_Corner_prices B Ck Fm12 Glowest,Fm12.binds (ps:=["self", "level"]) fun _ _ _ _ _ _ us hl=>by obtain ⟨a,b,rfl⟩:=xl2 hl; rfl⟩
 have Gsolve:=D5.fn (P:=l.prog) (w:=w) (base:=base) fun f fd F=>ok_solve B F Grefuse_great_seeking GCorner___init__ GCorner_climb GCorner_fit GCorner_way_along GCorner_prices
 have G_law_cell_at:=D6.fn (P:=l.prog) (w:=w) (base:=base) fun f fd F=>ok__law_cell_at B F
 have G_law_divisor:=D7.fn (P:=l.prog) (w:=w) (base:=base) fun f fd F=>ok__law_divisor B F
 have G_law_lowest:=D8.fn (P:=l.prog) (w:=w) (base:=base) fun f fd F=>ok__law_lowest B F G_law_divisor
 have G_law_number:=D9.fn (P:=l.prog) (w:=w) (base:=base) fun f fd F=>ok__law_number B F G_law_lowest
 have G_law_bound:=D10.fn (P:=l.prog) (w:=w) (base:=base) fun f fd F=>ok__law_bound B F G_law_number
 have G_law_fraction:=D11.fn (P:=l.prog) (w:=w) (base:=base) fun f fd F=>ok__law_fraction B F G_law_divisor
 have G_law_list:=D12.fn (P:=l.prog) (w:=w) (base:=base) fun f fd F=>ok__law_list B F G_law_fraction
 have G_law_dot:=D13.fn (P:=l.prog) (w:=w) (base:=base) fun f fd F=>ok__law_dot B F
 have G_law_most:=D14.fn (P:=l.prog) (w:=w) (base:=base) fun f fd F=>ok__law_most B F
 have G_law_right:=D15.fn (P:=l.prog) (w:=w) (base:=base) fun f fd F=>ok__law_right B F G_law_list G_law_dot G_law_most
 have G_law_round_right:=D16.fn (P:=l.prog) (w:=w) (base:=base) fun f fd F=>ok__law_round_right B F Gsolve G_law_right
 have F:=fun_mk (st:=stlaw) l17 c17 k17
 exact law_imp law_true (ok_law B F Gsolve G_law_cell_at G_law_number G_law_bound G_law_right G_law_round_right)
theorem walk {l:PySem.W.OpenLaw}{q:Program}{loose:List Str}{XP:(Str->Option Value)->Heap->Prop}{YP:World->Heap->Prop}{d:DefRec}{K:Params->PySem.W.Frag}(hn:l.most=some 63)(hdf:d.params.defaults=[])
  (hY:∀(w:World) (h:Heap),YP w h->(K w.params).In h)
  (F:∀(w:World) (mg:Str->Option Value) (fa:Addr) (h:Heap),(K w.params).In h->h.Ns mainGlobals mg->mg d.name=some (.ref fa)->
   ∃fd:FuncData,(∀(s:Shared) (u:Value),BindsTo s fd ⟨[u],[]⟩ [("_law_script",u)])/\∀base:Heap,(K w.params).In base->base.Ns mainGlobals mg->FnOk l.prog w (K w.params) mg base (CX1 l.prog w) 7 fa fd ["_law_script"] (spLaw (K w.params))):
  PySem.W.WalkO q loose XP YP l.row.toRowW d [] (fun f vs=>PySem.call f vs):=
 L2.walk_of (n:=63) (k:=7) (x:="_law_script") (CX:=fun w=>CX1 l.prog w) (sp:=fun w=>spLaw (K w.params)) hn (by decide) hdf ⟨rfl,by decide,by decide,rfl⟩ hY F (fun _ _ a ns hl _ hS=>⟨a,ns,rfl,hS,hl,fun _=>rfl⟩) fun _ _ _ _ _ ⟨_,_,_,_,_,_,z⟩=>z.elim
end K35
namespace PySem.W.Fast
theorem tw1005231753363479658:True:=⟨⟩
theorem tw10103576355021457372:True:=⟨⟩
theorem tw10267445449433914598:True:=⟨⟩
theorem tw10298313033012032224:True:=⟨⟩
theorem tw10304362202778199965:True:=⟨⟩
theorem tw10379304101106642286:True:=⟨⟩
theorem tw10403087968101265230:True:=⟨⟩
theorem tw10407787659315259476:True:=⟨⟩
theorem tw1058416096641728656:True:=⟨⟩
theorem tw10616399105975711233:True:=⟨⟩
theorem tw1074295179448997421:True:=⟨⟩
theorem tw10744773309050662775:True:=⟨⟩
theorem tw10766913368638305244:True:=⟨⟩
theorem tw10853943928588538956:True:=⟨⟩
theorem tw10954907992987556234:True:=⟨⟩
theorem tw10962304868980859818:True:=⟨⟩
theorem tw11021450946550242564:True:=⟨⟩
theorem tw11127951396989786226:True:=⟨⟩
theorem tw11158646228632390412:True:=⟨⟩
theorem tw11343471298131061760:True:=⟨⟩
theorem tw11375687901236008537:True:=⟨⟩
theorem tw11382225998021125122:True:=⟨⟩
theorem tw11445955434498019552:True:=⟨⟩
theorem tw11467955866403686456:True:=⟨⟩
theorem tw11526756570504640509:True:=⟨⟩
theorem tw11569039094405261400:True:=⟨⟩
theorem tw11652529264433926075:True:=⟨⟩
theorem tw11698803088102467830:True:=⟨⟩
theorem tw11750706477135815231:True:=⟨⟩
theorem tw11797345945192229165:True:=⟨⟩
theorem tw11818106852849900033:True:=⟨⟩
theorem tw11828110647228124394:True:=⟨⟩
theorem tw11991573360176583832:True:=⟨⟩
theorem tw12036624079165754558:True:=⟨⟩
theorem tw12083264391429500727:True:=⟨⟩
theorem tw12097350871828139302:True:=⟨⟩
theorem tw1219369637929881277:True:=⟨⟩
theorem tw12220539868200652860:True:=⟨⟩
theorem tw12232394868601917378:True:=⟨⟩
theorem tw12235506496330644310:True:=⟨⟩
theorem tw12326513366355639034:True:=⟨⟩
theorem tw12367460767369418733:True:=⟨⟩
theorem tw12383431053323006905:True:=⟨⟩
theorem tw12405874985486169400:True:=⟨⟩
theorem tw12530401776056179687:True:=⟨⟩
theorem tw12683689548962106143:True:=⟨⟩
theorem tw12685698897754068711:True:=⟨⟩
theorem tw12707791179231954124:True:=⟨⟩
theorem tw12809661946864094455:True:=⟨⟩
theorem tw12872705813115950562:True:=⟨⟩
theorem tw12888921730074433729:True:=⟨⟩
theorem tw12939108404999794723:True:=⟨⟩
theorem tw130009168797861954:True:=⟨⟩
theorem tw13053413117403067561:True:=⟨⟩
theorem tw13331227246461915334:True:=⟨⟩
theorem tw1339890668283788352:True:=⟨⟩
theorem tw13412822748985499285:True:=⟨⟩
theorem tw13456651907949652422:True:=⟨⟩
theorem tw13465934875583567373:True:=⟨⟩
theorem tw13498829369852156300:True:=⟨⟩
theorem tw13527229612878025091:True:=⟨⟩
theorem tw13592536715783733008:True:=⟨⟩
theorem tw13638623355168645383:True:=⟨⟩
theorem tw13642200532155892019:True:=⟨⟩
theorem tw13651558699864849668:True:=⟨⟩
theorem tw13675587274238562070:True:=⟨⟩
theorem tw13748940300674481139:True:=⟨⟩
theorem tw13808457247221532257:True:=⟨⟩
theorem tw14118542176924957677:True:=⟨⟩
theorem tw14124660693200503167:True:=⟨⟩
theorem tw14187587695706232099:True:=⟨⟩
theorem tw14266896202226625971:True:=⟨⟩
theorem tw1432517407823120262:True:=⟨⟩
theorem tw14325768587842498623:True:=⟨⟩
theorem tw14332844745086571533:True:=⟨⟩
theorem tw14440093606656227657:True:=⟨⟩
theorem tw14492297116206521241:True:=⟨⟩
theorem tw14511804470228632067:True:=⟨⟩
theorem tw14533318803775963155:True:=⟨⟩
theorem tw14553383826963262091:True:=⟨⟩
theorem tw14604261304141128607:True:=⟨⟩
theorem tw14693998658576235560:True:=⟨⟩
theorem tw14718203101035973296:True:=⟨⟩
theorem tw14767015023494773159:True:=⟨⟩
theorem tw14791619884099877172:True:=⟨⟩
theorem tw14825517096630488698:True:=⟨⟩
theorem tw14913950558034121976:True:=⟨⟩
theorem tw14965500668373559015:True:=⟨⟩
theorem tw15020427018222666785:True:=⟨⟩
theorem tw15036461729597993785:True:=⟨⟩
theorem tw15056082291974626027:True:=⟨⟩
theorem tw15146738571314290929:True:=⟨⟩
theorem tw15155207567527426526:True:=⟨⟩
theorem tw15240591962065788052:True:=⟨⟩
theorem tw15253371537306324444:True:=⟨⟩
theorem tw15427891797635072578:True:=⟨⟩
theorem tw15487161447949864060:True:=⟨⟩
theorem tw1549866312942497316:True:=⟨⟩
theorem tw15512978122749636733:True:=⟨⟩
theorem tw15516139486794691001:True:=⟨⟩
theorem tw15547636851543983765:True:=⟨⟩
theorem tw1562126438237611425:True:=⟨⟩
theorem tw15623500665634891307:True:=⟨⟩
theorem tw15712593059509778345:True:=⟨⟩
theorem tw15746989737155555711:True:=⟨⟩
theorem tw15813551729811874625:True:=⟨⟩
theorem tw15826238543833412769:True:=⟨⟩
theorem tw15921097223736970073:True:=⟨⟩
theorem tw16091937639453706471:True:=⟨⟩
theorem tw16144654280449213624:True:=⟨⟩
theorem tw16178785100674795194:True:=⟨⟩
theorem tw16181098426610414178:True:=⟨⟩
theorem tw16212483055162632928:True:=⟨⟩
theorem tw1627488721242976816:True:=⟨⟩
theorem tw16312978170333505048:True:=⟨⟩
theorem tw16380382875684587073:True:=⟨⟩
theorem tw16554469399849171648:True:=⟨⟩
theorem tw16688434034069548936:True:=⟨⟩
theorem tw16709531109530960919:True:=⟨⟩
theorem tw16718866824675547170:True:=⟨⟩
theorem tw16769487377313434637:True:=⟨⟩
theorem tw16944782892724602790:True:=⟨⟩
theorem tw16971120992989340161:True:=⟨⟩
theorem tw16988090549800880110:True:=⟨⟩
theorem tw17026375072387290069:True:=⟨⟩
theorem tw17050247590516751993:True:=⟨⟩
theorem tw17090854020402342192:True:=⟨⟩
theorem tw17224237965978641316:True:=⟨⟩
theorem tw17257767069776679397:True:=⟨⟩
theorem tw17265369549364688527:True:=⟨⟩
theorem tw17505878974435807738:True:=⟨⟩
theorem tw17541069027155900291:True:=⟨⟩
theorem tw17567993486676274038:True:=⟨⟩
theorem tw17578519819589323285:True:=⟨⟩
theorem tw1767434501069944265:True:=⟨⟩
theorem tw17713037972616297831:True:=⟨⟩
theorem tw17835649235543860025:True:=⟨⟩
theorem tw17845947948571253400:True:=⟨⟩
theorem tw17926654852002658125:True:=⟨⟩
theorem tw1796214528722125591:True:=⟨⟩
theorem tw18029602723113496896:True:=⟨⟩
theorem tw1812552834431333119:True:=⟨⟩
theorem tw1881814612046528846:True:=⟨⟩
theorem tw1927030933453913681:True:=⟨⟩
theorem tw194620410781422620:True:=⟨⟩
theorem tw1996663322179723220:True:=⟨⟩
theorem tw2183868143908110944:True:=⟨⟩
theorem tw2188746660116182416:True:=⟨⟩
theorem tw2193917552270320066:True:=⟨⟩
theorem tw2346848117162767940:True:=⟨⟩
theorem tw2399645049065622913:True:=⟨⟩
theorem tw2441264327425983706:True:=⟨⟩
theorem tw2470547464238765336:True:=⟨⟩
theorem tw2599356321003689363:True:=⟨⟩
theorem tw2733252011267529563:True:=⟨⟩
theorem tw277931809193196301:True:=⟨⟩
theorem tw2792381081766577555:True:=⟨⟩
theorem tw2803214080791858806:True:=⟨⟩
theorem tw2838451952136766393:True:=⟨⟩
theorem tw2838466963836309399:True:=⟨⟩
theorem tw2861024612573039463:True:=⟨⟩
theorem tw2923996680089084039:True:=⟨⟩
theorem tw30014131779341644:True:=⟨⟩
theorem tw3088603558197135108:True:=⟨⟩
theorem tw3148998848909129573:True:=⟨⟩
theorem tw3293835531363536670:True:=⟨⟩
theorem tw3298186509526876315:True:=⟨⟩
theorem tw3332138473291509584:True:=⟨⟩
theorem tw3349737888451844693:True:=⟨⟩
theorem tw3355321969952066530:True:=⟨⟩
theorem tw3385144427391019479:True:=⟨⟩
theorem tw3483592427343969366:True:=⟨⟩
theorem tw3508308402884091835:True:=⟨⟩
theorem tw358176443823407292:True:=⟨⟩
theorem tw3585527783086732574:True:=⟨⟩
theorem tw3587357369093421105:True:=⟨⟩
theorem tw3600598664293349543:True:=⟨⟩
theorem tw3626853692203197536:True:=⟨⟩
theorem tw3792119708595411026:True:=⟨⟩
theorem tw3793602426929476018:True:=⟨⟩
theorem tw3804249634957280315:True:=⟨⟩
theorem tw3822280152714815834:True:=⟨⟩
theorem tw3822838357502395748:True:=⟨⟩
theorem tw3913454385075815576:True:=⟨⟩
theorem tw3963795108082386836:True:=⟨⟩
theorem tw3997900058356948612:True:=⟨⟩
theorem tw4098274804504406352:True:=⟨⟩
theorem tw4181290760262222420:True:=⟨⟩
theorem tw4192959218590086852:True:=⟨⟩
theorem tw4215559587422394384:True:=⟨⟩
theorem tw4277081536332906146:True:=⟨⟩
theorem tw431333697187666686:True:=⟨⟩
theorem tw4331130670632617997:True:=⟨⟩
theorem tw4341150861292256291:True:=⟨⟩
theorem tw4398414471488219700:True:=⟨⟩
theorem tw4399555230593523871:True:=⟨⟩
theorem tw4429589408699403539:True:=⟨⟩
theorem tw4457469354871661338:True:=⟨⟩
theorem tw4491440411545956845:True:=⟨⟩
theorem tw4524474620796468726:True:=⟨⟩
theorem tw4598715941985000449:True:=⟨⟩
theorem tw4654782469106076588:True:=⟨⟩
theorem tw466409891183570536:True:=⟨⟩
theorem tw4908835615032852307:True:=⟨⟩
theorem tw4991447976650458018:True:=⟨⟩
theorem tw5003234149801460361:True:=⟨⟩
theorem tw505750318044567785:True:=⟨⟩
theorem tw506236107436337101:True:=⟨⟩
theorem tw5149508123151755998:True:=⟨⟩
theorem tw519440962614570829:True:=⟨⟩
theorem tw5220520200841804264:True:=⟨⟩
theorem tw5282266384012505248:True:=⟨⟩
theorem tw5314575903755003645:True:=⟨⟩
theorem tw5520208123176662362:True:=⟨⟩
theorem tw5548611673080710399:True:=⟨⟩
theorem tw5576507918770917523:True:=⟨⟩
theorem tw5579543044152573265:True:=⟨⟩
theorem tw5678248130671955934:True:=⟨⟩
theorem tw5699073264314164239:True:=⟨⟩
theorem tw5733681976844574348:True:=⟨⟩
theorem tw5776166761370853382:True:=⟨⟩
theorem tw5800333791727856167:True:=⟨⟩
theorem tw5828060777706042413:True:=⟨⟩
theorem tw586268026921869017:True:=⟨⟩
theorem tw6084718426390064106:True:=⟨⟩
theorem tw6202342665958171602:True:=⟨⟩
theorem tw6241226247949607303:True:=⟨⟩
theorem tw626515112382153537:True:=⟨⟩
theorem tw6321532830497826108:True:=⟨⟩
theorem tw6332106735281163784:True:=⟨⟩
theorem tw6338041650553236853:True:=⟨⟩
theorem tw6372994733758209324:True:=⟨⟩
theorem tw6405099838532675745:True:=⟨⟩
theorem tw643193561773496207:True:=⟨⟩
theorem tw6508747901591077513:True:=⟨⟩
theorem tw6542672746121209402:True:=⟨⟩
theorem tw6656731340381449064:True:=⟨⟩
theorem tw6678623461513936140:True:=⟨⟩
theorem tw6714012097229721438:True:=⟨⟩
theorem tw685042083151445250:True:=⟨⟩
theorem tw6932061359866991067:True:=⟨⟩
theorem tw6999456466796621219:True:=⟨⟩
theorem tw7000599486402239568:True:=⟨⟩
theorem tw7023778531708931304:True:=⟨⟩
theorem tw7087571910180214875:True:=⟨⟩
theorem tw7105182168270945529:True:=⟨⟩
theorem tw7216143239387395496:True:=⟨⟩
theorem tw724172418261802156:True:=⟨⟩
theorem tw7393587874377807245:True:=⟨⟩
theorem tw7407897109911805681:True:=⟨⟩
theorem tw7415892608497945737:True:=⟨⟩
theorem tw747237226543509537:True:=⟨⟩
theorem tw751053490559042986:True:=⟨⟩
theorem tw7534067844639263640:True:=⟨⟩
theorem tw7587261305295823824:True:=⟨⟩
theorem tw7703323553850107607:True:=⟨⟩
theorem tw7716317987140315264:True:=⟨⟩
theorem tw7854652136778098341:True:=⟨⟩
theorem tw7915834710834036309:True:=⟨⟩
theorem tw7943075281808878576:True:=⟨⟩
theorem tw8005470479792322449:True:=⟨⟩
theorem tw8042515789481074904:True:=⟨⟩
theorem tw811178901765789175:True:=⟨⟩
theorem tw8174446518870694050:True:=⟨⟩
theorem tw8290289823415491146:True:=⟨⟩
theorem tw8368334578497052126:True:=⟨⟩
theorem tw8395808929757205560:True:=⟨⟩
theorem tw8421732404761914185:True:=⟨⟩
theorem tw8463404060606041905:True:=⟨⟩
theorem tw8513116843546979386:True:=⟨⟩
theorem tw8561088841431905260:True:=⟨⟩
theorem tw8570431233539509146:True:=⟨⟩
theorem tw8601862851264853295:True:=⟨⟩
theorem tw879561000633806884:True:=⟨⟩
theorem tw8879002603698622843:True:=⟨⟩
theorem tw8935625968875474867:True:=⟨⟩
theorem tw9013394832490209240:True:=⟨⟩
theorem tw9183672107962374376:True:=⟨⟩
theorem tw928646400625486566:True:=⟨⟩
theorem tw9338279172124328322:True:=⟨⟩
theorem tw9340153516216767432:True:=⟨⟩
theorem tw935161340926620883:True:=⟨⟩
theorem tw9366582312654565382:True:=⟨⟩
theorem tw9440767003485409537:True:=⟨⟩
theorem tw945649116350502249:True:=⟨⟩
theorem tw9538808065849348444:True:=⟨⟩
theorem tw9542231205278310434:True:=⟨⟩
theorem tw9569740041533529879:True:=⟨⟩
theorem tw9594493711849946529:True:=⟨⟩
theorem tw9595566853311437982:True:=⟨⟩
theorem tw9621357123722358130:True:=⟨⟩
theorem tw9642533836022493449:True:=⟨⟩
theorem tw9819511021291842298:True:=⟨⟩
theorem tw9821640676644077555:True:=⟨⟩
theorem tw9854521372793476349:True:=⟨⟩
end PySem.W.Fast
open PySem PySem.W PyProof.Rows
set_option maxRecDepth 100000 in
set_option maxHeartbeats 0 in
theorem PySem.Challenge.cw_hushduel_k35_whole_seekings_with_papers_holds : PySem.Challenge.rw_hushduel_k35_whole_seekings_with_papers.Holds := by
 w_on; o_law; k_head; (case hw=>w_witness2)
 k_fill
 refine K35.walk (l:=PySem.Challenge.rw_hushduel_k35_whole_seekings_with_papers) rfl rfl (fun w h Y=>PySem.W.kIn_of Y) ?F
 case F=>
  intro w mg fa h KX G hmg
  refine' K35.all_mk KX G hmg ?a0 ?l0 ?c0 ?k0 ?a1 ?l1 ?c1 ?k1 ?a2 ?l2 ?c2 ?k2 ?a3 ?l3 ?c3 ?k3 ?a4 ?l4 ?c4 ?k4 ?a5 ?l5 ?c5 ?k5 ?a6 ?l6 ?c6 ?k6 ?a7 ?l7 ?c7 ?k7 ?a8 ?l8 ?c8 ?k8 ?a9 ?l9 ?c9 ?k9 ?a10 ?l10 ?c10 ?k10 ?a11 ?l11 ?c11 ?k11 ?a12 ?l12 ?c12 ?k12 ?a13 ?l13 ?c13 ?k13 ?a14 ?l14 ?c14 ?k14 ?a15 ?l15 ?c15 ?k15 ?a16 ?l16 ?c16 ?k16 ?a17 ?l17 ?c17 ?k17 ?oCorner ?pgCorner ?hdCorner ?poCorner ?saCorner ?mkCorner ?kcCorner ?nfCornerbottom ?nfCornerheld_columns ?nfCornerlines ?nfCornerscales ?nfCornerwide ?nfCornerwish_lines ?nfCornerwish_scales ?am0 ?im0 ?lm0 ?cm0 ?km0 ?am1 ?im1 ?lm1 ?cm1 ?km1 ?am2 ?im2 ?lm2 ?cm2 ?km2 ?am3 ?im3 ?lm3 ?cm3 ?km3 ?am4 ?im4 ?lm4 ?cm4 ?km4 ?am5 ?im5 ?lm5 ?cm5 ?km5 ?am6 ?im6 ?lm6 ?cm6 ?km6 ?am7 ?im7 ?lm7 ?cm7 ?km7 ?am8 ?im8 ?lm8 ?cm8 ?km8 ?am9 ?im9 ?lm9 ?cm9 ?km9 ?am10 ?im10 ?lm10 ?cm10 ?km10 ?am11 ?im11 ?lm11 ?cm11 ?km11 ?am12 ?im12 ?lm12 ?cm12 ?km12 ?zValueError ?zabs ?zall ?zbool ?zenumerate ?zint ?zisinstance ?zlen ?zlist ?zrange ?ztuple ?zzip ?nNOUGHT ?vNOUGHT ?nONE ?vONE ?nMOST_ROWS ?nMOST_WISHED
  (case a0=>k_is)
  (case l0=>k_is)
  (case c0=>k_is)
  (case k0=>k_is)
  (case a1=>k_is)
  (case l1=>k_is)
  (case c1=>k_is)
  (case k1=>k_is)
  (case a2=>k_is)
  (case l2=>k_is)
  (case c2=>k_is)
  (case k2=>k_is)
  (case a3=>k_is)
  (case l3=>k_is)
  (case c3=>k_is)
  (case k3=>k_is)
  (case a4=>k_is)
  (case l4=>k_is)
  (case c4=>k_is)
  (case k4=>k_is)
  (case a5=>k_is)
  (case l5=>k_is)
  (case c5=>k_is)
  (case k5=>k_is)
  (case a6=>k_is)
  (case l6=>k_is)
  (case c6=>k_is)
  (case k6=>k_is)
  (case a7=>k_is)
  (case l7=>k_is)
  (case c7=>k_is)
  (case k7=>k_is)
  (case a8=>k_is)
  (case l8=>k_is)
  (case c8=>k_is)
  (case k8=>k_is)
  (case a9=>k_is)
  (case l9=>k_is)
  (case c9=>k_is)
  (case k9=>k_is)
  (case a10=>k_is)
  (case l10=>k_is)
  (case c10=>k_is)
  (case k10=>k_is)
  (case a11=>k_is)
  (case l11=>k_is)
  (case c11=>k_is)
  (case k11=>k_is)
  (case a12=>k_is)
  (case l12=>k_is)
  (case c12=>k_is)
  (case k12=>k_is)
  (case a13=>k_is)
  (case l13=>k_is)
  (case c13=>k_is)
  (case k13=>k_is)
  (case a14=>k_is)
  (case l14=>k_is)
  (case c14=>k_is)
  (case k14=>k_is)
  (case a15=>k_is)
  (case l15=>k_is)
  (case c15=>k_is)
  (case k15=>k_is)
  (case a16=>k_is)
  (case l16=>k_is)
  (case c16=>k_is)
  (case k16=>k_is)
  (case a17=>k_is)
  (case l17=>k_is)
  (case c17=>k_is)
  (case k17=>k_is)
  (case oCorner=>k_is)
  (case pgCorner=>k_is)
  (case hdCorner=>k_is)
  (case poCorner=>k_is)
  (case saCorner=>k_is)
  (case mkCorner=>k_is)
  (case kcCorner=>k_is)
  (case nfCornerbottom=>k_is)
  (case nfCornerheld_columns=>k_is)
  (case nfCornerlines=>k_is)
  (case nfCornerscales=>k_is)
  (case nfCornerwide=>k_is)
  (case nfCornerwish_lines=>k_is)
  (case nfCornerwish_scales=>k_is)
  (case am0=>k_is)
  (case im0=>k_is)
  (case lm0=>k_is)
  (case cm0=>k_is)
  (case km0=>k_is)
  (case am1=>k_is)
  (case im1=>k_is)
  (case lm1=>k_is)
  (case cm1=>k_is)
  (case km1=>k_is)
  (case am2=>k_is)
  (case im2=>k_is)
  (case lm2=>k_is)
  (case cm2=>k_is)
  (case km2=>k_is)
  (case am3=>k_is)
  (case im3=>k_is)
  (case lm3=>k_is)
  (case cm3=>k_is)
  (case km3=>k_is)
  (case am4=>k_is)
  (case im4=>k_is)
  (case lm4=>k_is)
  (case cm4=>k_is)
  (case km4=>k_is)
  (case am5=>k_is)
  (case im5=>k_is)
  (case lm5=>k_is)
  (case cm5=>k_is)
  (case km5=>k_is)
  (case am6=>k_is)
  (case im6=>k_is)
  (case lm6=>k_is)
  (case cm6=>k_is)
  (case km6=>k_is)
  (case am7=>k_is)
  (case im7=>k_is)
  (case lm7=>k_is)
  (case cm7=>k_is)
  (case km7=>k_is)
  (case am8=>k_is)
  (case im8=>k_is)
  (case lm8=>k_is)
  (case cm8=>k_is)
  (case km8=>k_is)
  (case am9=>k_is)
  (case im9=>k_is)
  (case lm9=>k_is)
  (case cm9=>k_is)
  (case km9=>k_is)
  (case am10=>k_is)
  (case im10=>k_is)
  (case lm10=>k_is)
  (case cm10=>k_is)
  (case km10=>k_is)
  (case am11=>k_is)
  (case im11=>k_is)
  (case lm11=>k_is)
  (case cm11=>k_is)
  (case km11=>k_is)
  (case am12=>k_is)
  (case im12=>k_is)
  (case lm12=>k_is)
  (case cm12=>k_is)
  (case km12=>k_is)
  (case zValueError=>k_is)
  (case zabs=>k_is)
  (case zall=>k_is)
  (case zbool=>k_is)
  (case zenumerate=>k_is)
  (case zint=>k_is)
  (case zisinstance=>k_is)
  (case zlen=>k_is)
  (case zlist=>k_is)
  (case zrange=>k_is)
  (case ztuple=>k_is)
  (case zzip=>k_is)
  (case nNOUGHT=>k_is)
  (case vNOUGHT=>k_is)
  (case nONE=>k_is)
  (case vONE=>k_is)
  (case nMOST_ROWS=>k_is)
  (case nMOST_WISHED=>k_is)
