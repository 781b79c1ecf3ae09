import PyProof.Rows.All
import Wide.All
import OpenK.AllK
import Wide.FinOn
import Lean
import PyProof.EqAt
import PyProof.EqKinds
import PyProof.TupleCall
import PyProof.TupleKey
import KE.KRevSl
import PyProof.P3Eq
import KE.LcSums
import PyProof.EnumMake
import PyProof.StrWalks
import PyProof.Conv_int_bool
import KE.KIntText
import PyProof.Rows.StrNews2
import PyProof.StrBlock2
import PyProof.Rows.StrNews
import PyProof.StrLawsRepr
import PyProof.ReprStr
import PyProof.ReprRoads
import PyProof.DictIter
import PyProof.Rows.SetFrom
import KE.KDictList
import KE.KDictOf
import PyProof.AttrMissHeap
import KE.KEqDict
import PyProof.DictItems
import KE.KPairComp
import PyProof.Rows.Range3
import KE.IntTextText
import PyProof.StrLawsFirst
import PyProof.ReprBulk
import PySem.Challenge.RW_hushduel_k13_tables
set_option genSizeOf false
theorem xq5 {A B C D E:Sort _}{R Q:A->B->C->D->E->Prop}{P:Prop}(h:∃a b c d e,R a b c d e/\Q a b c d e)(k:∀a b c d e,R a b c d e->Q a b c d e->P):P:=by
 obtain ⟨a,b,c,d,e,r,q⟩:=h
 exact k a b c d e r q
theorem xq7 {A B C D E F G:Sort _}{R Q S T:A->B->C->D->E->F->G->Prop}{P:Prop}(h:∃a b c d e f g,R a b c d e f g/\Q a b c d e f g/\S a b c d e f g/\T a b c d e f g)(k:∀a b c d e f g,R a b c d e f g->Q a b c d e f g->S a b c d e f g->T a b c d e f g->P):P:=by
 obtain ⟨a,b,c,d,e,f,g,r,q,s,t⟩:=h
 exact k a b c d e f g r q s t
theorem xq2 {A B:Sort _}{R Q S:A->B->Prop}{P:Prop}(h:∃a b,R a b/\Q a b/\S a b)(k:∀a b,R a b->Q a b->S a b->P):P:=by
 obtain ⟨a,b,r,q,s⟩:=h
 exact k a b r q s
theorem xl1 {A:Type _}{us:List A}(h:us.length=1):∃a,us=[a]:=by
 cases us with
 |nil=>cases h
 |cons a t=>cases t with
  |nil=>exact ⟨a,rfl⟩
  |cons _ _=>cases h
theorem xl0 {A:Type _}{us:List A}{n:Nat}(h:us.length=n+1):∃a t,us=a::t/\t.length=n:=by
 cases us with
 |nil=>cases h
 |cons a t=>exact ⟨a,t,rfl,Nat.succ.inj h⟩
theorem xl2 {A:Type _}{us:List A}(h:us.length=2):∃a b,us=[a,b]:=by
 obtain ⟨a,t,rfl,h'⟩:=xl0 (n:=1) h
 obtain ⟨b,rfl⟩:=xl1 h'
 exact ⟨a,b,rfl⟩
theorem xl3 {A:Type _}{us:List A}(h:us.length=3):∃a b c,us=[a,b,c]:=by
 obtain ⟨a,t,rfl,h'⟩:=xl0 (n:=2) h
 obtain ⟨b,c,rfl⟩:=xl2 h'
 exact ⟨a,b,c,rfl⟩
theorem xl4 {A:Type _}{us:List A}(h:us.length=4):∃a b c d,us=[a,b,c,d]:=by
 obtain ⟨a,t,rfl,h'⟩:=xl0 (n:=3) h
 obtain ⟨b,c,d,rfl⟩:=xl3 h'
 exact ⟨a,b,c,d,rfl⟩
set_option Elab.async false
set_option linter.all false
set_option maxRecDepth 100000
namespace L2
open PySem PySem.Spec PyProof.Rows
noncomputable abbrev Key:=Sum Int Str
noncomputable def wU:Key->Value->Bool
 | .inl k,v=>Value.isInt k v
 | .inr x,v=>Value.isStrOf x v
noncomputable def Yb (w:World):Key->Int
 | .inl k=>hashInt k
 | .inr x=>hashStr w x
theorem bV:∀{k:Key} {v:Value},wU k v=true->(∃i t,k=Sum.inl i/\v=Value.int i t)\/(∃x t,k=Sum.inr x/\v=Value.str x t)
 | .inl i,v,h=>by
  obtain ⟨t,e⟩:=Value.isInt_shape (k:=i) (v:=v) h
  exact .inl ⟨i,t,rfl,e⟩
 | .inr x,v,h=>by
  obtain ⟨t,e⟩:=Value.isStrOf_shape (x:=x) (v:=v) h
  exact .inr ⟨x,t,rfl,e⟩
theorem Lq (i:Int)(t:Tok):wU (.inl i) (.int i t)=true:=by simp [wU,Value.isInt]
theorem Ln (x:Str)(t:Tok):wU (.inr x) (.str x t)=true:=by simp [wU,Value.isStrOf]
theorem Wi (a b:Int):decide ((Sum.inl a:Key)=Sum.inl b)=(a == b):=by
 by_cases e:a=b
 ·subst e; simp
 ·have h:¬(Sum.inl a:Key)=Sum.inl b:=fun q=>e (Sum.inl.inj q)
  rw [decide_eq_false h]
  exact (beq_eq_false_iff_ne.mpr e).symm
theorem Vb (a b:Str):decide ((Sum.inr a:Key)=Sum.inr b)=decide (a=b):=by
 by_cases e:a=b
 ·subst e; simp
 ·have h:¬(Sum.inr a:Key)=Sum.inr b:=fun q=>e (Sum.inr.inj q)
  rw [decide_eq_false h,decide_eq_false e]
theorem VB (a:Int)(b:Str):decide ((Sum.inl a:Key)=Sum.inr b)=false:=decide_eq_false (fun q=>nomatch q)
theorem VJ (a:Str)(b:Int):decide ((Sum.inr a:Key)=Sum.inl b)=false:=decide_eq_false (fun q=>nomatch q)
noncomputable def ji (prog:Program)(w:World):PySem.KeyKind prog w Key where
 is:=wU
 hash:=Yb w
 inj:=fun v a b ha hb=>by
  rcases bV ha with ⟨i,t,rfl,rfl⟩ | ⟨x,t,rfl,rfl⟩
  ·rcases bV hb with ⟨j,u,rfl,e⟩ | ⟨y,u,rfl,e⟩
   ·injection e with e1 _; rw [e1]
   ·exact nomatch e
  ·rcases bV hb with ⟨j,u,rfl,e⟩ | ⟨y,u,rfl,e⟩
   ·exact nomatch e
   ·injection e with e1 _; rw [e1]
 byValue:=fun k v h=>by
  rcases bV h with ⟨i,t,rfl,rfl⟩ | ⟨x,t,rfl,rfl⟩ <;> rfl
 pyHash:=fun hv h=>by
  rcases bV hv with ⟨i,t,rfl,rfl⟩ | ⟨x,t,rfl,rfl⟩
  ·exact wpAny_pyHash_int h
  ·exact wpAny_pyHash_str h
 eqBool:=fun hu hv h=>by
  rcases bV hu with ⟨i,t,rfl,rfl⟩ | ⟨x,t,rfl,rfl⟩
  ·rcases bV hv with ⟨j,u,rfl,rfl⟩ | ⟨y,u,rfl,rfl⟩
   ·rw [Wi] at h; exact wpAny_eqBool_int h
   ·rw [VB] at h; exact SeqAt.EqAt.int_str i t y u _ _ _ _ h
  ·rcases bV hv with ⟨j,u,rfl,rfl⟩ | ⟨y,u,rfl,rfl⟩
   ·rw [VJ] at h; exact SeqAt.EqAt.str_int x t j u _ _ _ _ h
   ·rw [Vb] at h; exact wpAny_eqBool_str h
 «strs»:=fun k x t v h=>by
  rcases bV h with ⟨i,u,rfl,e⟩ | ⟨y,u,rfl,e⟩
  ·exact nomatch e
  ·injection e with e1 _
   subst e1
   cases v <;> rfl
theorem Fg (prog:Program)(w:World)(i:Int)(t:Tok):(ji prog w).is (.inl i) (.int i t)=true:=Lq i t
theorem Ej (prog:Program)(w:World)(x:Str)(t:Tok):(ji prog w).is (.inr x) (.str x t)=true:=Ln x t
inductive Kt where
 |k (x:Key) | t (xs:List Kt)
mutual
noncomputable def Kt.dec:(a b:Kt)->Decidable (a=b)
 | .k x,.k y=>if h:x=y then .isTrue (by rw [h]) else .isFalse fun e=>h (by injection e)
 | .t xs,.t ys=>match Kt.decs xs ys with
  | .isTrue h=>.isTrue (by rw [h])
  | .isFalse h=>.isFalse fun e=>h (by injection e)
 | .k _,.t _=>.isFalse fun e=>nomatch e
 | .t _,.k _=>.isFalse fun e=>nomatch e
noncomputable def Kt.decs:(a b:List Kt)->Decidable (a=b)
 |[],[]=>.isTrue rfl
 |[],_::_=>.isFalse fun e=>nomatch e
 |_::_,[]=>.isFalse fun e=>nomatch e
 |x::xs,y::ys=>match Kt.dec x y,Kt.decs xs ys with
  | .isTrue h,.isTrue g=>.isTrue (by rw [h,g])
  | .isFalse h,_=>.isFalse fun e=>h (by injection e)
  |_,.isFalse g=>.isFalse fun e=>g (by injection e)
end
noncomputable instance:DecidableEq Kt:=Kt.dec
mutual
noncomputable def uc (w:World):Kt->Int
 | .k x=>Yb w x
 | .t xs=>reduceHash (Builtin.Tuple.tupleHashOf (nA w xs))
noncomputable def nA (w:World):List Kt->List Int
 |[]=>[]
 |x::xs=>uc w x::nA w xs
end
mutual
noncomputable def rN:Kt->Nat
 | .k _=>1
 | .t xs=>eZ xs+1
noncomputable def eZ:List Kt->Nat
 |[]=>0
 |x::xs=>rN x+eZ xs
end
noncomputable def mJ (h:Heap):Nat->Kt->Value->Prop
 |_,.k x,v=>wU x v=true
 |0,.t _,_=>False
 |n+1,.t xs,v=>∃a o items m,v=.ref a/\h.get? a=some o/\o.cls=.type "tuple"/\o.data=.seq items m/\Paired (mJ h n) xs items.toList
theorem kJ {h:Heap}{n:Nat}{xs:List Kt}{v:Value}:mJ h (n+1) (.t xs) v↔∃a o items m,v=.ref a/\h.get? a=some o/\o.cls=.type "tuple"/\o.data=.seq items m/\Paired (mJ h n) xs items.toList:=by rw [mJ]
theorem pC {h:Heap}{n:Nat}{x:Key}{v:Value}:mJ h n (.k x) v↔wU x v=true:=by cases n <;> rw [mJ]
theorem zB {α β:Type}{F G:α->β->Prop}(f:∀a b,F a b->G a b):∀{l:List α} {m:List β},Paired F l m->Paired G l m
 |_,_,.nil=>.nil
 |_,_,.cons r t=>.cons (f _ _ r) (zB f t)
theorem za {α β:Type}{F:α->β->Prop}(f:∀x y b,F x b->F y b->x=y):∀{l l':List α} {m:List β},Paired F l m->Paired F l' m->l=l'
 |_,_,_,.nil,.nil=>rfl
 |_,_,_,.cons r t,.cons r' t'=>by rw [f _ _ _ r r',za f t t']
theorem ym {h:Heap}:∀(n:Nat) (x y:Kt) (v:Value),mJ h n x v->mJ h n y v->x=y
 |n,.k x,.k y,v,hx,hy=>by
  rw [pC] at hx hy
  rcases bV hx with ⟨i,t,rfl,rfl⟩ | ⟨z,t,rfl,rfl⟩
  ·rcases bV hy with ⟨j,u,rfl,e⟩ | ⟨y,u,rfl,e⟩
   ·injection e with e1 _; rw [e1]
   ·exact nomatch e
  ·rcases bV hy with ⟨j,u,rfl,e⟩ | ⟨y,u,rfl,e⟩
   ·exact nomatch e
   ·injection e with e1 _; rw [e1]
 |0,.t _,_,_,hx,_=>by rw [mJ] at hx; exact hx.elim
 |0,.k _,.t _,_,_,hy=>by rw [mJ] at hy; exact hy.elim
 |n+1,.k x,.t ys,v,hx,hy=>by
  rw [pC] at hx
  obtain ⟨a,_,_,_,e,_⟩:=kJ.mp hy
  subst e
  rcases bV hx with ⟨_,_,_,e⟩ | ⟨_,_,_,e⟩ <;> exact nomatch e
 |n+1,.t xs,.k y,v,hx,hy=>by
  rw [pC] at hy
  obtain ⟨a,_,_,_,e,_⟩:=kJ.mp hx
  subst e
  rcases bV hy with ⟨_,_,_,e⟩ | ⟨_,_,_,e⟩ <;> exact nomatch e
 |n+1,.t xs,.t ys,v,hx,hy=>by
  obtain ⟨a,o,it,m,e,g,_,d,p⟩:=kJ.mp hx
  obtain ⟨a',o',it',m',e',g',_,d',p'⟩:=kJ.mp hy
  subst e
  injection e' with e'
  subst e'
  cases g.symm.trans g'
  rw [d] at d'
  injection d' with d' _
  subst d'
  rw [za (ym n) p p']
theorem yu {h h':Heap}{d:Addr}{o:Obj}{es ep}(ho:h.get? d=some o)(hd:o.data=.dict es ep)(hs:Heap.SameBut d h h'):∀(n:Nat) (x:Kt) (v:Value),mJ h n x v->mJ h' n x v
 |n,.k x,v,hx=>by rw [pC] at hx ⊢; exact hx
 |0,.t _,_,hx=>by rw [mJ] at hx; exact hx.elim
 |n+1,.t xs,v,hx=>by
  obtain ⟨a,o',it,m,e,g,c,dd,p⟩:=kJ.mp hx
  have ne:a≠d:=by
   rintro rfl
   cases g.symm.trans ho
   rw [hd] at dd
   cases dd
  exact kJ.mpr ⟨a,o',it,m,e,(hs.2 a ne).trans g,c,dd,zB (yu ho hd hs n) p⟩
section
variable {pr:Program}{wo:World}{E:Value->Shared->Prop}
theorem wH (w:World):∀xs:List Kt,nA w xs=xs.map (uc w)
 |[]=>by rw [nA]; rfl
 |x::xs=>by rw [nA,wH w xs]; rfl
theorem uN:∀xs ys:List Kt,eZ (xs++ys)=eZ xs+eZ ys
 |[],ys=>by rw [List.nil_append,eZ,Nat.zero_add]
 |x::xs,ys=>by rw [List.cons_append,eZ,eZ,uN xs ys,Nat.add_assoc]
theorem Cw (x:Kt):eZ [x]=rN x:=by rw [eZ,eZ,Nat.add_zero]
theorem Al:∀(n:Nat) {A:Around} {s:Shared} {x:Kt} {v:Value} {Q:Int->Shared->Prop},A.units+n<cLine->mJ s.heap n x v->Q (uc wo x) { s with toks:=s.toks+rN x }->wpAny (model pr wo) A (pyHash v) Q E s
 |n,A,s,.k x,v,Q,hu,hx,q=>by
  rw [pC] at hx
  rw [uc,rN] at q
  exact (ji pr wo).pyHash hx q
 |0,_,_,.t _,_,_,_,hx,_=>by rw [mJ] at hx; exact hx.elim
 |n+1,A,s,.t xs,v,Q,hu,hx,h=>by
  obtain ⟨a,o,items,m,e,ho,hc,hd,hi⟩:=kJ.mp hx
  subst e
  have hT:s.TypeIs (.ref a) "tuple":=⟨o,ho,hc⟩
  rw [uc,rN] at h
  unfold pyHash
  first | unfold pyHashByItsType | skip
  first | refine wpAny_bind (wpAny_cRoomFor_or (.inr (by omega)) ?_) | skip
  refine wpAny_bind (wpAny_specialOf hT PySem.F.slot_tuple_hash.lookup ?_)
  show wpAny _ _ (if (some (Value.builtin "tuple.__hash__") == some Value.none)=true then _ else _) Q E s
  rw [if_neg (by rw [beq_builtin_none]; exact Bool.false_ne_true)]
  refine wpAny_bind (wpAny_specialOf hT PySem.F.slot_tuple_hash.lookup ?_)
  show wpAny _ _ (callSpecialIfBoundUnlessNone? (.ref a) "__hash__" _ >>= _) Q E s
  refine wpAny_bind (wpAny_callSpecialIfBoundUnlessNone?_slot hT PySem.F.slot_tuple_hash (wpAny_call_entry PySem.F.slot_tuple_hash hT PySem.F.entry_tuple_hash ?_ (PySem.F.args_tuple_hash_1 _)))
  show wpAny _ _ (Builtin.Tuple.tupleItemsOf (.ref a) >>= _) _ _ s
  refine wpAny_bind (wpAny_tupleItemsOf ho hd ?_)
  refine wpAny_bind ?_
  rw [← Array.forIn_toList]
  refine wpAny_forIn_list _
   (fun rest (b:Array Int) s'=>∃done left,xs=done++left/\Paired (mJ s.heap n) left rest/\b.toList=done.map (uc wo)/\s'={ s with toks:=s.toks+eZ done })
   _ ?_ ?_ _ _ ⟨[],xs,rfl,hi,rfl,by rw [eZ]; rfl⟩
  ·rintro x rest b s' ⟨done,left,rfl,hl,hb,rfl⟩
   cases hl with
   | @cons k _ ks' _ h1 hl'=>
    refine wpAny_bind (Al n (A:=A.in1) (show A.units+1+n<cLine by omega) (s:={ s with toks:=s.toks+eZ done }) h1 ?_)
    refine wpAny_pure ⟨done++[k],ks',by simp,hl',by simp [hb],?_⟩
    rw [uN,Cw,Nat.add_assoc]
  ·rintro b s' ⟨done,left,rfl,hl,hb,rfl⟩
   cases hl
   rw [List.append_nil] at h
   show wpAny _ _ (retInt (Builtin.Tuple.tupleHashOf b.toList)) _ _ _
   rw [hb,← wH]
   refine wpAny_ret_mkInt ?_
   show wpAny _ _ (if (decide (-(2:Int) ^ 63<=Builtin.Tuple.tupleHashOf (nA wo done)) && decide (Builtin.Tuple.tupleHashOf (nA wo done)<2 ^ 63))=true then _ else _) Q E _
   unfold reduceHash at h
   by_cases hr:(decide (-(2:Int) ^ 63<=Builtin.Tuple.tupleHashOf (nA wo done)) && decide (Builtin.Tuple.tupleHashOf (nA wo done)<2 ^ 63))=true
   ·rw [if_pos hr]
    rw [if_pos hr] at h
    exact wpAny_pure (by simpa [Nat.add_assoc] using h)
   ·rw [if_neg hr]
    rw [if_neg hr] at h
    exact wpAny_bind (wpAny_rule (wpAny_pure (by simpa [Nat.add_assoc] using h)))
noncomputable def qW (xs ys:List Kt)(j:Nat):Bool:=match xs[j]?,ys[j]? with
 |some x,some y=>decide (x=y)
 |_,_=>true
theorem zj:∀xs ys:List Kt,((List.range (min xs.length ys.length)).all (qW xs ys) && xs.length == ys.length)=decide (xs=ys)
 |[],[]=>by simp
 |[],_::_=>by simp
 |_::_,[]=>by simp
 |x::xs,y::ys=>by
  have ih:=zj xs ys
  rw [List.length_cons,List.length_cons,Nat.succ_min_succ,List.range_succ_eq_map,List.all_cons,List.all_map]
  have e:(qW (x::xs) (y::ys) ∘ Nat.succ)=qW xs ys:=by funext j; simp [qW]
  rw [e]
  have e0:qW (x::xs) (y::ys) 0=decide (x=y):=by simp [qW]
  rw [e0,Bool.and_assoc]
  have e1:((xs.length+1 == ys.length+1):Bool)=(xs.length == ys.length):=by simp
  rw [e1,ih]
  by_cases a:x=y <;> by_cases b:xs=ys <;> simp [a,b]
theorem vJ {α β:Type}{F:α->β->Prop}:∀{l:List α} {m:List β} (j:Nat) (h:j<m.length),Paired F l m->∃a,l[j]? = some a/\F a m[j]
 |_,_,j,h,.nil=>absurd h (Nat.not_lt_zero _)
 |_,_,0,_,.cons r _=>⟨_,rfl,r⟩
 |_,_,j+1,h,.cons _ t=>by
  obtain ⟨a,h1,h2⟩:=vJ j (by simpa using h) t
  exact ⟨a,by simpa using h1,by simpa using h2⟩
theorem Jl:∀(n:Nat) (A:Around) (s:Shared) (x y:Kt) (v u:Value),A.units+n<cLine->mJ s.heap n x v->mJ s.heap n y u->SeqAt.EqAt A s v u (decide (x=y))
 |n,A,s,.k x,.k y,v,u,hu,hx,hy=>by
  rw [pC] at hx hy
  intro pr wo E Q q
  refine (ji pr wo).eqBool (a:=x) (b:=y) hx hy ?_
  have e:decide (Kt.k x=Kt.k y)=decide (x=y):=decide_eq_decide.mpr ⟨fun e=>by injection e,fun e=>by rw [e]⟩
  rw [← e]
  exact q
 |0,_,_,.t _,_,_,_,_,hx,_=>by rw [mJ] at hx; exact hx.elim
 |0,_,_,.k _,.t _,_,_,_,_,hy=>by rw [mJ] at hy; exact hy.elim
 |n+1,A,s,.k x,.t ys,v,u,hu,hx,hy=>by
  rw [pC] at hx
  obtain ⟨a,o,it,m,e,g,c,d,_⟩:=kJ.mp hy
  subst e
  have hl:s.heap.IsTuple a it:=⟨o,g,c,m,d⟩
  rw [show decide (Kt.k x=Kt.t ys)=false from decide_eq_false fun e=>nomatch e]
  rcases bV hx with ⟨i,t,rfl,rfl⟩ | ⟨z,t,rfl,rfl⟩
  ·exact SeqAt.EqAt.int_tuple i t hl (by omega)
  ·exact SeqAt.EqAt.str_tuple z t hl (by omega)
 |n+1,A,s,.t xs,.k y,v,u,hu,hx,hy=>by
  rw [pC] at hy
  obtain ⟨a,o,it,m,e,g,c,d,_⟩:=kJ.mp hx
  subst e
  have hl:s.heap.IsTuple a it:=⟨o,g,c,m,d⟩
  rw [show decide (Kt.t xs=Kt.k y)=false from decide_eq_false fun e=>nomatch e]
  rcases bV hy with ⟨i,t,rfl,rfl⟩ | ⟨z,t,rfl,rfl⟩
  ·exact SeqAt.EqAt.tuple_int i t hl (by omega)
  ·exact SeqAt.EqAt.tuple_str z t hl (by omega)
 |n+1,A,s,.t xs,.t ys,v,u,hu,hx,hy=>by
  have hx':=hx
  have hy':=hy
  obtain ⟨a,o,it,m,e,g,c,d,p⟩:=kJ.mp hx
  obtain ⟨a',o',it',m',e',g',c',d',p'⟩:=kJ.mp hy
  subst e e'
  by_cases ne:a=a'
  ·subst ne
   rw [ym _ _ _ _ hx' hy',decide_eq_true rfl]
   exact SeqAt.EqAt.same _
  ·have hl:s.heap.IsTuple a it:=⟨o,g,c,m,d⟩
   have hl':s.heap.IsTuple a' it':=⟨o',g',c',m',d'⟩
   have n1:it.size=xs.length:=by have:=Paired.length p; simpa using this.symm
   have n2:it'.size=ys.length:=by have:=Paired.length p'; simpa using this.symm
   have e2:decide (Kt.t xs=Kt.t ys)=decide (xs=ys):=decide_eq_decide.mpr ⟨fun e=>by injection e,fun e=>by rw [e]⟩
   rw [e2,← zj xs ys,← n1,← n2]
   refine SeqAt.EqAt.of_refs ne (SeqAt.RcAt.tuples hl hl' (by omega) fun j j1 j2=>?_)
   obtain ⟨b,q1,q2⟩:=vJ j (by simpa using j1) p
   obtain ⟨b',r1,r2⟩:=vJ j (by simpa using j2) p'
   have:qW xs ys j=decide (b=b'):=by unfold qW; rw [q1,r1]
   rw [this]
   exact Jl n A.in1 s b b' _ _ (show A.units+1+n<cLine by omega) (by simpa using q2) (by simpa using r2)
theorem JD:∀(n:Nat) {A:Around} {s:Shared} {x:Kt} {v:Value} {Q:Bool->Shared->Prop},mJ s.heap n x v->Q true s->wpAny (model pr wo) A (eqIsQuiet n v) Q E s
 |n,A,s,.k x,v,Q,hx,q=>by
  rw [pC] at hx
  rw [eqIsQuiet_byValue _ ((ji pr wo).byValue _ _ hx)]
  exact wpAny_pure q
 |0,_,_,.t _,_,_,hx,_=>by rw [mJ] at hx; exact hx.elim
 |n+1,A,s,.t xs,v,Q,hx,h=>by
  obtain ⟨a,o,items,m,e,ho,hc,hd,hi⟩:=kJ.mp hx
  subst e
  have hT:s.TypeIs (.ref a) "tuple":=⟨o,ho,hc⟩
  unfold eqIsQuiet
  refine wpAny_bind (wpAny_specialOf hT PySem.F.slot_tuple_eq.lookup ?_)
  show wpAny _ _ (isInstance (.ref a) (.type "tuple") >>= _) _ _ s
  refine wpAny_bind (wpAny_isInstance hT isSubtype_tuple_tuple ?_)
  simp only [Bool.not_true,Bool.false_eq_true,if_false]
  refine wpAny_bind (wpAny_seqItems ho hd (wpAny_bind ?_))
  show wpAny _ _ (forIn items _ _) _ _ s
  rw [← Array.forIn_toList]
  refine wpAny_forIn_list _ (fun rest r s'=>r.1=none/\s'=s/\∃ks,Paired (mJ s.heap n) ks rest) _ ?_ ?_ _ _ ⟨rfl,rfl,xs,hi⟩
  ·rintro v rest r s' ⟨hr,rfl,ks,al⟩
   cases al with
   |cons h1 al'=>
    refine wpAny_bind (JD n h1 ?_)
    simp only [Bool.not_true,Bool.false_eq_true,if_false]
    exact wpAny_pure ⟨rfl,rfl,_,al'⟩
  ·rintro ⟨r1,r2⟩ s' ⟨hr,rfl,_⟩
   simp only at hr
   subst hr
   exact wpAny_pure h
end
noncomputable def jN (pr:Program)(wo:World):HeapKind pr wo (List Kt) where
 is:=fun h ks a=>mJ h 8 (.t ks) (.ref a)
 hash:=fun ks=>uc wo (.t ks)
 draws:=fun ks=>rN (.t ks)
 room:=fun A=>A.units+8<cLine
 inj:=fun a b=>by have:=ym _ _ _ _ a b; injection this
 keeps:=fun x a b c=>yu a b c _ _ _ x
 pyHash:=fun a b c=>Al 8 a b c
 eqBool:=fun {A E s x y a b Q} h1 h2 h3 h4=>by
  refine Jl 8 A s _ _ _ _ h1 h2 h3 _ _ _ _ ?_
  rw [show decide (Kt.t x=Kt.t y)=decide (x=y) from decide_eq_decide.mpr ⟨fun e=>by injection e,fun e=>by rw [e]⟩]
  exact h4
 quiet:=fun a b=>JD 8 a b
open PySem PySem.Spec PyProof.Rows
inductive V where
 |non | bl (b:Bool) | int (i:Int) | str (x:Str) | byt (b:Array UInt8) | flt (b:UInt64) | ref (a:Addr) | ty (n:String)
 deriving DecidableEq
noncomputable def RelV:V->Value->Prop
 | .non,u=>u=Value.none
 | .bl b,u=>u=Value.bool b
 | .int i,u=>∃t,u=Value.int i t
 | .str x,u=>∃t,u=Value.str x t
 | .byt b,u=>∃t,u=Value.bytes b t
 | .flt b,u=>∃t,u=Value.float b t
 | .ref a,u=>u=Value.ref a
 | .ty n,u=>u=Value.type n
noncomputable abbrev Vals:List V->List Value->Prop:=Paired RelV
theorem Vals.length {xs:List V}{us:List Value}(r:Vals xs us):xs.length=us.length:=Paired.length r
theorem Vals.get:∀{xs:List V} {us:List Value} {i:Nat} {x:V},Vals xs us->xs[i]? = some x->∃u,us[i]? = some u/\RelV x u
 |_,_,_,_,.nil,e=>by simp at e
 |_,_,0,_,.cons r _,e=>by simp at e; subst e; exact ⟨_,rfl,r⟩
 |_,_,i+1,x,.cons _ t,e=>by
  obtain ⟨u,h1,h2⟩:=Vals.get (i:=i) (x:=x) t (by simpa using e)
  exact ⟨u,by simpa using h1,h2⟩
theorem Vals.set {x:V}{u:Value}(r:RelV x u):∀{xs:List V} {us:List Value} (i:Nat),Vals xs us->Vals (xs.set i x) (us.set i u)
 |_,_,_,.nil=>.nil
 |_,_,0,.cons _ t=>.cons r t
 |_,_,i+1,.cons q t=>.cons q (Vals.set r i t)
theorem Vals.append:∀{xs ys:List V} {us ws:List Value},Vals xs us->Vals ys ws->Vals (xs++ys) (us++ws)
 |_,_,_,_,.nil,s=>s
 |_,_,_,_,.cons r t,s=>.cons r (Vals.append t s)
theorem Vals.take:∀{xs:List V} {us:List Value} (n:Nat),Vals xs us->Vals (xs.take n) (us.take n)
 |_,_,0,_=>.nil
 |_,_,_+1,.nil=>.nil
 |_,_,n+1,.cons r t=>.cons r (Vals.take n t)
theorem Vals.drop:∀{xs:List V} {us:List Value} (n:Nat),Vals xs us->Vals (xs.drop n) (us.drop n)
 |_,_,0,r=>r
 |_,_,_+1,.nil=>.nil
 |_,_,n+1,.cons _ t=>Vals.drop n t
noncomputable def vM:Option V->Option Value->Prop
 |some v,some u=>RelV v u
 |none,none=>True
 |_,_=>False
noncomputable def KV {κ:Type}:List (κ×V)->List (κ×Value)->Prop:=Paired fun (p:κ×V) (q:κ×Value)=>p.1=q.1/\RelV p.2 q.2
noncomputable def kV:Key->V
 | .inl i=>.int i
 | .inr x=>.str x
inductive HO where
  |lst (xs:List V)
  |tup (xs:List V)
  |dK (kvs:List (Key×V)) | dT (T:Addr->List V->Prop) (kvs:List (List Kt×V))
  |set (S:Int->Bool) (n:Nat)
  |ins (C dx:Addr) (fs:List (Str×V))
  |own (x:Addr)
  |xd (fs:List (Str×V))
  |met (f x:Addr)
  |rng (lo hi:Int)
  |frz (o:Obj) (u:HO)
  |tbl (ps:Array Value)
  |ext (φ:Heap->Prop)
noncomputable abbrev Hp:=Addr->Option HO
noncomputable def upd (H:Hp)(a:Addr)(o:HO):Hp:=fun b=>if b=a then some o else H b
theorem aZ {H:Hp}{a:Addr}{o:HO}:upd H a o a=some o:=by unfold upd; rw [if_pos rfl]
theorem cL {H:Hp}{a b:Addr}{o:HO}(h:b≠a):upd H a o b=H b:=by unfold upd; rw [if_neg h]
theorem Qk {H:Hp}{a b:Addr}{o u:HO}(h:H a=some o)(h':H b=some u)(d:o≠u):a≠b:=by
 intro e; subst e; rw [h] at h'; exact d (Option.some.inj h')
theorem lF {H:Hp}{a b:Addr}{o:HO}(h:H a=some o)(h':H b=none):a≠b:=by
 intro e; subst e; rw [h] at h'; cases h'
mutual
inductive wV (T:Addr->List V->Prop)(H:Hp):Nat->V->Kt->Prop where
 |k {n:Nat} {x:Key}:wV T H n (kV x) (.k x)
 |t {n:Nat} {b:Addr} {vs:List V} {ks:List Kt}:(H b=some (.tup vs)\/T b vs)->qG T H n vs ks->wV T H (n+1) (.ref b) (.t ks)
inductive qG (T:Addr->List V->Prop)(H:Hp):Nat->List V->List Kt->Prop where
 |nil {n:Nat}:qG T H n [] []
 |cons {n:Nat} {v:V} {vs:List V} {k:Kt} {ks:List Kt}:wV T H n v k->qG T H n vs ks->qG T H n (v::vs) (k::ks)
end
noncomputable def TrT (T:Addr->List V->Prop)(H:Hp)(b:Addr)(ks:List Kt):Prop:=∃vs,(H b=some (.tup vs)\/T b vs)/\qG T H 7 vs ks
section
variable {T:Addr->List V->Prop}{H H':Hp}
mutual
theorem wV.imp (ht:∀b xs,H b=some (.tup xs)->H' b=some (.tup xs)):∀{n:Nat} {v:V} {k:Kt},wV T H n v k->wV T H' n v k
 |_,_,_,.k=>.k
 |_,_,_,.t h hs=>.t (h.imp (ht _ _) id) (qG.imp ht hs)
theorem qG.imp (ht:∀b xs,H b=some (.tup xs)->H' b=some (.tup xs)):∀{n:Nat} {vs:List V} {ks:List Kt},qG T H n vs ks->qG T H' n vs ks
 |_,_,_,.nil=>.nil
 |_,_,_,.cons h hs=>.cons (wV.imp ht h) (qG.imp ht hs)
end
theorem TrT.imp {b:Addr}{ks:List Kt}(h:TrT T H b ks)(ht:∀b xs,H b=some (.tup xs)->H' b=some (.tup xs)):TrT T H' b ks:=
 let ⟨vs,h1,h2⟩:=h; ⟨vs,h1.imp (ht _ _) id,h2.imp ht⟩
end
section
variable (P:Program)(w:World)
noncomputable def dJ (H:Hp)(h:Heap)(a:Addr):HO->Prop
 | .lst xs=>xs.length<=sizeLine/\∃(its:List Value) (n:Nat),Vals xs its/\h.get? a=some { cls:=.type "list",data:=.seq its.toArray n }
 | .tup xs=>xs.length<=sizeLine/\∃its:List Value,Vals xs its/\IsTup h a its.toArray
 | .dK kvs=>kvs.length<=sizeLine/\(a == sysModules)=false/\∃vs,KV kvs vs/\h.DictOf (ji P w) a vs
 | .dT T kvs=>kvs.length<=sizeLine/\(a == sysModules)=false/\∃xs:List (List Kt×Addr×Value),
   Paired (fun (p:List Kt×V) (q:List Kt×Addr×Value)=>p.1=q.1/\TrT T H q.2.1 p.1/\RelV p.2 q.2.2) kvs xs/\
   ∃o es ep,h.get? a=some o/\o.ExactDict/\o.data=.dict es ep/\es.toList=xs.map (entryOfKey (jN P w))/\(xs.map (·.1)).Nodup
 | .set S n=>h.SetOf (intKind P w) a S n
 | .ins C dx fs=>H dx=some (.own a)/\fs.length<=1000/\dx≠a/\h.get? a=some (PySem.W.instObj C dx)/\
   ∃mA,h.Ns1 dx mA/\(∀f,vM (fs.lookup f) (mA f))/\PySem.Within mA (fs.map (·.1))
 | .own _=>∃o,h.get? a=some o
 | .xd fs=>∃mA,h.Ns1 a mA/\∀f,vM (fs.lookup f) (mA f)
 | .rng lo hi=>∃t u v,h.get? a=some { cls:=.type "range",data:=.fields #[.int lo t,.int hi u,.int 1 v] }
 | .frz o u=>h.get? a=some o/\dJ H h a u
 | .tbl ps=>h.get? a=some { cls:=.none,data:=.fields ps }
 | .met f x=>h.get? a=some (PySem.W.methodObj (.ref f) (.ref x))
 | .ext φ=>φ h/\(∃o,h.get? a=some o)/\∀h1 h2:Heap,φ h1->(∀o,h1.get? a=some o->h2.get? a=some o)->φ h2
noncomputable def HOk (H:Hp)(h:Heap):Prop:=∀a o,H a=some o->dJ P w H h a o
end
section
variable {P:Program}{w:World}{H H':Hp}{h h':Heap}{a:Addr}{o:HO}
theorem dJ.lt (x:dJ P w H h a o):a<h.objs.size:=by
 cases o with
 |lst xs=>obtain ⟨_,_,_,_,e⟩:=x; exact Heap.lt_size e
 |tup xs=>obtain ⟨_,_,_,p⟩:=x; exact p.lt
 |dK kvs=>obtain ⟨_,_,_,_,o,_,_,e,_⟩:=x; exact Heap.lt_size e
 |dT T kvs=>obtain ⟨_,_,_,_,o,_,_,e,_⟩:=x; exact Heap.lt_size e
 |set S n=>obtain ⟨o,_,_,_,e,_⟩:=x; exact Heap.lt_size e
 |ins C dx fs=>obtain ⟨_,_,_,e,_⟩:=x; exact Heap.lt_size e
 |own y=>obtain ⟨_,e⟩:=x; exact Heap.lt_size e
 |xd fs=>obtain ⟨_,⟨_,_,_,e,_⟩,_⟩:=x; exact Heap.lt_size e
 |rng lo hi=>obtain ⟨_,_,_,e⟩:=x; exact Heap.lt_size e
 |frz ob u=>obtain ⟨e,_⟩:=x; exact Heap.lt_size e
 |tbl ps=>exact Heap.lt_size (show h.get? a=some _ from x)
 |met f y=>exact Heap.lt_size (show h.get? a=some _ from x)
 |ext φ=>obtain ⟨_,⟨_,e⟩,_⟩:=x; exact Heap.lt_size e
theorem Paired.Wl {α β:Type}{F G:α->β->Prop}:∀{l₁:List α} {l₂:List β},Paired F l₁ l₂->(∀a b,F a b->G a b)->Paired G l₁ l₂
 |_,_,.nil,_=>.nil
 |_,_,.cons r t,f=>.cons (f _ _ r) (Paired.Wl t f)
theorem dJ.stay (x:dJ P w H h a o)(k:∀b u,(b=a\/H b=some (.own a))->h.get? b=some u->h'.get? b=some u)
  (ho:∀b,H b=some (.own a)->H' b=some (.own a)) (ht:∀b xs,H b=some (.tup xs)->H' b=some (.tup xs)):dJ P w H' h' a o:=by
 induction o with
 |lst xs=>obtain ⟨z,its,n,r,e⟩:=x; exact ⟨z,its,n,r,k _ _ (.inl rfl) e⟩
 |tup xs=>obtain ⟨z,its,r,ob,e,c⟩:=x; exact ⟨z,its,r,ob,k _ _ (.inl rfl) e,c⟩
 |dK kvs=>obtain ⟨z,y,vs,r,ob,es,ep,e,c⟩:=x; exact ⟨z,y,vs,r,ob,es,ep,k _ _ (.inl rfl) e,c⟩
 |dT T kvs=>
  obtain ⟨z,y,xs,r,ob,es,ep,e,c⟩:=x
  exact ⟨z,y,xs,Paired.Wl r fun p q z=>⟨z.1,z.2.1.imp ht,z.2.2⟩,ob,es,ep,k _ _ (.inl rfl) e,c⟩
 |set S n=>obtain ⟨ob,es,ep,t,e,c⟩:=x; exact ⟨ob,es,ep,t,k _ _ (.inl rfl) e,c⟩
 |ins C dx fs=>
  obtain ⟨d,z,ne,e,mA,⟨od,es,ep,e2,c⟩,r⟩:=x
  exact ⟨ho _ d,z,ne,k _ _ (.inl rfl) e,mA,⟨od,es,ep,k _ _ (.inr d) e2,c⟩,r⟩
 |own y=>obtain ⟨ob,e⟩:=x; exact ⟨ob,k _ _ (.inl rfl) e⟩
 |xd fs=>obtain ⟨mA,⟨od,es,ep,e,c⟩,r⟩:=x; exact ⟨mA,⟨od,es,ep,k _ _ (.inl rfl) e,c⟩,r⟩
 |rng lo hi=>obtain ⟨t,u,v,e⟩:=x; exact ⟨t,u,v,k _ _ (.inl rfl) e⟩
 |frz ob u ih=>obtain ⟨e,q⟩:=x; exact ⟨k _ _ (.inl rfl) e,ih q⟩
 |tbl ps=>
  have e:h.get? a=some { cls:=.none,data:=.fields ps }:=x
  show h'.get? a=some { cls:=.none,data:=.fields ps }
  exact k a _ (.inl rfl) e
 |met f y=>
  have e:h.get? a=some (PySem.W.methodObj (.ref f) (.ref y)):=x
  show h'.get? a=some (PySem.W.methodObj (.ref f) (.ref y))
  exact k a _ (.inl rfl) e
 |ext φ=>obtain ⟨p,⟨o,e⟩,st⟩:=x; exact ⟨st _ _ p fun o q=>k _ _ (.inl rfl) q,⟨o,k _ _ (.inl rfl) e⟩,st⟩
theorem HOk.lt (x:HOk P w H h)(e:H a=some o):a<h.objs.size:=(x a o e).lt
theorem HOk.fresh (x:HOk P w H h)(e:h.objs.size<=a):H a=none:=by
 cases q:H a with
 |none=>rfl
 |some u=>exact absurd (Nat.lt_of_lt_of_le (x.lt q) e) (Nat.lt_irrefl _)
theorem HOk.kept (x:HOk P w H h)(k:∀b u,h.get? b=some u->h'.get? b=some u):HOk P w H h':=fun a o e=>
 (x a o e).stay (fun b u _ q=>k b u q) (fun _ q=>q) fun _ _ q=>q
theorem HOk.laid (x:HOk P w H h)(k:∀b u,h.get? b=some u->h'.get? b=some u)(hp:h.objs.size<=a)(new:dJ P w (upd H a o) h' a o):HOk P w (upd H a o) h':=fun b u e=>by
 have hn:=x.fresh hp
 by_cases hb:b=a
 ·subst hb; rw [aZ] at e; cases e; exact new
 ·rw [cL hb] at e
  exact (x b u e).stay (fun c v _ q=>k c v q) (fun c q=>by rw [cL (lF q hn)]; exact q) fun c xs q=>by rw [cL (lF q hn)]; exact q
end
noncomputable def Rd (H:Hp)(a:Addr)(u:HO):Prop:=H a=some u\/∃o,H a=some (.frz o u)
theorem Rd.ok {P:Program}{w:World}{H:Hp}{h:Heap}{a:Addr}{u:HO}(r:Rd H a u)(x:HOk P w H h):dJ P w H h a u:=by
 rcases r with r | ⟨o,r⟩
 ·exact x a u r
 ·obtain ⟨_,q⟩:=x a _ r
  exact q
noncomputable def Mut:Option HO->Prop
 |some (.lst _)=>True
 |some (.dK _)=>True
 |some (.dT _ _)=>True
 |some (.set _ _)=>True
 |some (.ins _ _ _)=>True
 |some (.ext _)=>True
 |_=>False
section
variable {P:Program}{w:World}{H:Hp}{h h':Heap}{x e:Addr}{o':HO}
theorem HOk.write (ok:HOk P w H h)(mu:Mut (H x))(he:e=x\/H e=some (.own x))(k:∀b u,b≠e->h.get? b=some u->h'.get? b=some u)(heo:∃u,h'.get? e=some u)
  (new:dJ P w (upd H x o') h' x o'):HOk P w (upd H x o') h':=fun b u q=>by
 have nown:∀c y,H c=some (.own y)->c≠x:=fun c y r z=>by subst z; rw [r] at mu; exact mu
 have ntup:∀c xs,H c=some (.tup xs)->c≠x:=fun c xs r z=>by subst z; rw [r] at mu; exact mu
 by_cases hb:b=x
 ·subst hb; rw [aZ] at q; cases q; exact new
 ·rw [cL hb] at q
  by_cases hbe:b=e
  ·have q':H b=some (.own x):=by
    rcases he with z | z
    ·exact absurd (hbe.trans z) hb
    ·rw [hbe]; exact z
   rw [q] at q'; cases q'
   obtain ⟨v,hv⟩:=heo
   exact ⟨v,by rw [hbe]; exact hv⟩
  ·refine (ok b u q).stay (fun c v hc r=>k c v ?_ r) (fun c r=>by rw [cL (nown c b r)]; exact r) fun c xs r=>by rw [cL (ntup c xs r)]; exact r
   rcases hc with rfl | hc
   ·exact hbe
   ·rintro rfl
    rcases he with z | z
    ·exact nown c b hc z
    ·rw [hc] at z; cases z; exact hb rfl
end
structure Un (fs ex:List Addr)(H H':Hp)(h h':Heap):Prop where
 keep:∀b o,h.get? b=some o->H b=none->b∉fs->b∉ex->h'.get? b=some o
 slot:∀b o,h.get? b=some o->H b=none->b∈fs->b∉ex->∃sl,h'.get? b=some { o with slots:=sl }
 free:∀b o,h.get? b=some o->H b=none->b∉ex->H' b=none
 there:∀b o,h.get? b=some o->b∉ex->∃o',h'.get? b=some o'
 tups:∀b xs,H b=some (.tup xs)->H' b=some (.tup xs)
 frzs:∀b o u,H b=some (.frz o u)->H' b=some (.frz o u)
 tbls:∀b ps,H b=some (.tbl ps)->∃more,H' b=some (.tbl (ps++more))
section
variable {fs fs' ex ex':List Addr}{H H1 H2:Hp}{h h1 h2 h':Heap}{a x e:Addr}{o:HO}
theorem Un.any (u:Un fs ex H H1 h h1){b:Addr}{ob:Obj}(q:h.get? b=some ob)(n:H b=none)(hx:b∉ex):∃sl,h1.get? b=some { ob with slots:=sl }:=by
 by_cases hb:b∈fs
 ·exact u.slot b ob q n hb hx
 ·exact ⟨ob.slots,u.keep b ob q n hb hx⟩
theorem Un.kept (k:∀b u,h.get? b=some u->h'.get? b=some u):Un fs ex H H h h':=
 ⟨fun b ob q _ _ _=>k b ob q,fun b ob q _ _ _=>⟨ob.slots,k b ob q⟩,fun _ _ _ n _=>n,fun b ob q _=>⟨ob,k b ob q⟩,fun _ _ q=>q,fun _ _ _ q=>q,fun _ ps q=>⟨#[],by rw [q]; simp⟩⟩
theorem Un.refl:Un fs ex H H h h:=Un.kept fun _ _ q=>q
theorem Un.laid (k:∀b u,h.get? b=some u->h'.get? b=some u)(hp:h.objs.size<=a)(hn:H a=none):Un fs ex H (upd H a o) h h' where
 keep:=fun b u q _ _ _=>k b u q
 slot:=fun b u q _ _ _=>⟨u.slots,k b u q⟩
 free:=fun b u q n _=>by rw [cL (Nat.ne_of_lt (Nat.lt_of_lt_of_le (Heap.lt_size q) hp))]; exact n
 there:=fun b u q _=>⟨u,k b u q⟩
 tups:=fun b xs q=>by rw [cL (lF q hn)]; exact q
 frzs:=fun b u xs q=>by rw [cL (lF q hn)]; exact q
 tbls:=fun b ps q=>⟨#[],by rw [cL (lF q hn),q]; simp⟩
theorem Un.write (mu:Mut (H x))(he:e=x\/H e=some (.own x))(k:∀b u,b≠e->h.get? b=some u->h'.get? b=some u)(heo:∃u,h'.get? e=some u):Un fs ex H (upd H x o) h h':=by
 have hx:∀b,H b=none->b≠x:=fun b n z=>by subst z; rw [n] at mu; exact mu
 have hb:∀b,H b=none->b≠e:=fun b n z=>by
  subst z
  rcases he with r | r
  ·exact hx b n r
  ·rw [n] at r; cases r
 have hm:∀b u,H b=some u->¬Mut (some u)->b≠x:=fun b u q nm z=>by subst z; rw [q] at mu; exact nm mu
 refine ⟨fun b u q n _ _=>k b u (hb b n) q,fun b u q n _ _=>⟨u.slots,k b u (hb b n) q⟩,fun b u q n _=>by rw [cL (hx b n)]; exact n,fun b u q _=>?_,
  fun b xs q=>by rw [cL (hm b _ q fun z=>z)]; exact q,fun b u xs q=>by rw [cL (hm b _ q fun z=>z)]; exact q,fun b ps q=>⟨#[],by rw [cL (hm b _ q fun z=>z),q]; simp⟩⟩
 by_cases hbe:b=e
 ·subst hbe; exact heo
 ·exact ⟨u,k b u hbe q⟩
end
noncomputable def trk (h:Heap)(H:Hp):List Addr:=(List.range h.objs.size).filter fun a=>(H a).isSome
noncomputable def Ci (h:Heap)(H:Hp):Heap:=PySem.W.hideAll h (trk h H)
theorem KN (h:Heap)(H:Hp):(Ci h H).objs.size=h.objs.size:=PySem.W.hideAll_size _ _
theorem M5 {h:Heap}{H:Hp}{b:Addr}{o:Obj}(e:h.get? b=some o)(n:H b=none):(Ci h H).get? b=some o:=
 PySem.W.hideAll_get _ e fun hm=>by
  have q:(H b).isSome=true:=(List.mem_filter.mp hm).2
  rw [n] at q; simp at q
theorem Ri {h:Heap}{H:Hp}{b:Addr}{o:Obj}(e:(Ci h H).get? b=some o):h.get? b=some o/\H b=none:=by
 have e':h.get? b=some o:=PySem.W.of_hideAll (trk h H) e
 refine ⟨e',?_⟩
 cases q:H b with
 |none=>rfl
 |some x=>
  have hm:b∈trk h H:=List.mem_filter.mpr ⟨List.mem_range.mpr (Heap.lt_size e'),by simp [q]⟩
  have z:(Ci h H).get? b=none:=PySem.W.hideAll_none (trk h H) hm
  rw [z] at e; cases e
noncomputable def SM (g h:Heap)(L:Addr):List (Addr×Obj):=(List.range h.objs.size).filterMap fun a=>if a=L\/(g.get? a).isSome=true then none else (h.get? a).map fun o=>(a,o)
noncomputable def rest (g h:Heap)(L d:Addr):List (Addr×Obj):=(SM g h L).filter fun p=>decide (p.1≠d)
open PySem PySem.Spec PyProof.Rows
structure Mod (K:W.Frag)(mg:Str->Option Value)(base:Heap):Prop where
 kin:K.In base
 glob:base.Ns mainGlobals mg
 blt:∃mb,base.Ns builtinsNs mb/\∀x:Str,x≠"__name__"->mb x=bootBuiltins x
 nolimit:base.NoLimit
structure Cx where
 prog:Program
 w:World
 K:W.Frag
 mg:Str->Option Value
 base:Heap
 A:Around
 N:List Str
 s₀:Shared
 H₀:Hp
 env:Env
 outer:List Env
 stack:List Env
 ex:List Addr
 fn:Str->Bool
 calm:Bool
 pn:List (Addr×Obj)
 xe:Value->Shared->Prop
noncomputable def frs (l:List Env):List Addr:=l.filterMap (·.frame)
noncomputable abbrev Cx.fs (X:Cx):List Addr:=frs X.outer
noncomputable def Vis (sc:Scope)(x:Str):Prop:=sc.names.lookup x=some .local\/sc.names.lookup x=some .cell\/sc.names.lookup x=some .free
noncomputable def Loc (sc:Scope)(x:Str):Prop:=sc.names.lookup x=some .local\/sc.names.lookup x=some .cell
noncomputable def Look (env:Env)(h:Heap)(m:Str->Option Value)(x:Str)(u:Value):Prop:=
 (env.kindOf x=some .local/\m x=some u)\/((env.kindOf x=some .cell\/env.kindOf x=some .free)/\∃c,env.cells.lookup x=some c/\h.IsCell c (some u))
structure Cx.Ok (X:Cx):Prop where
 mod:Mod X.K X.mg X.base
 kind:X.env.scope.kind=.function
 glob:X.env.globals=mainGlobals
 blt:X.env.builtins=builtinsNs
 above:X.s₀.heap.objs.size<=X.env.locals
 inj:∀x y c,X.env.cells.lookup x=some c->X.env.cells.lookup y=some c->x=y
 has:∀x,(X.env.kindOf x=some .cell\/X.env.kindOf x=some .free)->∃c,X.env.cells.lookup x=some c
 cab:∀x c,X.fn x=true->X.env.cells.lookup x=some c->X.s₀.heap.objs.size<=c
 hd:X.calm=true->X.A.handled=none
 frames:X.A.frames=some X.stack
 stk:X.stack=X.outer\/(X.stack=X.env::X.outer/\X.env.frame=some X.env.locals)
 exf:∀b∈X.ex,b≠X.env.locals/\∀x c,X.env.cells.lookup x=some c->c≠b
 bs:∀b o,X.base.get? b=some o->X.s₀.heap.get? b=some o/\X.H₀ b=none
 bsz:X.base.objs.size<=X.s₀.heap.objs.size
 noex:∀b o,X.base.get? b=some o->b∉X.ex
 exfs:∀b∈X.ex,b∉X.fs
 wX:X.s₀.heap.FunFrames X.base X.outer
 frf:∀b∈X.fs,X.H₀ b=none
structure Inv (X:Cx)(pins:List (Addr×Obj))(σ:List (Option V))(H:Hp)(s:Shared):Prop where
 ok:X.Ok
 os:s.os=X.s₀.os
 bare:AllBare s.gens
 base:Un X.fs X.ex X.H₀ H X.s₀.heap s.heap
 loc:∃m,s.heap.Ns X.env.locals m/\∀(i:Nat) (x:Str) (v:V),X.N[i]? = some x->σ[i]? = some (some v)->Vis X.env.scope x->∃u,RelV v u/\Look X.env s.heap m x u
 cell:∀x c,X.env.cells.lookup x=some c->∃v,s.heap.IsCell c v
 free:H X.env.locals=none
 freeC:∀x c,X.env.cells.lookup x=some c->H c=none
 pin:∀p∈X.pn++pins,s.heap.get? p.1=some p.2/\H p.1=none/\p.1≠X.env.locals/\p.1∉X.fs/\∀v,p.2.data≠.cell v
 hok:HOk X.prog X.w H s.heap
 len:σ.length=X.N.length
section
variable {X:Cx}{pins:List (Addr×Obj)}{σ:List (Option V)}{H H':Hp}{s:Shared}{h':Heap}
theorem Cx.Ok.Y6 (ok:X.Ok){b:Addr}{o:Obj}(e:X.base.get? b=some o):b∉X.fs:=fun hb=>by
 have:=(ok.wX.mem hb).1
 rw [e] at this; cases this
theorem Inv.bs (I:Inv X pins σ H s):∀b o,X.base.get? b=some o->s.heap.get? b=some o/\H b=none:=fun b o e=>
 ⟨I.base.keep b o (I.ok.bs b o e).1 (I.ok.bs b o e).2 (I.ok.Y6 e) (I.ok.noex b o e),I.base.free b o (I.ok.bs b o e).1 (I.ok.bs b o e).2 (I.ok.noex b o e)⟩
theorem Inv.bk (I:Inv X pins σ H s):∀b o,X.base.get? b=some o->s.heap.get? b=some o:=fun b o e=>(I.bs b o e).1
theorem Inv.mod (I:Inv X pins σ H s):Mod X.K X.mg X.base:=I.ok.mod
theorem Inv.kIn (I:Inv X pins σ H s):X.K.In s.heap:=I.ok.mod.kin.keeps I.bk
theorem Inv.nolimit (I:Inv X pins σ H s):s.heap.NoLimit:=I.ok.mod.nolimit.keeps I.bk
theorem Inv.fr (I:Inv X pins σ H s):∃m,Fr X.base X.env.locals s.heap m:=
 let ⟨m,hn,_⟩:=I.loc
 ⟨m,hn,I.bk,Nat.le_trans I.ok.bsz I.ok.above⟩
theorem Inv.lt (I:Inv X pins σ H s):X.env.locals<s.heap.objs.size:=let ⟨_,hn,_⟩:=I.loc; hn.lt
theorem Inv.sz (I:Inv X pins σ H s):X.s₀.heap.objs.size<=s.heap.objs.size:=Nat.le_trans I.ok.above (Nat.le_of_lt I.lt)
theorem Inv.Y8 (I:Inv X pins σ H s){a:Addr}(h:s.heap.objs.size<=a):a∉X.fs:=fun hb=>by
 obtain ⟨_,o,ho,_⟩:=I.ok.wX.mem hb
 exact absurd (Nat.lt_of_lt_of_le (Heap.lt_size ho) (Nat.le_trans I.sz h)) (Nat.lt_irrefl _)
theorem Inv.cne (I:Inv X pins σ H s):∀x c,X.env.cells.lookup x=some c->c≠X.env.locals:=fun x c e z=>by
 obtain ⟨v,o,ho,hd⟩:=I.cell x c e
 obtain ⟨m,⟨o',es,ep,ho',hd',_⟩,_⟩:=I.loc
 rw [z,ho'] at ho; cases ho; rw [hd'] at hd; cases hd
theorem Inv.wX (I:Inv X pins σ H s):s.heap.FunFrames X.base X.outer:=by
 have all:∀(l:List Env),(∀b∈frs l,b∈X.fs)->X.s₀.heap.FunFrames X.base l->s.heap.FunFrames X.base l:=by
  intro l
  induction l with
  |nil=>intro _ _; trivial
  |cons env r ih=>
   intro hs hl
   obtain ⟨hk,⟨L,o,hf,hn,ho,hd⟩,hr⟩:=hl
   have hL:L∈X.fs:=hs L (by unfold frs; rw [List.filterMap_cons,hf]; exact List.mem_cons_self)
   obtain ⟨sl,e⟩:=I.base.slot L o ho (I.ok.frf L hL) hL fun z=>I.ok.exfs L z hL
   exact ⟨hk,⟨L,_,hf,hn,e,hd⟩,ih (fun b hb=>hs b (by unfold frs; rw [List.filterMap_cons,hf]; exact List.mem_cons_of_mem _ hb)) hr⟩
 exact all X.outer (fun _ hb=>hb) I.ok.wX
theorem Inv.stack (I:Inv X pins σ H s):s.heap.FunFrames X.base X.stack:=by
 rcases I.ok.stk with e | ⟨e,hf⟩
 ·rw [e]; exact I.wX
 ·rw [e]
  obtain ⟨m,hn,_⟩:=I.loc
  refine .cons (by rw [I.ok.kind]; decide) hf hn ?_ I.wX
  exact Heap.get?_none_of_le (Nat.le_trans I.ok.bsz I.ok.above)
theorem Inv.Dk (I:Inv X pins σ H s):∀b∈frs X.stack,b∈X.env.locals::X.fs:=fun b hb=>by
 rcases I.ok.stk with e | ⟨e,hf⟩
 ·rw [e] at hb; exact List.mem_cons_of_mem _ hb
 ·rw [e] at hb
  unfold frs at hb
  rw [List.filterMap_cons,hf] at hb
  exact hb
theorem Inv.Jf (I:Inv X pins σ H s):∀b∈frs X.stack,H b=none:=fun b hb=>by
 rcases List.mem_cons.mp (I.Dk b hb) with e | hb
 ·rw [e]; exact I.free
 ·obtain ⟨_,o,ho,_⟩:=I.ok.wX.mem hb
  exact I.base.free b o ho (I.ok.frf b hb) fun z=>I.ok.exfs b z hb
theorem Inv.step {g':Array GenState}{t':Nat}{d':Drawn}{ch:List Addr}(I:Inv X pins σ H s)
  (hch:∀b∈ch,(b∈X.ex\/X.s₀.heap.objs.size<=b)/\b≠X.env.locals/\(∀x c,X.env.cells.lookup x=some c->c≠b)/\∀p∈X.pn++pins,p.1≠b)
  (keep:∀b o,b≠X.env.locals->b∉X.fs->b∉ch->s.heap.get? b=some o->H b=none->h'.get? b=some o)
  (slot:∀b o,b≠X.env.locals->b∈X.fs->b∉ch->s.heap.get? b=some o->H b=none->∃sl,h'.get? b=some { o with slots:=sl }) (free:∀b o,b∉ch->s.heap.get? b=some o->H b=none->H' b=none)
  (there:∀b o,b∉ch->s.heap.get? b=some o->∃o',h'.get? b=some o')
  (tups:∀b xs,H b=some (.tup xs)->H' b=some (.tup xs)) (frzs:∀b o u,H b=some (.frz o u)->H' b=some (.frz o u)) (tbls:∀b ps,H b=some (.tbl ps)->∃more,H' b=some (.tbl (ps++more)))
  (ns:∀m,s.heap.Ns X.env.locals m->h'.Ns X.env.locals m) (hok:HOk X.prog X.w H' h') (hg:AllBare g'):
  Inv X pins σ H' { s with heap:=h',gens:=g',drawn:=d',toks:=t' }:=by
 have neL:∀b o,X.s₀.heap.get? b=some o->b≠X.env.locals:=fun b o e=>Nat.ne_of_lt (Nat.lt_of_lt_of_le (Heap.lt_size e) I.ok.above)
 have neC:∀b o,X.s₀.heap.get? b=some o->b∉X.ex->b∉ch:=fun b o e hx hb=>by
  rcases (hch b hb).1 with z | z
  ·exact hx z
  ·exact absurd (Nat.lt_of_lt_of_le (Heap.lt_size e) z) (Nat.lt_irrefl _)
 have cellK:∀x c,X.env.cells.lookup x=some c->∀v,s.heap.IsCell c v->h'.IsCell c v:=fun x c e v ⟨o,ho,hd⟩=>by
  have nch:c∉ch:=fun z=>(hch c z).2.2.1 x c e rfl
  by_cases hc:c∈X.fs
  ·obtain ⟨sl,q⟩:=slot c o (I.cne x c e) hc nch ho (I.freeC x c e)
   exact ⟨_,q,hd⟩
  ·exact ⟨o,keep c o (I.cne x c e) hc nch ho (I.freeC x c e),hd⟩
 refine ⟨I.ok,I.os,hg,⟨fun b o e n hb hx=>?_,fun b o e n hb hx=>?_,fun b o e n hx=>?_,fun b o e hx=>?_,fun b xs e=>tups b xs (I.base.tups b xs e),fun b o xs e=>frzs b o xs (I.base.frzs b o xs e),fun b ps e=>?_⟩,?_,fun x c e=>?_,?_,fun x c e=>?_,fun p hp=>?_,hok,I.len⟩
 ·exact keep b o (neL b o e) hb (neC b o e hx) (I.base.keep b o e n hb hx) (I.base.free b o e n hx)
 ·obtain ⟨sl,e1⟩:=I.base.slot b o e n hb hx
  obtain ⟨sl',e2⟩:=slot b _ (neL b o e) hb (neC b o e hx) e1 (I.base.free b o e n hx)
  exact ⟨sl',e2⟩
 ·obtain ⟨o',e1⟩:=I.base.there b o e hx
  exact free b o' (neC b o e hx) e1 (I.base.free b o e n hx)
 ·obtain ⟨o',e1⟩:=I.base.there b o e hx
  exact there b o' (neC b o e hx) e1
 ·obtain ⟨m1,e1⟩:=I.base.tbls b ps e
  obtain ⟨m2,e2⟩:=tbls b _ e1
  exact ⟨m1++m2,by rw [e2,Array.append_assoc]⟩
 ·obtain ⟨m,hn,hl⟩:=I.loc
  refine ⟨m,ns m hn,fun i x v e1 e2 e3=>?_⟩
  obtain ⟨u,r,l⟩:=hl i x v e1 e2 e3
  refine ⟨u,r,?_⟩
  rcases l with l | ⟨k,c,e,z⟩
  ·exact .inl l
  ·exact .inr ⟨k,c,e,cellK x c e _ z⟩
 ·obtain ⟨v,z⟩:=I.cell x c e
  exact ⟨v,cellK x c e v z⟩
 ·obtain ⟨m,⟨o,_,_,ho,_⟩,_⟩:=I.loc
  exact free _ o (fun z=>(hch _ z).2.1 rfl) ho I.free
 ·obtain ⟨v,o,ho,hd⟩:=I.cell x c e
  exact free c o (fun z=>(hch c z).2.2.1 x c e rfl) ho (I.freeC x c e)
 ·obtain ⟨e,n,ne,nf,d⟩:=I.pin p hp
  have nch:p.1∉ch:=fun z=>(hch p.1 z).2.2.2 p hp rfl
  exact ⟨keep p.1 p.2 ne nf nch e n,free p.1 p.2 nch e n,ne,nf,d⟩
theorem Inv.un {t':Nat}(I:Inv X pins σ H s)(u:Un X.fs [] H H' s.heap h')(hok:HOk X.prog X.w H' h'):Inv X pins σ H' { s with heap:=h',toks:=t' }:=by
 obtain ⟨m,⟨o,es,ep,ho,r⟩,_⟩:=id I.loc
 obtain ⟨sl,hL⟩:=u.any ho I.free (by simp)
 exact I.step (g':=s.gens) (d':=s.drawn) (ch:=[]) (fun _ z=>nomatch z) (fun b o _ hb _ e n=>u.keep b o e n hb (by simp)) (fun b o _ hb _ e n=>u.slot b o e n hb (by simp)) (fun b o _ e n=>u.free b o e n (by simp)) (fun b o _ e=>u.there b o e (by simp)) u.tups u.frzs u.tbls (fun m' hm=>by
  obtain ⟨o',es',ep',ho',r'⟩:=hm
  rw [ho] at ho'; cases ho'
  exact ⟨_,es',ep',hL,r'⟩) hok I.bare
theorem Inv.call {g':Array GenState}{t':Nat}{d':Drawn}{ch:List Addr}(I:Inv X pins σ H s)(u:Un (frs X.stack) ch H H' s.heap h')(hok:HOk X.prog X.w H' h')(hg:AllBare g')
  (hch:∀b∈ch,(b∈X.ex\/X.s₀.heap.objs.size<=b)/\b≠X.env.locals/\(∀x c,X.env.cells.lookup x=some c->c≠b)/\∀p∈X.pn++pins,p.1≠b):
  Inv X pins σ H' { s with heap:=h',gens:=g',drawn:=d',toks:=t' }:=by
 obtain ⟨m,⟨o,es,ep,ho,r⟩,_⟩:=id I.loc
 obtain ⟨sl,hL⟩:=u.any ho I.free fun z=>(hch _ z).2.1 rfl
 exact I.step (ch:=ch) hch (fun b o hL hb hc e n=>u.keep b o e n (fun z=>(List.mem_cons.mp (I.Dk b z)).elim hL hb) hc) (fun b o _ _ hc e n=>u.any e n hc) (fun b o hc e n=>u.free b o e n hc) (fun b o hc e=>u.there b o e hc) u.tups u.frzs u.tbls (fun m' hm=>by
  obtain ⟨o',es',ep',ho',r'⟩:=hm
  rw [ho] at ho'; cases ho'
  exact ⟨_,es',ep',hL,r'⟩) hok hg
theorem Inv.turned {t':Nat}{it:Addr}(I:Inv X pins σ H s)(k:∀b o,b≠it->s.heap.get? b=some o->h'.get? b=some o)(hn:H it=none)(hL:it≠X.env.locals)
  (h1:it∈X.ex\/X.s₀.heap.objs.size<=it) (h2:∀x c,X.env.cells.lookup x=some c->c≠it) (h3:∀p∈X.pn++pins,p.1≠it):Inv X pins σ H { s with heap:=h',toks:=t' }:=by
 have nit:∀b u,H b=some u->b≠it:=fun b u e z=>by rw [z,hn] at e; cases e
 refine I.step (g':=s.gens) (d':=s.drawn) (ch:=[it]) (fun b hb=>?_) (fun b o _ _ hc e _=>k b o (fun z=>hc (by simp [z])) e) (fun b o _ _ hc e _=>⟨o.slots,k b o (fun z=>hc (by simp [z])) e⟩) (fun _ _ _ _ n=>n)
  (fun b o hc e=>⟨o,k b o (fun z=>hc (by simp [z])) e⟩) (fun _ _ e=>e) (fun _ _ _ e=>e) (fun b ps e=>⟨#[],by rw [e]; simp⟩) (fun m hm=>?_) (fun b u e=>?_) I.bare
 ·have e:b=it:=by simpa using hb
  subst e
  exact ⟨h1,hL,h2,h3⟩
 ·obtain ⟨o,es,ep,ho,r⟩:=hm
  exact ⟨o,es,ep,k _ o (Ne.symm hL) ho,r⟩
 ·refine (I.hok b u e).stay (fun c v hc q=>k c v ?_ q) (fun _ q=>q) fun _ _ q=>q
  rcases hc with z | z
  ·rw [z]; exact nit b u e
  ·exact nit c _ z
theorem Inv.tok (I:Inv X pins σ H s)(t:Nat):Inv X pins σ H { s with toks:=t }:=I.un (h':=s.heap) (t':=t) Un.refl I.hok
theorem Inv.kept {t':Nat}(I:Inv X pins σ H s)(k:∀b u,s.heap.get? b=some u->h'.get? b=some u):Inv X pins σ H { s with heap:=h',toks:=t' }:=I.un (Un.kept k) (I.hok.kept k)
theorem Inv.laid {a:Addr}{o:HO}{t':Nat}(I:Inv X pins σ H s)(k:∀b u,s.heap.get? b=some u->h'.get? b=some u)(hp:s.heap.objs.size<=a)(new:dJ X.prog X.w (upd H a o) h' a o):
  Inv X pins σ (upd H a o) { s with heap:=h',toks:=t' }:=I.un (Un.laid k hp (I.hok.fresh hp)) (I.hok.laid k hp new)
theorem Inv.write {x e:Addr}{o:HO}{t':Nat}(I:Inv X pins σ H s)(mu:Mut (H x))(he:e=x\/H e=some (.own x))(k:∀b u,b≠e->s.heap.get? b=some u->h'.get? b=some u)(heo:∃u,h'.get? e=some u)
  (new:dJ X.prog X.w (upd H x o) h' x o):Inv X pins σ (upd H x o) { s with heap:=h',toks:=t' }:=I.un (Un.write mu he k heo) (I.hok.write mu he k heo new)
theorem Inv.weak {σ':List (Option V)}(I:Inv X pins σ H s)(hl:σ'.length=σ.length)(w:∀(i:Nat) v,σ'[i]? = some (some v)->σ[i]? = some (some v)):Inv X pins σ' H s:=
 ⟨I.ok,I.os,I.bare,I.base,let ⟨m,hn,hl'⟩:=I.loc; ⟨m,hn,fun i x v e1 e2 e3=>hl' i x v e1 (w i v e2) e3⟩,I.cell,I.free,I.freeC,I.pin,I.hok,hl.trans I.len⟩
theorem Inv.JM {pins':List (Addr×Obj)}(I:Inv X pins σ H s)(h:∀p∈pins',s.heap.get? p.1=some p.2/\H p.1=none/\p.1≠X.env.locals/\p.1∉X.fs/\∀v,p.2.data≠.cell v):Inv X pins' σ H s:=
 ⟨I.ok,I.os,I.bare,I.base,I.loc,I.cell,I.free,I.freeC,fun p hp=>(List.mem_append.mp hp).elim (fun z=>I.pin p (List.mem_append_left _ z)) (h p),I.hok,I.len⟩
theorem Dw {N:List Str}(hN:N.Nodup){i j:Nat}{x:Str}(a:N[i]? = some x)(b:N[j]? = some x):i=j:=by
 obtain ⟨h1,e1⟩:=List.getElem?_eq_some_iff.mp a
 obtain ⟨h2,e2⟩:=List.getElem?_eq_some_iff.mp b
 exact (List.getElem_inj hN).mp (e1.trans e2.symm)
theorem zW {M:Model}{A:Around}{E:Value->Shared->Prop}{i:Nat}{x:Str}{v:V}{u:Value}{Q:Unit->Shared->Prop}(I:Inv X pins σ H s)(hN:X.N.Nodup)(hi:X.N[i]? = some x)(hx:Loc X.env.scope x)(r:RelV v u)
  (h:∀s',Inv X pins (σ.set i (some v)) H s'->(∃a,Heap.SameBut a s.heap s'.heap/\(a=X.env.locals\/X.env.cells.lookup x=some a))->Q () s') (hf:X.fn x=true\/X.env.scope.names.lookup x=some .local:=by first | exact .inl rfl | exact .inr rfl | assumption):wpAny M A (storeName X.env x u) Q E s:=by
 obtain ⟨m,hn,hl⟩:=id I.loc
 have hcls:(X.env.scope.kind == .class || (X.env.scope.kind == .module && X.env.locals != X.env.globals))=false:=by rw [I.ok.kind]; rfl
 have hiσ:i<σ.length:=by rw [I.len]; exact (List.getElem?_eq_some_iff.mp hi).1
 have cne:=I.cne
 have tracked:∀{a:Addr} {h':Heap},(∃o,s.heap.get? a=some o/\H a=none)->Heap.SameBut a s.heap h'->HOk X.prog X.w H h':=fun {a h'} ha hs b ob e=>by
  obtain ⟨_,_,hfree⟩:=ha
  refine (I.hok b ob e).stay (fun c w' hc q=>(hs.2 c ?_).trans q) (fun _ q=>q) fun _ _ q=>q
  rintro rfl
  rcases hc with rfl | hc
  ·rw [hfree] at e; cases e
  ·rw [hfree] at hc; cases hc
 rcases hx with hk | hk
 ·refine wpAny_storeName_local hk hn (fun h' hn' hs=>?_) hcls
  obtain ⟨oL,_,_,hoL,_⟩:=id hn
  refine h _ ⟨I.ok,I.os,I.bare,⟨fun b o e n hb hx=>?_,fun b o e n hb hx=>?_,I.base.free,fun b o e hx=>?_,I.base.tups,I.base.frzs,I.base.tbls⟩,⟨_,hn',fun j y v' e1 e2 e3=>?_⟩,fun y c e=>?_,I.free,I.freeC,fun p hp=>?_,tracked ⟨oL,hoL,I.free⟩ hs,by simpa using I.len⟩ ⟨_,hs,.inl rfl⟩
  ·exact (hs.2 b (Nat.ne_of_lt (Nat.lt_of_lt_of_le (Heap.lt_size e) I.ok.above))).trans (I.base.keep b o e n hb hx)
  ·obtain ⟨sl,e1⟩:=I.base.slot b o e n hb hx
   exact ⟨sl,(hs.2 b (Nat.ne_of_lt (Nat.lt_of_lt_of_le (Heap.lt_size e) I.ok.above))).trans e1⟩
  ·obtain ⟨o',e1⟩:=I.base.there b o e hx
   exact ⟨o',(hs.2 b (Nat.ne_of_lt (Nat.lt_of_lt_of_le (Heap.lt_size e) I.ok.above))).trans e1⟩
  ·by_cases hj:j=i
   ·subst hj
    rw [hi] at e1; cases e1
    rw [List.getElem?_set_self hiσ] at e2
    cases e2
    exact ⟨u,r,.inl ⟨hk,by simp⟩⟩
   ·rw [List.getElem?_set_ne (Ne.symm hj)] at e2
    obtain ⟨u',r',q⟩:=hl j y v' e1 e2 e3
    refine ⟨u',r',?_⟩
    rcases q with ⟨k,e⟩ | ⟨k,c,e,z⟩
    ·refine .inl ⟨k,?_⟩
     have:y≠x:=fun e=>hj (Dw hN e1 (e ▸ hi))
     simp [this,e]
    ·exact .inr ⟨k,c,e,z.sameBut hs (cne y c e)⟩
  ·obtain ⟨w',z⟩:=I.cell y c e
   exact ⟨w',z.sameBut hs (cne y c e)⟩
  ·obtain ⟨e,n,ne,nf,d⟩:=I.pin p hp
   exact ⟨(hs.2 p.1 ne).trans e,n,ne,nf,d⟩
 ·have hfn:X.fn x=true:=by
   rcases hf with z | z
   ·exact z
   ·rw [z] at hk; cases hk
  obtain ⟨c,hc⟩:=I.ok.has x (.inl hk)
  obtain ⟨w',z⟩:=I.cell x c hc
  refine wpAny_storeName_cell I.ok.kind hk hc z (fun h' hc' hs=>?_)
  obtain ⟨oc,hoc,hocd⟩:=id z
  refine h { s with heap:=h' } ⟨I.ok,I.os,I.bare,⟨fun b o e n hb hx=>?_,fun b o e n hb hx=>?_,I.base.free,fun b o e hx=>?_,I.base.tups,I.base.frzs,I.base.tbls⟩,⟨m,hn.sameBut hs (Ne.symm (cne x c hc)),fun j y v' e1 e2 e3=>?_⟩,fun y c' e=>?_,I.free,I.freeC,fun p hp=>?_,tracked ⟨oc,hoc,I.freeC x c hc⟩ hs,by simpa using I.len⟩ ⟨c,hs,.inr hc⟩
  ·exact (hs.2 b (Nat.ne_of_lt (Nat.lt_of_lt_of_le (Heap.lt_size e) (I.ok.cab x c hfn hc)))).trans (I.base.keep b o e n hb hx)
  ·obtain ⟨sl,e1⟩:=I.base.slot b o e n hb hx
   exact ⟨sl,(hs.2 b (Nat.ne_of_lt (Nat.lt_of_lt_of_le (Heap.lt_size e) (I.ok.cab x c hfn hc)))).trans e1⟩
  ·obtain ⟨o',e1⟩:=I.base.there b o e hx
   exact ⟨o',(hs.2 b (Nat.ne_of_lt (Nat.lt_of_lt_of_le (Heap.lt_size e) (I.ok.cab x c hfn hc)))).trans e1⟩
  ·by_cases hj:j=i
   ·subst hj
    rw [hi] at e1; cases e1
    rw [List.getElem?_set_self hiσ] at e2
    cases e2
    exact ⟨u,r,.inr ⟨.inl hk,c,hc,hc'⟩⟩
   ·rw [List.getElem?_set_ne (Ne.symm hj)] at e2
    obtain ⟨u',r',q⟩:=hl j y v' e1 e2 e3
    refine ⟨u',r',?_⟩
    rcases q with q | ⟨k,c',e,z'⟩
    ·exact .inl q
    ·refine .inr ⟨k,c',e,z'.sameBut hs ?_⟩
     rintro rfl
     exact hj (Dw hN e1 (I.ok.inj _ _ _ e hc ▸ hi))
  ·by_cases hcc:c'=c
   ·subst hcc; exact ⟨_,hc'⟩
   ·obtain ⟨w2,z2⟩:=I.cell y c' e
    exact ⟨w2,z2.sameBut hs hcc⟩
  ·obtain ⟨e,n,ne,nf,d⟩:=I.pin p hp
   refine ⟨(hs.2 p.1 ?_).trans e,n,ne,nf,d⟩
   intro q
   rw [q,hoc] at e
   have q':oc=p.2:=Option.some.inj e
   exact d w' (by rw [← q']; exact hocd)
theorem uP {M:Model}{A:Around}{E:Value->Shared->Prop}{i:Nat}{x:Str}{v:V}{u:Value}{Q:Unit->Shared->Prop}(I:Inv X pins σ H s)(hN:X.N.Nodup)(hi:X.N[i]? = some x)(hx:Loc X.env.scope x)(r:RelV v u)
  (h:∀s',Inv X pins (σ.set i (some v)) H s'->Q () s') (hf:X.fn x=true\/X.env.scope.names.lookup x=some .local:=by first | exact .inl rfl | exact .inr rfl | assumption):wpAny M A (storeName X.env x u) Q E s:=
 zW I hN hi hx r (fun s' I' _=>h s' I') hf
theorem Inv.call' {s':Shared}{ch:List Addr}(I:Inv X pins σ H s)(ho:s'.os=s.os)(u:Un (frs X.stack) ch H H' s.heap s'.heap)(hok:HOk X.prog X.w H' s'.heap)(hg:AllBare s'.gens)
  (hch:∀b∈ch,(b∈X.ex\/X.s₀.heap.objs.size<=b)/\b≠X.env.locals/\(∀x c,X.env.cells.lookup x=some c->c≠b)/\∀p∈X.pn++pins,p.1≠b):Inv X pins σ H' s':=by
 obtain ⟨h',g',d',t',o'⟩:=s'
 have e:o'=s.os:=ho
 subst e
 exact I.call (g':=g') (t':=t') (d':=d') u hok hg hch
end
noncomputable abbrev XK:=Value->Option Addr->Hp->Prop
noncomputable abbrev St:=List (Option V)
noncomputable abbrev VK:=V->Hp->Prop
noncomputable abbrev TE:=St->Hp->VK->Prop
noncomputable abbrev TT:=St->Hp->(Bool->Hp->Prop)->Prop
noncomputable abbrev TA:=St->Hp->(List V->Hp->Prop)->Prop
structure Ends where
 nx:St->Hp->Prop
 rt:VK
 bk:St->Hp->Prop:=fun _ _=>False
 ct:St->Hp->Prop:=fun _ _=>False
noncomputable abbrev TS:=Ends->St->Hp->Prop
noncomputable def EP (X:Cx)(pins:List (Addr×Obj))(σ:St)(Q:VK)(u:Value)(s':Shared):Prop:=∃v H',Inv X pins σ H' s'/\RelV v u/\Q v H'
noncomputable def TP (X:Cx)(pins:List (Addr×Obj))(σ:St)(Q:Bool->Hp->Prop)(b:Bool)(s':Shared):Prop:=∃H',Inv X pins σ H' s'/\Q b H'
noncomputable def AP (X:Cx)(pins:List (Addr×Obj))(σ:St)(Q:List V->Hp->Prop)(us:List Value)(s':Shared):Prop:=∃vs H',Inv X pins σ H' s'/\Vals vs us/\Q vs H'
noncomputable def SP (X:Cx)(pins:List (Addr×Obj))(D:Ends)(f:Flow)(s':Shared):Prop:=
 match f with
 | .next=>∃σ' H',Inv X pins σ' H' s'/\D.nx σ' H'
 | .brk=>∃σ' H',Inv X pins σ' H' s'/\D.bk σ' H'
 | .cont=>∃σ' H',Inv X pins σ' H' s'/\D.ct σ' H'
 | .ret u=>∃v σ' H',Inv X pins σ' H' s'/\RelV v u/\D.rt v H'
noncomputable def PE (X:Cx)(e:Expr)(t:TE):Prop:=
 ∀(pins:List (Addr×Obj)) (s:Shared) (σ:St) (H:Hp) (Q:VK),Inv X pins σ H s->t σ H Q->wpAny (model X.prog X.w) X.A (eval e X.env) (EP X pins σ Q) X.xe s
noncomputable def PT (X:Cx)(e:Expr)(t:TT):Prop:=
 ∀(pins:List (Addr×Obj)) (s:Shared) (σ:St) (H:Hp) (Q:Bool->Hp->Prop),Inv X pins σ H s->t σ H Q->wpAny (model X.prog X.w) X.A (isTrue e X.env (eval e X.env)) (TP X pins σ Q) X.xe s
noncomputable def PW (X:Cx)(e:Expr)(t:TT):Prop:=
 ∀(whole:Sem Value) (pins:List (Addr×Obj)) (s:Shared) (σ:St) (H:Hp) (Q:Bool->Hp->Prop),Inv X pins σ H s->t σ H Q->wpAny (model X.prog X.w) X.A (isTrue e X.env whole) (TP X pins σ Q) X.xe s
theorem PW.pt {X:Cx}{e:Expr}{t:TT}(h:PW X e t):PT X e t:=h _
noncomputable def PA (X:Cx)(es:List Expr)(t:TA):Prop:=
 ∀(pos:Pos) (pins:List (Addr×Obj)) (s:Shared) (σ:St) (H:Hp) (Q:List V->Hp->Prop),Inv X pins σ H s->t σ H Q->wpAny (model X.prog X.w) X.A (spliced (backTo pos (starEach es X.env))) (AP X pins σ Q) X.xe s
noncomputable def PS (X:Cx)(st:Stmt)(t:TS):Prop:=
 ∀(pins:List (Addr×Obj)) (s:Shared) (σ:St) (H:Hp) (D:Ends),Inv X pins σ H s->t D σ H->wpAny (model X.prog X.w) X.A (exec st X.env) (SP X pins D) X.xe s
noncomputable def PSs (X:Cx)(st:List Stmt)(t:TS):Prop:=
 ∀(pins:List (Addr×Obj)) (s:Shared) (σ:St) (H:Hp) (D:Ends),Inv X pins σ H s->t D σ H->wpAny (model X.prog X.w) X.A (execs st X.env) (SP X pins D) X.xe s
theorem thn {α:Type}{t:Sem α}{Q Q':α->Shared->Prop}{M:Model}{A:Around}{E:Value->Shared->Prop}{s:Shared}(h:wpAny M A t Q E s)(hQ:∀a s,Q a s->Q' a s):wpAny M A t Q' E s:=wpAny_mono h hQ fun _ _ x=>x
open PySem PySem.Spec PyProof.Rows
section
variable {X:Cx}
theorem bin {a b:Expr}{ta tb:TE}(ha:PE X a ta)(hb:PE X b tb){pins:List (Addr×Obj)}{s:Shared}{σ:St}{H:Hp}{R:V->V->Hp->Prop}(I:Inv X pins σ H s)(h:ta σ H fun x H1=>tb σ H1 fun y H2=>R x y H2)
  {α:Type} {Q:α->Shared->Prop} {f:Value->Value->Sem α}
  (hf:∀v u s2 x y H2,Inv X pins σ H2 s2->RelV x v->RelV y u->R x y H2->wpAny (model X.prog X.w) X.A (f v u) Q X.xe s2):
  wpAny (model X.prog X.w) X.A (eval a X.env) (fun v s₁=>wpAny (model X.prog X.w) X.A (eval b X.env) (fun u s₂=>wpAny (model X.prog X.w) X.A (f v u) Q X.xe s₂) X.xe s₁) X.xe s:=by
 refine thn (ha pins s σ H _ I h) fun v s1 hE=>xq2 hE fun x H1 I1 r1 q1=>?_
 refine thn (hb pins s1 σ H1 _ I1 q1) fun u s2 hE=>xq2 hE fun y H2 I2 r2 q2=>?_
 exact hf v u s2 x y H2 I2 r1 r2 q2
noncomputable def Xv (i:Nat):TE:=fun σ H Q=>∃v,σ[i]? = some (some v)/\Q v H
noncomputable def tC (v:V):TE:=fun _ H Q=>Q v H
theorem iZ {i:Nat}{x:Str}{pos:Pos}(hN:X.N[i]? = some x)(hv:Vis X.env.scope x)(hd:(x == ("__debug__" : Str))=false:=by decide)(hcd:(x == ("__classdict__" : Str))=false:=by decide):PE X (.Name x pos) (Xv i):=by
 intro pins s σ H Q I h
 obtain ⟨v,e,h⟩:=h
 obtain ⟨m,hn,hl⟩:=I.loc
 obtain ⟨u,r,l⟩:=hl i x v hN e hv
 have fin:EP X pins σ Q u s:=⟨v,H,I,r,h⟩
 rcases l with ⟨hk,hm⟩ | ⟨hk,c,hc,hcell⟩
 ·exact wpAny_Name (wpAny_loadName_local I.ok.kind hk hn hm fin) hd
 ·rcases hk with hk | hk
  ·exact wpAny_Name (wpAny_loadName_cell I.ok.kind hk hc hcell fin) hd
  ·exact wpAny_Name (wpAny_loadName_free I.ok.kind hk hc hcell fin hcd) hd
theorem U3 {i j pos}:PE X (.Constant (.int i) j pos) (tC (.int i)):=fun _ _ _ H _ I h=>wpAny_Constant_int ⟨.int i,H,I.tok _,⟨_,rfl⟩,h⟩
theorem Yu {b j pos}:PE X (.Constant (.bool b) j pos) (tC (.bl b)):=fun _ _ _ H _ I h=>Constant_bool ⟨.bl b,H,I,rfl,h⟩
theorem VR {x j pos}:PE X (.Constant (.str x) j pos) (tC (.str x)):=fun _ _ _ H _ I h=>Calls.Constant_str ⟨.str x,H,I.tok _,⟨_,rfl⟩,h⟩
noncomputable def Gl (X:Cx)(x:Str):Prop:=X.env.kindOf x=some .globalImplicit
theorem Jx {E:Value->Shared->Prop}{pins:List (Addr×Obj)}{s:Shared}{σ:St}{H:Hp}{x:Str}{u:Value}{pos:Pos}{Q:Value->Shared->Prop}(I:Inv X pins σ H s)(hg:Gl X x)(hm:X.mg x=some u)(h:Q u s)
  (hd:(x == ("__debug__" : Str))=false:=by decide):wpAny (model X.prog X.w) X.A (eval (.Name x pos) X.env) Q E s:=
 Calls.Name_function_global I.ok.kind hg (Calls.loadGlobal_global (by rw [I.ok.glob]; exact I.mod.glob.keeps I.bk) hm h) hd
theorem p6 {E:Value->Shared->Prop}{pins:List (Addr×Obj)}{s:Shared}{σ:St}{H:Hp}{x:Str}{u:Value}{pos:Pos}{Q:Value->Shared->Prop}(I:Inv X pins σ H s)(hg:Gl X x)(hm:X.mg x=none)(hv:bootBuiltins x=some u)(h:Q u s)
  (hn:x≠"__name__":=by decide) (hd:(x == ("__debug__" : Str))=false:=by decide):wpAny (model X.prog X.w) X.A (eval (.Name x pos) X.env) Q E s:=by
 obtain ⟨mb,h1,h2⟩:=I.mod.blt
 exact Calls.Name_function_global I.ok.kind hg (Calls.loadGlobal_builtin (by rw [I.ok.glob]; exact I.mod.glob.keeps I.bk) hm (by rw [I.ok.blt]; exact h1.keeps I.bk) ((h2 x hn).trans hv) h) hd
theorem T3 {x:Str}{v:V}{u:Value}{pos:Pos}(hg:Gl X x)(hm:X.mg x=some u)(r:RelV v u)(hd:(x == ("__debug__" : Str))=false:=by decide):PE X (.Name x pos) (tC v):=
 fun _ _ _ H _ I h=>Jx I hg hm ⟨v,H,I,r,h⟩ hd
theorem RN {x:Str}{v:V}{u:Value}{pos:Pos}(hg:Gl X x)(hm:X.mg x=none)(hv:bootBuiltins x=some u)(r:RelV v u)(hn:x≠"__name__":=by decide)(hd:(x == ("__debug__" : Str))=false:=by decide):PE X (.Name x pos) (tC v):=
 fun _ _ _ H _ I h=>p6 I hg hm hv ⟨v,H,I,r,h⟩ hn hd
variable {a b:Expr}{ta tb:TE}{pos:Pos}
noncomputable def PC (X:Cx)(op:CmpOp)(a b:Expr)(t:TE):Prop:=
 ∀(pins:List (Addr×Obj)) (s:Shared) (σ:St) (H:Hp) (Q:VK),Inv X pins σ H s->t σ H Q->
  wpAny (model X.prog X.w) X.A (eval a X.env) (fun v s₁=>wpAny (model X.prog X.w) X.A (eval b X.env) (fun u s₂=>wpAny (model X.prog X.w) X.A (compareOp op v u) (EP X pins σ Q) X.xe s₂) X.xe s₁) X.xe s
theorem M6 (b:Expr){op:CmpOp}(h:op≠.In)(h2:op≠.NotIn):behindInMarks op b=false:=by
 have e1:(op == CmpOp.In)=false:=by cases op <;> first | rfl | exact absurd rfl h
 have e2:(op == CmpOp.NotIn)=false:=by cases op <;> first | rfl | exact absurd rfl h2
 cases b <;> simp [behindInMarks,e1,e2]
noncomputable def tB (t:TE):TT:=fun σ H Q=>t σ H fun x H1=>∃c,x=.bl c/\Q c H1
theorem Zi {op:CmpOp}{t:TE}(h:PC X op a b t)(h1:behindInMarks op b=false:=by first | exact M6 _ (by decide) (by decide) | rfl):PT X (.Compare a [op] [b] pos) (tB t):=by
 intro pins s σ H Q I hw
 refine wpAny_isTrue_Compare1 (thn (h pins s σ H _ I hw) fun v s1 h1=>thn h1 fun u s2 h2=>thn h2 fun c s3 hE=>xq2 hE fun x H1 I1 r1 q1=>?_) h1
 obtain ⟨d,rfl,q⟩:=q1
 cases r1
 exact wpAny_truthy_bool ⟨H1,I1,q⟩
theorem U7 {e:Expr}{t:TE}(h:PE X e t)(he:∀whole,isTrue e X.env whole=(do let v ← whole; standAt e.pos; holding [v] (truthy v)):=by intro _; rfl):PT X e (tB t):=by
 intro pins s σ H Q I hw
 refine isTrue_plain (thn (h pins s σ H _ I hw) fun v s1 hE=>xq2 hE fun x H1 I1 r1 q1=>?_) (he _)
 obtain ⟨d,rfl,q⟩:=q1
 cases r1
 exact wpAny_truthy_bool ⟨H1,I1,q⟩
variable {tA tB':TT}{rest:List Expr}
noncomputable def Y7 (t u:TT):TT:=fun σ H Q=>t σ H fun c H1=>if c=true then u σ H1 Q else Q false H1
noncomputable def tOr (t u:TT):TT:=fun σ H Q=>t σ H fun c H1=>if c=true then Q true H1 else u σ H1 Q
noncomputable def Ze (t:TT):TT:=fun σ H Q=>t σ H fun c H1=>Q (!c) H1
theorem Sg (ha:PT X a tA):PW X (.BoolOp .And [a] pos) tA:=by
 intro wh pins s σ H Q I h
 refine isTrue_and (thn (ha pins s σ H Q I h) fun c s1 e=>?_)
 cases c with
 |true=>exact isTrue_and_nil e
 |false=>exact e
theorem Vv (ha:PT X a tA):PW X (.BoolOp .Or [a] pos) tA:=by
 intro wh pins s σ H Q I h
 refine isTrue_or (thn (ha pins s σ H Q I h) fun c s1 e=>?_)
 cases c with
 |false=>exact isTrue_or_nil e
 |true=>exact e
theorem Vx (ha:PT X a tA)(hb:PW X (.BoolOp .And (b::rest) pos) tB'):PW X (.BoolOp .And (a::b::rest) pos) (Y7 tA tB'):=by
 intro wh pins s σ H Q I h
 refine isTrue_and (thn (ha pins s σ H _ I h) fun c s1 ⟨H1,I1,q1⟩=>?_)
 cases c with
 |true=>exact hb wh pins s1 σ H1 Q I1 q1
 |false=>exact ⟨H1,I1,q1⟩
theorem Yx (ha:PT X a tA)(hb:PW X (.BoolOp .Or (b::rest) pos) tB'):PW X (.BoolOp .Or (a::b::rest) pos) (tOr tA tB'):=by
 intro wh pins s σ H Q I h
 refine isTrue_or (thn (ha pins s σ H _ I h) fun c s1 ⟨H1,I1,q1⟩=>?_)
 cases c with
 |true=>exact ⟨H1,I1,q1⟩
 |false=>exact hb wh pins s1 σ H1 Q I1 q1
theorem U4 (ha:PT X a tA):PT X (.UnaryOp .Not a pos) (Ze tA):=by
 intro pins s σ H Q I h
 exact isTrue_not (ha pins s σ H (fun c H1=>Q (!c) H1) I h)
noncomputable def Xo (ta tb:TE):TE:=fun σ H Q=>ta σ H fun x H1=>∃c,x=.bl c/\if c=true then tb σ H1 Q else Q (.bl false) H1
noncomputable def Zm (ta tb:TE):TE:=fun σ H Q=>ta σ H fun x H1=>∃c,x=.bl c/\if c=true then Q (.bl true) H1 else tb σ H1 Q
theorem Wn {op}{t:TE}(h:PE X a t):PE X (.BoolOp op [a] pos) t:=fun pins s σ H Q I hw=>BoolOp_one (h pins s σ H Q I hw)
theorem Vk (ha:PE X a ta)(hb:PE X (.BoolOp .And (b::rest) pos) tb):PE X (.BoolOp .And (a::b::rest) pos) (Xo ta tb):=by
 intro pins s σ H Q I h
 refine BoolOp_and (thn (ha pins s σ H _ I h) fun v s1 hE=>xq2 hE fun x H1 I1 r1 q1=>?_)
 obtain ⟨c,rfl,q1⟩:=q1
 cases r1
 refine wpAny_truthy_bool ?_
 cases c with
 |true=>exact hb pins s1 σ H1 Q I1 q1
 |false=>exact ⟨.bl false,H1,I1,rfl,q1⟩
theorem XX (ha:PE X a ta)(hb:PE X (.BoolOp .Or (b::rest) pos) tb):PE X (.BoolOp .Or (a::b::rest) pos) (Zm ta tb):=by
 intro pins s σ H Q I h
 refine BoolOp_or (thn (ha pins s σ H _ I h) fun v s1 hE=>xq2 hE fun x H1 I1 r1 q1=>?_)
 obtain ⟨c,rfl,q1⟩:=q1
 cases r1
 refine wpAny_truthy_bool ?_
 cases c with
 |false=>exact hb pins s1 σ H1 Q I1 q1
 |true=>exact ⟨.bl true,H1,I1,rfl,q1⟩
end
open PySem PySem.Spec PyProof.Rows
noncomputable def SqL (K:W.Frag)(H:Hp)(a:Addr)(xs:List V):Prop:=
 Rd H a (.lst xs) ∨
  ∃(o:Obj) (its:Array Value) (n:Nat),K.lookup a=some o/\o.cls=.type "list"/\o.dict=none/\o.data=.seq its n/\its.size<=sizeLine/\Vals xs its.toList
noncomputable def SqT (K:W.Frag)(H:Hp)(a:Addr)(xs:List V):Prop:=
 Rd H a (.tup xs) ∨
  ∃(o:Obj) (its:Array Value) (n:Nat),K.lookup a=some o/\o.cls=.type "tuple"/\o.data=.seq its n/\its.size<=sizeLine/\Vals xs its.toList
noncomputable abbrev KTp (K:W.Frag)(a:Addr)(xs:List V):Prop:=
  ∃(o:Obj) (its:Array Value) (n:Nat),K.lookup a=some o/\o.cls=.type "tuple"/\o.data=.seq its n/\its.size<=sizeLine/\Vals xs its.toList
noncomputable def SqU (K:W.Frag)(H:Hp)(a:Addr)(xs:List V):Prop:=H a=some (.tup xs)\/KTp K a xs
theorem SqU.sq {K:W.Frag}{H:Hp}{a:Addr}{xs:List V}(h:SqU K H a xs):SqT K H a xs:=h.elim (fun e=>.inl (.inl e)) .inr
theorem SqU.of {K:W.Frag}{H:Hp}{a:Addr}{xs:List V}(h:H a=some (.tup xs)):SqU K H a xs:=.inl h
noncomputable def Zk:Value->Option V
 | .none=>some .non
 | .bool b=>some (.bl b)
 | .int i _=>some (.int i)
 | .str x _=>some (.str x)
 | .bytes b _=>some (.byt b)
 | .float b _=>some (.flt b)
 | .ref a=>some (.ref a)
 | .type n=>some (.ty n)
 |_=>none
theorem RelV.abs {x:V}{u:Value}(r:RelV x u):Zk u=some x:=by
 cases x with
 |non=>cases r; rfl
 |bl _=>cases r; rfl
 |int _=>obtain ⟨t,rfl⟩:=r; rfl
 |str _=>obtain ⟨t,rfl⟩:=r; rfl
 |byt _=>obtain ⟨t,rfl⟩:=r; rfl
 |flt _=>obtain ⟨t,rfl⟩:=r; rfl
 |ref _=>cases r; rfl
 |ty _=>cases r; rfl
theorem RelV.inj {x y:V}{u:Value}(r:RelV x u)(q:RelV y u):x=y:=Option.some.inj (r.abs.symm.trans q.abs)
theorem Vals.inj:∀{xs ys:List V} {us:List Value},Vals xs us->Vals ys us->xs=ys
 |_,_,_,.nil,.nil=>rfl
 |_,_,_,.cons r t,.cons r' t'=>by rw [r.inj r',Vals.inj t t']
section
variable {X:Cx}{pins:List (Addr×Obj)}{σ:St}{H:Hp}{s:Shared}{a:Addr}{xs ys:List V}
theorem SqL.of {K:W.Frag}(h:H a=some (.lst xs)):SqL K H a xs:=.inl (.inl h)
theorem Inv.list (I:Inv X pins σ H s)(h:SqL X.K H a xs):∃its:List Value,Vals xs its/\PlainL s.heap a its.toArray/\xs.length<=sizeLine:=by
 rcases h with h | ⟨o,its,n,hk,hc,hd,hs,hz,r⟩
 ·obtain ⟨z,its,n,r,e⟩:=h.ok I.hok
  exact ⟨its,r,⟨_,n,e,rfl,rfl,rfl⟩,z⟩
 ·refine ⟨its.toList,r,⟨o,n,I.kIn a o hk,hc,hd,by simpa using hs⟩,?_⟩
  have e:=r.length
  simp only [Array.length_toList] at e
  omega
theorem Inv.tuple (I:Inv X pins σ H s)(h:SqT X.K H a xs):∃its:List Value,Vals xs its/\IsTup s.heap a its.toArray/\xs.length<=sizeLine:=by
 rcases h with h | ⟨o,its,n,hk,hc,hs,hz,r⟩
 ·obtain ⟨z,its,r,p⟩:=h.ok I.hok
  exact ⟨its,r,p,z⟩
 ·refine ⟨its.toList,r,⟨o,I.kIn a o hk,hc,n,by simpa using hs⟩,?_⟩
  have e:=r.length
  simp only [Array.length_toList] at e
  omega
theorem Inv.FJ (I:Inv X pins σ H s)(h:SqL X.K H a xs)(h':SqL X.K H a ys):xs=ys:=by
 obtain ⟨its,r,⟨o,n,e,_,_,d⟩,_⟩:=I.list h
 obtain ⟨its',r',⟨o',n',e',_,_,d'⟩,_⟩:=I.list h'
 rw [e] at e'; cases e'
 rw [d] at d'
 injection d' with d1 _
 have:its=its':=by simpa using congrArg Array.toList d1
 subst this
 exact r.inj r'
theorem Inv.Lz (I:Inv X pins σ H s)(h:SqT X.K H a xs)(h':SqT X.K H a ys):xs=ys:=by
 obtain ⟨its,r,⟨o,e,_,n,d⟩,_⟩:=I.tuple h
 obtain ⟨its',r',⟨o',e',_,n',d'⟩,_⟩:=I.tuple h'
 rw [e] at e'; cases e'
 rw [d] at d'
 injection d' with d1 _
 have:its=its':=by simpa using congrArg Array.toList d1
 subst this
 exact r.inj r'
end
section
variable {X:Cx}{pins:List (Addr×Obj)}{σ:St}{H:Hp}{s:Shared}{E:Value->Shared->Prop}
end
section
variable {X:Cx}{st:Stmt}{rest:List Stmt}{t u:TS}{e:Expr}{te:TE}{pos:Pos}
noncomputable def Xi:TS:=fun D σ H=>D.nx σ H
noncomputable def Yd (t u:TS):TS:=fun D σ H=>t { D with nx:=u D } σ H
theorem SN:PSs X [] Xi:=fun _ _ σ H _ I h=>wpAny_execs_nil ⟨σ,H,I,h⟩
theorem DX (h1:PS X st t)(h2:PSs X rest u):PSs X (st::rest) (Yd t u):=by
 intro pins s σ H D I h
 refine wpAny_execs_cons (thn (h1 pins s σ H { D with nx:=u D } I h) fun f s1 q=>?_)
 cases f with
 |next=>
  obtain ⟨σ',H',I',q⟩:=q
  exact h2 pins s1 σ' H' D I' q
 |ret v=>exact q
 |brk=>exact q
 |cont=>exact q
theorem RQ (h1:PS X st t):PSs X [st] t:=by
 intro pins s σ H D I h
 refine wpAny_execs_cons (thn (h1 pins s σ H D I h) fun f s1 q=>?_)
 cases f with
 |next=>exact wpAny_execs_nil q
 |ret v=>exact q
 |brk=>exact q
 |cont=>exact q
theorem Inv.quiet {pins:List (Addr×Obj)}{σ:St}{H:Hp}{s:Shared}(I:Inv X pins σ H s):interactive X.env=false:=by simp [interactive,I.ok.kind]
noncomputable def Yc (te:TE):TS:=fun D σ H=>te σ H fun _ H1=>D.nx σ H1
theorem rF (he:PE X e te)(hs:swapsWith e none pos.line X.env=pure false:=by rfl):PS X (.Expr e pos) (Yc te):=by
 intro pins s σ H D I h
 exact wpAny_Expr_any (thn (he pins s σ H _ I h) fun v s1 hE=>xq2 hE fun x H1 I1 r1 q1=>⟨σ,H1,I1,q1⟩) I.quiet hs
noncomputable def YZ (te:TE):TS:=fun D σ H=>te σ H D.rt
theorem Cu (he:PE X e te):PS X (.Return (some e) pos) (YZ te):=by
 intro pins s σ H D I h
 exact wpAny_Return_some (thn (he pins s σ H _ I h) fun v s1 hE=>xq2 hE fun x H1 I1 r1 q1=>⟨x,σ,H1,I1,r1,q1⟩)
noncomputable def Zx (c:TT)(t u:TS):TS:=fun D σ H=>c σ H fun b H1=>if b=true then t D σ H1 else u D σ H1
theorem Xp {c:Expr}{a b:List Stmt}{tc:TT}(hc:PT X c tc)(ha:PSs X a t)(hb:PSs X b u):PS X (.If c a b pos) (Zx tc t u):=by
 intro pins s σ H D I h
 refine wpAny_If (thn (hc pins s σ H _ I h) fun d s1 ⟨H1,I1,q1⟩=>?_)
 cases d with
 |true=>exact ha pins s1 σ H1 D I1 q1
 |false=>exact hb pins s1 σ H1 D I1 q1
end
noncomputable abbrev TG:=V->St->Hp->(St->Hp->Prop)->Prop
noncomputable abbrev TGs:=List V->St->Hp->(St->Hp->Prop)->Prop
noncomputable def PG (X:Cx)(target:Expr)(t:TG):Prop:=
 ∀(pins:List (Addr×Obj)) (s:Shared) (σ:St) (H:Hp) (v:V) (u:Value) (Q:St->Hp->Prop),Inv X pins σ H s->RelV v u->t v σ H Q->
  wpAny (model X.prog X.w) X.A (assign target X.env u) (fun _ s'=>∃σ' H',Inv X pins σ' H' s'/\Q σ' H') X.xe s
noncomputable def PGs (X:Cx)(ts:List Expr)(t:TGs):Prop:=
 ∀(pins:List (Addr×Obj)) (s:Shared) (σ:St) (H:Hp) (vs:List V) (us:List Value) (Q:St->Hp->Prop),Inv X pins σ H s->Vals vs us->t vs σ H Q->
  wpAny (model X.prog X.w) X.A (assignInOrder ((assignEach ts X.env).map (·.2)) us) (fun _ s'=>∃σ' H',Inv X pins σ' H' s'/\Q σ' H') X.xe s
noncomputable abbrev VH:=V->V->V->Hp->(Hp->Prop)->Prop
noncomputable def Xq (X:Cx)(t:VH):Prop:=
 ∀(pins:List (Addr×Obj)) (s:Shared) (σ:St) (H:Hp) (o i v:V) (ov iv u:Value) (Q:Hp->Prop),Inv X pins σ H s->RelV o ov->RelV i iv->RelV v u->t o i v H Q->
  wpAny (model X.prog X.w) X.A (setItem ov iv u) (fun _ s'=>∃H',Inv X pins σ H' s'/\Q H') X.xe s
section
variable {X:Cx}{pos:Pos}
noncomputable def yo (i:Nat):TG:=fun v σ H Q=>Q (σ.set i (some v)) H
theorem T8 {i:Nat}{x:Str}(hN:X.N.Nodup)(hi:X.N[i]? = some x)(hx:Loc X.env.scope x)(hf:X.fn x=true\/X.env.scope.names.lookup x=some .local:=by first | exact .inl rfl | exact .inr rfl | assumption):PG X (.Name x pos) (yo i):=by
 intro pins s σ H v u Q I r h
 exact wpAny_assign_Name (uP I hN hi hx r (fun s' I'=>⟨_,H,I',h⟩) hf)
noncomputable def ZL:TGs:=fun vs σ H Q=>vs=[]/\Q σ H
noncomputable def Ye (t:TG)(u:TGs):TGs:=fun vs σ H Q=>∃v r,vs=v::r/\t v σ H fun σ' H'=>u r σ' H' Q
theorem Ub:PGs X [] ZL:=by
 intro pins s σ H vs us Q I r h
 obtain ⟨e,h⟩:=h
 subst e
 cases r
 exact assignInOrder_nil ⟨σ,H,I,h⟩
theorem Mp {e:Expr}{es:List Expr}{t:TG}{u:TGs}(h1:PG X e t)(h2:PGs X es u)
  (hs:(assignEach (e::es) X.env).map (·.2)=assign e X.env::(assignEach es X.env).map (·.2):=by rfl):PGs X (e::es) (Ye t u):=by
 intro pins s σ H vs us Q I r h
 obtain ⟨v,vr,e1,h⟩:=h
 subst e1
 cases r with
 |cons r rr=>
  rw [hs]
  refine assignInOrder_cons (thn (h1 pins s σ H _ _ _ I r h) fun _ s1 ⟨σ1,H1,I1,q1⟩=>?_)
  exact h2 pins s1 σ1 H1 _ _ Q I1 rr q1
noncomputable def ZP (K:W.Frag)(n:Nat)(t:TGs):TG:=fun v σ H Q=>∃a xs,v=.ref a/\SqT K H a xs/\xs.length=n/\t xs σ H Q
theorem Wc {es:List Expr}{k:Nat}{t:TGs}{n:Nat}(hc:X.calm=true)(h:PGs X es t)
  (hn:(assignEach es X.env).length=n:=by rfl) (hst:(assignEach es X.env).findIdx? (·.1)=none:=by rfl):PG X (.Tuple es k pos) (ZP X.K n t):=by
 intro pins s σ H v u Q I r hw
 obtain ⟨a,xs,e1,hq,hl,hw⟩:=hw
 subst e1
 cases r
 obtain ⟨its,rv,ht,hz⟩:=I.tuple hq
 refine assign_Tuple_tuple (I.ok.hd hc) ht (by simp [hn,← hl,rv.length]) hst fun h' hx=>?_
 have I1:Inv X pins σ H { s with heap:=h' }:=I.kept (t':=s.toks) fun b o e=>hx b o (Nat.ne_of_lt (Heap.lt_size e)) e
 exact h pins _ σ H xs _ Q I1 (by simpa using rv) hw
noncomputable def eN (to ti:TE)(t:VH):TG:=fun v σ H Q=>to σ H fun o H1=>ti σ H1 fun i H2=>t o i v H2 fun H3=>Q σ H3
theorem QF {o i:Expr}{to ti:TE}{t:VH}(ho:PE X o to)(hi:PE X i ti)(hs:Xq X t)
  (ha:∀v,assign (.Subscript o i pos) X.env v=(do
   let ov ← holding [v] (eval o X.env)
   let iv ← holding [v,ov] (eval i X.env)
   standAt pos
   holding [v,ov,iv] (setItem ov iv v)
   release [v,ov,iv] []):=by intro _; rfl):PG X (.Subscript o i pos) (eN to ti t):=by
 intro pins s σ H v u Q I r h
 rw [ha]
 refine wpAny_bind (wpAny_holding (thn (ho pins s σ H _ I h) fun ov s1 hE=>xq2 hE fun x H1 I1 r1 q1=>?_))
 refine wpAny_bind (wpAny_holding (thn (hi pins s1 σ H1 _ I1 q1) fun iv s2 hE=>xq2 hE fun y H2 I2 r2 q2=>?_))
 refine wpAny_bind (wpAny_standAt (wpAny_bind (wpAny_holding (thn (hs pins s2 σ H2 x y v ov iv u _ I2 r1 r2 r q2) fun _ s3 ⟨H3,I3,q3⟩=>?_))))
 exact wpAny_release ⟨σ,H3,I3,q3⟩
noncomputable def O8 (te:TE)(g:TG):TS:=fun D σ H=>te σ H fun x H1=>g x σ H1 D.nx
theorem Gy {tg e:Expr}{te:TE}{g:TG}(he:PE X e te)(hg:PG X tg g)(hs:swapsWithSole [tg] e pos.line X.env=pure false:=by rfl)(hw:swappedStores [tg] e X.env=pure none:=by rfl)
  (h1:(assignEach [tg] X.env).map (·.2)=[assign tg X.env]:=by rfl):PS X (.Assign [tg] e pos) (O8 te g):=by
 intro pins s σ H D I h
 refine wpAny_Assign_stores (thn (he pins s σ H _ I h) fun v s1 hE=>xq2 hE fun x H1 I1 r1 q1=>?_) hs hw
 rw [h1]
 exact thn (hg pins s1 σ H1 x v _ I1 r1 q1) fun _ s2 q=>q
theorem zx {i:Nat}{x:Str}{e:Expr}{te:TE}{pos':Pos}(hN:X.N.Nodup)(hi:X.N[i]? = some x)(hx:Loc X.env.scope x)(he:PE X e te)(hs:swapsWith e (some (.Name x pos')) pos.line X.env=pure false:=by rfl)(hf:X.fn x=true\/X.env.scope.names.lookup x=some .local:=by first | exact .inl rfl | exact .inr rfl | assumption):
  PS X (.Assign [.Name x pos'] e pos) (O8 te (yo i)):=by
 intro pins s σ H D I h
 refine wpAny_Assign_Name (thn (he pins s σ H _ I h) fun v s1 hE=>xq2 hE fun y H1 I1 r1 q1=>?_) hs
 exact uP I1 hN hi hx r1 (fun s2 I2=>⟨_,H1,I2,q1⟩) hf
noncomputable def ZF (i j:Nat)(ta:TA):TS:=fun D σ H=>ta σ H fun vs H1=>∃v w,vs=[v,w]/\D.nx ((σ.set i (some v)).set j (some w)) H1
theorem Vd {i j:Nat}{x y:Str}{a b:Expr}{ta:TA}{px py pt:Pos}{kt k2 pt2}(hc:X.calm=true)(hN:X.N.Nodup)(hi:X.N[i]? = some x)(hj:X.N[j]? = some y)(hij:i≠j)
  (hx:X.env.scope.names.lookup x=some .local) (hy:X.env.scope.names.lookup y=some .local) (ha:PA X [a,b] ta)
  (hw:swappedStores [.Tuple [.Name x px,.Name y py] kt pt] (.Tuple [a,b] k2 pt2) X.env=pure (some [x,y]))
  (hs:swapsWithSole [.Tuple [.Name x px,.Name y py] kt pt] (.Tuple [a,b] k2 pt2) pos.line X.env=pure false:=by rfl):
  PS X (.Assign [.Tuple [.Name x px,.Name y py] kt pt] (.Tuple [a,b] k2 pt2) pos) (ZF i j ta):=by
 intro pins s σ H D I h
 rw [exec_Assign_arm]
 refine wpAny_bind (wpAny_standAt ?_)
 rw [hs]
 refine wpAny_bind (wpAny_pure ?_)
 rw [if_neg (by decide)]
 refine wpAny_bind (Tuple_ (thn (ha _ pins s σ H _ I h) fun us s1 hE=>xq2 hE fun vs H1 I1 r1 q1=>?_))
 obtain ⟨v,w,e1,q1⟩:=q1
 subst e1
 obtain ⟨u1,u2,rfl,rv,rw'⟩:∃u1 u2,us=[u1,u2]/\RelV v u1/\RelV w u2:=by
  cases r1 with
  |cons p q=>
   cases q with
   |cons p' q'=>
    cases q'
    exact ⟨_,_,rfl,p,p'⟩
 refine wpAny_newObj_type ?_ (by show 2<=sizeLine; decide)
 have I2:Inv X pins σ H1 { s1 with heap:=s1.heap.push { cls:=.type "tuple",data:=.seq [u1,u2].toArray } }:=I1.kept (t':=s1.toks) fun b o e=>Heap.get?_push_of_some _ e
 rw [hw]
 refine wpAny_bind (wpAny_pure ?_)
 show wpAny (model X.prog X.w) X.A (do rule "assign.swapped-stores"; let items ← unpackItems (.ref s1.heap.objs.size) 2 none; assignInOrder [fun v=>bindName X.env y v,fun v=>bindName X.env x v] items.reverse; pure Flow.next) _ _ _
 refine wpAny_bind (wpAny_rule (wpAny_bind (unpackItems_tuple (items:=#[u1,u2]) (I.ok.hd hc) (IsTup.new s1.heap _) fun h' hx'=>?_)))
 have I3:=I2.kept (h':=h') (t':=s1.toks) fun b o e=>hx' b o (Nat.ne_of_lt (Heap.lt_size e)) e
 show wpAny _ _ (assignInOrder [fun v=>bindName X.env y v,fun v=>bindName X.env x v] [u2,u1] >>= fun _=>pure Flow.next) _ _ _
 refine wpAny_bind (assignInOrder_cons (wpAny_bindName (uP I3 hN hj (.inl hy) rw' (fun s2 I4=>?_) (.inr hy))))
 refine assignInOrder_cons (wpAny_bindName (uP I4 hN hi (.inl hx) rv (fun s3 I5=>assignInOrder_nil (wpAny_pure ?_)) (.inr hx)))
 rw [List.set_comm _ _ (Ne.symm hij)] at I5
 exact ⟨_,H1,I5,q1⟩
end
section
variable {X:Cx}{pos:Pos}
noncomputable def Vu (c:TT)(tb:TS):TS:=fun D σ H=>∃W:Nat->St->Hp->Prop,(∃m,W m σ H)/\∀m σ H,W m σ H->
 c σ H fun b H1=>if b=true then ∃N:St->Hp->Prop,(∀σ' H',N σ' H'->∃m',m'<m/\W m' σ' H')/\tb { D with nx:=N,ct:=N,bk:=D.nx } σ H1 else D.nx σ H1
theorem Nz {c:Expr}{body:List Stmt}{tc:TT}{tb:TS}(hp:PassesOwn (model X.prog X.w) X.A X.env X.xe)(hc:PT X c tc)(hb:PSs X body tb):PS X (.While c body [] pos) (Vu tc tb):=by
 intro pins s σ H D I h
 obtain ⟨W,⟨m0,w0⟩,turn⟩:=h
 refine wpAny_While (codeAny_whileLoop (fun n s'=>∃σ' H',Inv X pins σ' H' s'/\W n σ' H') ?_ m0 ⟨σ,H,I,w0⟩)
 rintro n s1 ⟨σ1,H1,I1,w1⟩
 refine wpAny_passesOwn hp (thn (hc pins s1 σ1 H1 _ I1 (turn n σ1 H1 w1)) fun b s2 ⟨H2,I2,q2⟩=>?_)
 cases b with
 |true=>
  obtain ⟨N,hN,q2⟩:=q2
  rw [if_pos rfl]
  refine wpAny_passesOwn hp (thn (hb pins s2 σ1 H2 _ I2 q2) fun f s3 q3=>?_)
  cases f with
  |next=>
   obtain ⟨σ3,H3,I3,n3⟩:=q3
   obtain ⟨m',hm,w3⟩:=hN σ3 H3 n3
   exact ⟨m',hm,σ3,H3,I3,w3⟩
  |cont=>
   obtain ⟨σ3,H3,I3,n3⟩:=q3
   obtain ⟨m',hm,w3⟩:=hN σ3 H3 n3
   exact ⟨m',hm,σ3,H3,I3,w3⟩
  |brk=>exact q3
  |ret v=>exact q3
 |false=>
  rw [if_neg Bool.false_ne_true]
  exact wpAny_execs_nil ⟨σ1,H2,I2,q2⟩
end
structure It where
 go:Nat->Hp->Prop
 yld:Nat->Hp->V->Hp->Prop
 stop:Nat->Hp->Prop
noncomputable def wg (X:Cx)(pins:List (Addr×Obj))(H:Hp)(b:Addr):Prop:=
 H b=none/\b≠X.env.locals/\b∉X.fs/\(b∈X.ex\/X.s₀.heap.objs.size<=b)/\(∀x c,X.env.cells.lookup x=some c->c≠b)/\∀p∈X.pn++pins,p.1≠b
theorem Inv.NQ {X:Cx}{pins:List (Addr×Obj)}{σ:St}{H H':Hp}{s:Shared}{b:Addr}(I:Inv X pins σ H s)(hb:s.heap.objs.size<=b)(hn:H' b=none):wg X pins H' b:=by
 refine ⟨hn,Nat.ne_of_gt (Nat.lt_of_lt_of_le I.lt hb),I.Y8 hb,.inr (Nat.le_trans I.sz hb),fun x c e z=>?_,fun p hp z=>?_⟩
 ·obtain ⟨v,q⟩:=I.cell x c e
  exact absurd (Nat.lt_of_lt_of_le q.lt (by rw [z]; exact hb)) (Nat.lt_irrefl _)
 ·exact absurd (Nat.lt_of_lt_of_le (Heap.lt_size (I.pin p hp).1) (by rw [z]; exact hb)) (Nat.lt_irrefl _)
structure Turn (P:Program)(w:World)(K:W.Frag)(tg:Expr)(J:It)(fp:List Addr)(it:Addr)(tn:Nat->Heap->Prop):Prop where
 mem:it∈fp
 obj:∀i h,tn i h->∀b∈fp,∃o,h.get? b=some o/\∀v,o.data≠.cell v
 keep:∀i h h',tn i h->(∀b∈fp,∀o,h.get? b=some o->h'.get? b=some o)->tn i h'
 item:∀(X:Cx),X.prog=P->X.w=w->X.K=K->X.calm=true->∀(i:Nat) (pins:List (Addr×Obj)) (s:Shared) (σ:St) (H:Hp) (E:Value->Shared->Prop),Inv X pins σ H s->(∀b∈fp,wg X pins H b)->tn i s.heap->J.go i H->
  wpAny (model P w) X.A (pyNext (.ref it)) (fun r s1=>∃u,r=some u/\
   wpAny (model P w) X.A (letOwnedTupleGo tg (.ref it) u) (fun _ s2=>∃x H',Inv X pins σ H' s2/\RelV x u/\J.yld i H x H'/\tn (i+1) s2.heap/\∀b∈fp,H' b=none) E s1) E s
 done:∀(X:Cx),X.prog=P->X.w=w->X.K=K->X.calm=true->∀(i:Nat) (pins:List (Addr×Obj)) (s:Shared) (σ:St) (H:Hp) (E:Value->Shared->Prop),Inv X pins σ H s->(∀b∈fp,wg X pins H b)->tn i s.heap->J.stop i H->
  wpAny (model P w) X.A (pyNext (.ref it)) (fun r s1=>r=none/\Inv X pins σ H s1) E s
 self:∀(A:Around) (i:Nat) (s:Shared) (Q:Value->Shared->Prop) (E:Value->Shared->Prop),tn i s.heap->Q (.ref it) s->wpAny (model P w) A (pyIter (.ref it)) Q E s
noncomputable abbrev TI:=St->Hp->(It->Hp->Prop)->Prop
noncomputable def PIE (X:Cx)(pins:List (Addr×Obj))(σ:St)(tg:Expr)(R:It->Hp->Prop)(itv:Value)(s2:Shared):Prop:=
 ∃(it:Addr) (fp:List Addr) (tn:Nat->Heap->Prop) (J:It) (H':Hp),itv=.ref it/\Inv X pins σ H' s2/\Turn X.prog X.w X.K tg J fp it tn/\tn 0 s2.heap/\(∀b∈fp,wg X pins H' b)/\R J H'
noncomputable def PI (X:Cx)(tg iter:Expr)(wi:TI):Prop:=
 ∀(pins:List (Addr×Obj)) (s:Shared) (σ:St) (H:Hp) (R:It->Hp->Prop),Inv X pins σ H s->wi σ H R->
  wpAny (model X.prog X.w) X.A (eval iter X.env) (fun v s1=>wpAny (model X.prog X.w) X.A (pyIter v) (PIE X pins σ tg R) X.xe s1) X.xe s
theorem JB {M : Model} {A : Around} {E : Value → Shared → Prop} {s : Shared} {tg : Expr} {it : Addr} {u : Value} {o : Obj} {n : String} {vs : Array Value} {Q : Unit → Shared → Prop} (ho : s.heap.get? it = some o) (hc : o.cls = .type n) (hd : o.data = .fields vs)
    (hn : ["enumerate", "zip", "dict_itemiterator", "dict_reverseitemiterator", "odict_iterator", "itertools.zip_longest", "itertools.pairwise"].contains n = false) (hQ : Q () s) : wpAny M A (letOwnedTupleGo tg (.ref it) u) Q E s := by
  unfold letOwnedTupleGo
  cases tg <;> first
    | exact wpAny_pure hQ
    | (cases u <;> first
        | exact wpAny_pure hQ
        | (refine wpAny_bind (wpAny_load ho ?_)
           rw [hc, hd]
           show wpAny M A (if (["enumerate", "zip", "dict_itemiterator", "dict_reverseitemiterator", "odict_iterator", "itertools.zip_longest", "itertools.pairwise"].contains n && vs[0]? == some (rawInt _)) = true then _ else _) Q E s
           rw [if_neg (by intro h; rw [hn, Bool.false_and] at h; cases h)]
           exact wpAny_pure hQ))
noncomputable def Itl (K:W.Frag)(a:Addr):It:=
 ⟨fun i H=>∃xs x,SqL K H a xs/\xs[i]? = some x,fun i H x H'=>H'=H/\∀xs,SqL K H a xs->xs[i]? = some x,fun i H=>∃xs,SqL K H a xs/\xs.length<=i⟩
noncomputable def Itt (K:W.Frag)(a:Addr):It:=
 ⟨fun i H=>∃xs x,SqT K H a xs/\xs[i]? = some x,fun i H x H'=>H'=H/\∀xs,SqT K H a xs->xs[i]? = some x,fun i H=>∃xs,SqT K H a xs/\xs.length<=i⟩
noncomputable def Itr (lo:Int)(n:Nat):It:=⟨fun i _=>i<n,fun i H x H'=>H'=H/\x=.int (lo+i),fun i _=>n<=i⟩
theorem KY {P:Program}{w:World}{K:W.Frag}{tg:Expr}(a it:Addr):Turn P w K tg (Itl K a) [it] it (fun i h=>h.IsListIter it a i) where
 mem:=by simp
 obj:=fun i h st b hb=>by
  have e:b=it:=by simpa using hb
  subst e
  obtain ⟨o,e,c,d⟩:=st
  exact ⟨o,e,fun v z=>by rw [d] at z; cases z⟩
 keep:=fun i h h' st k=>st.at fun o e=>k it (by simp) o e
 item:=by
  intro X hP hw hK hc i pins s σ H E I hf st hg
  subst hP hw hK
  obtain ⟨xs,x,hq,hx⟩:=hg
  obtain ⟨its,rv,p,hz⟩:=I.list hq
  obtain ⟨u,hu,ru⟩:=rv.get hx
  obtain ⟨f0,f1,f2,f3,f4,f5⟩:=hf it (by simp)
  refine wpAny_pyNext_list_item st p.isList (x:=u) (by simpa using hu) fun h' st' sb=>?_
  have I1:Inv X pins σ H { s with heap:=h' }:=I.turned (t':=s.toks) (fun b o hb e=>(sb.2 b hb).trans e) f0 f1 f3 f4 f5
  obtain ⟨o,e,c,d⟩:=id st'
  exact ⟨u,rfl,JB (s:={ s with heap:=h' }) e c d (by decide) ⟨x,H,I1,ru,⟨rfl,fun ys hy=>by rw [I.FJ hy hq]; exact hx⟩,st',fun b hb=>(hf b hb).1⟩⟩
 done:=by
  intro X hP hw hK hc i pins s σ H E I hf st hg
  subst hP hw hK
  obtain ⟨xs,hq,hx⟩:=hg
  obtain ⟨its,rv,p,hz⟩:=I.list hq
  obtain ⟨f0,f1,f2,f3,f4,f5⟩:=hf it (by simp)
  have hl:=rv.length
  exact wpAny_pyNext_list_end (I.ok.hd hc) st p.isList (by simp; omega) fun h' eb=>⟨rfl,I.turned (t':=s.toks) (fun b o hb e=>eb b o hb e) f0 f1 f3 f4 f5⟩
 self:=fun _ _ _ _ _ st h=>wpAny_pyIter_listiter st h
theorem G4 {P:Program}{w:World}{K:W.Frag}{tg:Expr}(a it:Addr):Turn P w K tg (Itt K a) [it] it (fun i h=>h.IsTupleIter it a i) where
 mem:=by simp
 obj:=fun i h st b hb=>by
  have e:b=it:=by simpa using hb
  subst e
  obtain ⟨o,e,c,d⟩:=st
  exact ⟨o,e,fun v z=>by rw [d] at z; cases z⟩
 keep:=fun i h h' st k=>st.at fun o e=>k it (by simp) o e
 item:=by
  intro X hP hw hK hc i pins s σ H E I hf st hg
  subst hP hw hK
  obtain ⟨xs,x,hq,hx⟩:=hg
  obtain ⟨its,rv,p,hz⟩:=I.tuple hq
  obtain ⟨u,hu,ru⟩:=rv.get hx
  obtain ⟨f0,f1,f2,f3,f4,f5⟩:=hf it (by simp)
  refine wpAny_pyNext_tuple_item st (show s.heap.IsTuple a its.toArray from p) (x:=u) (by simpa using hu) fun h' st' sb=>?_
  have I1:Inv X pins σ H { s with heap:=h' }:=I.turned (t':=s.toks) (fun b o hb e=>(sb.2 b hb).trans e) f0 f1 f3 f4 f5
  obtain ⟨o,e,c,d⟩:=id st'
  exact ⟨u,rfl,JB (s:={ s with heap:=h' }) e c d (by decide) ⟨x,H,I1,ru,⟨rfl,fun ys hy=>by rw [I.Lz hy hq]; exact hx⟩,st',fun b hb=>(hf b hb).1⟩⟩
 done:=by
  intro X hP hw hK hc i pins s σ H E I hf st hg
  subst hP hw hK
  obtain ⟨xs,hq,hx⟩:=hg
  obtain ⟨its,rv,p,hz⟩:=I.tuple hq
  obtain ⟨f0,f1,f2,f3,f4,f5⟩:=hf it (by simp)
  have hl:=rv.length
  exact wpAny_pyNext_tuple_end (I.ok.hd hc) st (show s.heap.IsTuple a its.toArray from p) (by simp; omega) fun h' eb=>⟨rfl,I.turned (t':=s.toks) (fun b o hb e=>eb b o hb e) f0 f1 f3 f4 f5⟩
 self:=fun _ _ _ _ _ st h=>wpAny_pyIter_tupleiter st h
theorem Gq {P:Program}{w:World}{K:W.Frag}{tg:Expr}(it:Addr)(lo:Int)(n:Nat):Turn P w K tg (Itr lo n) [it] it (fun i h=>IsRangeIter h it (lo+(i:Nat) * 1) ((n:Int) - (i:Nat)) 1) where
 mem:=by simp
 obj:=fun i h st b hb=>by
  have e:b=it:=by simpa using hb
  subst e
  exact ⟨_,st,fun v z=>by
   have z':Data.fields _=Data.cell v:=z
   cases z'⟩
 keep:=fun i h h' st k=>k it (by simp) _ st
 item:=by
  intro X hP hw hK hc i pins s σ H E I hf st hg
  subst hP hw hK
  obtain ⟨f0,f1,f2,f3,f4,f5⟩:=hf it (by simp)
  have W:=Walks.range (prog:=X.prog) (w:=X.w) (I.ok.hd hc) it lo 1 n
  refine W.item i s _ _ hg st fun v h' tk hv st' kk=>?_
  obtain ⟨t,rfl⟩:=hv
  have I1:Inv X pins σ H { s with heap:=h',toks:=tk }:=I.turned (fun b o hb e=>kk b o (by simpa using hb) e) f0 f1 f3 f4 f5
  refine ⟨_,rfl,JB (s:={ s with heap:=h',toks:=tk }) (n:="range_iterator") st' rfl rfl (by decide) ⟨.int (lo+i),H,I1,⟨t,?_⟩,⟨rfl,rfl⟩,st',fun b hb=>(hf b hb).1⟩⟩
  rw [Int.mul_one]
 done:=by
  intro X hP hw hK hc i pins s σ H E I hf st hg
  subst hP hw hK
  obtain ⟨f0,f1,f2,f3,f4,f5⟩:=hf it (by simp)
  exact wpAny_pyNext_range_end (I.ok.hd hc) st (by have:n<=i:=hg; omega) fun h' eb=>⟨rfl,I.turned (t':=s.toks) (fun b o hb e=>eb b o hb e) f0 f1 f3 f4 f5⟩
 self:=fun _ _ _ _ _ st h=>wpAny_pyIter_rangeiter st h
open PySem PySem.Spec PyProof.Rows
section
variable {X:Cx}{tg:Expr}
noncomputable def Xg (K:W.Frag)(tl:TE):TI:=fun σ H R=>tl σ H fun x H1=>∃a,x=.ref a/\(∃xs,SqL K H1 a xs)/\R (Itl K a) H1
noncomputable def Y0 (K:W.Frag)(tl:TE):TI:=fun σ H R=>tl σ H fun x H1=>∃a,x=.ref a/\(∃xs,SqT K H1 a xs)/\R (Itt K a) H1
theorem Ii {l:Expr}{tl:TE}(hl:PE X l tl):PI X tg l (Xg X.K tl):=by
 intro pins s σ H R I h
 refine thn (hl pins s σ H _ I h) fun v s1 hE=>xq2 hE fun x H1 I1 r1 q1=>?_
 obtain ⟨a,e,⟨xs,hq⟩,q⟩:=q1
 subst e
 cases r1
 obtain ⟨its,rv,p,hz⟩:=I1.list hq
 refine wpAny_pyIter_list p.isList ?_
 refine ⟨s1.heap.objs.size,[s1.heap.objs.size],_,_,H1,rfl,I1.kept (t':=s1.toks) fun b o e=>Heap.get?_push_of_some _ e,KY a _,⟨_,Heap.get?_push_size _ rfl,rfl,rfl⟩,fun b hb=>?_,q⟩
 have e:b=s1.heap.objs.size:=by simpa using hb
 subst e
 exact I1.NQ (Nat.le_refl _) (I1.hok.fresh (Nat.le_refl _))
theorem VM {l:Expr}{tl:TE}(hl:PE X l tl):PI X tg l (Y0 X.K tl):=by
 intro pins s σ H R I h
 refine thn (hl pins s σ H _ I h) fun v s1 hE=>xq2 hE fun x H1 I1 r1 q1=>?_
 obtain ⟨a,e,⟨xs,hq⟩,q⟩:=q1
 subst e
 cases r1
 obtain ⟨its,rv,p,hz⟩:=I1.tuple hq
 refine wpAny_pyIter_tuple (show s1.heap.IsTuple a its.toArray from p) ?_
 refine ⟨s1.heap.objs.size,[s1.heap.objs.size],_,_,H1,rfl,I1.kept (t':=s1.toks) fun b o e=>Heap.get?_push_of_some _ e,G4 a _,⟨_,Heap.get?_push_size _ rfl,rfl,rfl⟩,fun b hb=>?_,q⟩
 have e:b=s1.heap.objs.size:=by simpa using hb
 subst e
 exact I1.NQ (Nat.le_refl _) (I1.hok.fresh (Nat.le_refl _))
theorem Ed {pins:List (Addr×Obj)}{σ:St}{H:Hp}{s:Shared}{R:It->Hp->Prop}{E:Value->Shared->Prop}{lo hi:Int}{t u v:Tok}{tk:Nat}(I:Inv X pins σ H s)(h1:-(2 ^ 62)<=lo)(h2:lo<2 ^ 62)(h3:-(2 ^ 62)<=hi)(h4:hi<2 ^ 62)
  (q:R (Itr lo (hi - lo).toNat) H):wpAny (model X.prog X.w) X.A (pyIter (.ref s.heap.objs.size)) (PIE X pins σ tg R) E { s with heap:=s.heap.push { cls:=.type "range",data:=.fields #[.int lo t,.int hi u,.int 1 v] },toks:=tk }:=by
 refine wpAny_pyIter_range (IsRange.new ..) (small_one h1 h2 h3 h4) ?_
 have I1:Inv X pins σ H { s with heap:=s.heap.push { cls:=.type "range",data:=.fields #[.int lo t,.int hi u,.int 1 v] },toks:=tk }:=I.kept fun b o e=>Heap.get?_push_of_some _ e
 refine ⟨(s.heap.push { cls:=.type "range",data:=.fields #[.int lo t,.int hi u,.int 1 v] }).objs.size,[(s.heap.push { cls:=.type "range",data:=.fields #[.int lo t,.int hi u,.int 1 v] }).objs.size],_,_,H,rfl,
  I1.kept (t':=tk) fun b o e=>Heap.get?_push_of_some _ e,Gq _ lo (hi - lo).toNat,?_,fun b hb=>?_,q⟩
 ·have e1:lo+((0:Nat):Int) * 1=lo:=by simp
  have e2:(((hi - lo).toNat:Nat):Int) - ((0:Nat):Int)=Builtin.Range.rangeSize lo hi 1:=by rw [rangeSize_one]; split <;> omega
  show IsRangeIter _ _ (lo+((0:Nat):Int) * 1) ((((hi - lo).toNat:Nat):Int) - ((0:Nat):Int)) 1
  rw [e1,e2]
  exact Heap.get?_push_size _ rfl
 ·have e:b=(s.heap.push { cls:=.type "range",data:=.fields #[.int lo t,.int hi u,.int 1 v] }).objs.size:=by simpa using hb
  subst e
  exact I1.NQ (Nat.le_refl _) (I1.hok.fresh (Nat.le_refl _))
noncomputable def YG (ta:TA):TI:=fun σ H R=>ta σ H fun vs H1=>∃j:Int,vs=[.int j]/\-(2 ^ 62)<=j/\j<2 ^ 62/\R (Itr 0 j.toNat) H1
noncomputable def XD (ta:TA):TI:=fun σ H R=>ta σ H fun vs H1=>∃i j:Int,vs=[.int i,.int j]/\(-(2 ^ 62)<=i/\i<2 ^ 62/\-(2 ^ 62)<=j/\j<2 ^ 62)/\R (Itr i (j - i).toNat) H1
theorem Lr {a:Expr}{ta:TA}{p pos:Pos}(hg:Gl X "range")(hm:X.mg "range" = none)(ha:PA X [a] ta)(hs:starEach [a] X.env=[(false,eval a X.env)]:=by rfl):PI X tg (.Call (.Name "range" p) [a] [] pos) (YG ta):=by
 intro pins s σ H R I h
 refine Call_ (p6 I hg hm boot_range (PyProof.Rows.callWith_type1 (thn (ha pos pins s σ H _ I h) fun us s1 hE=>xq2 hE fun vs H1 I1 r1 q1=>?_) hs rfl))
 obtain ⟨j,e,q1,q2,q⟩:=q1
 subst e
 cases r1 with
 |cons r rr=>
  cases rr
  obtain ⟨t,rfl⟩:=r
  exact call_range_1 (Ed I1 (by omega) (by omega) q1 q2 (by simpa using q))
theorem K8 {a b:Expr}{ta:TA}{p pos:Pos}(hg:Gl X "range")(hm:X.mg "range" = none)(ha:PA X [a,b] ta)(hs:starEach [a,b] X.env=[(false,eval a X.env),(false,eval b X.env)]:=by rfl)(hs2:starEach [b] X.env=[(false,eval b X.env)]:=by rfl):
  PI X tg (.Call (.Name "range" p) [a,b] [] pos) (XD ta):=by
 intro pins s σ H R I h
 refine Call_ (p6 I hg hm boot_range (PyProof.Rows.callWith_type1 (thn (ha pos pins s σ H _ I h) fun us s1 hE=>xq2 hE fun vs H1 I1 r1 q1=>?_) (by rw [hs,hs2]) (by rw [hs2]; rfl)))
 obtain ⟨i,j,e,⟨q1,q2,q3,q4⟩,q⟩:=q1
 subst e
 cases r1 with
 |cons r rr=>
  cases rr with
  |cons r' rr=>
   cases rr
   obtain ⟨t,rfl⟩:=r
   obtain ⟨t',rfl⟩:=r'
   exact call_range_2 (Ed I1 q1 q2 q3 q4 q)
noncomputable def ZG (wi:TI)(g:TG)(tb:TS):TS:=fun D σ H=>wi σ H fun J H1=>∃W:Nat->Nat->St->Hp->Prop,(∃m,W 0 m σ H1)/\∀i m σ H,W i m σ H->
 (J.stop i H/\D.nx σ H)\/(J.go i H/\∃N:St->Hp->Prop,(∀σ' H',N σ' H'->∃m',m'<m/\W (i+1) m' σ' H')/\∀x H',J.yld i H x H'->g x σ H' fun σ2 H2=>tb { D with nx:=N,ct:=N,bk:=D.nx } σ2 H2)
noncomputable def tD (fp:List Addr)(h:Heap):List (Addr×Obj):=fp.filterMap fun b=>(h.get? b).map fun o=>(b,o)
theorem pX {fp:List Addr}{h:Heap}{b:Addr}{o:Obj}(hb:b∈fp)(e:h.get? b=some o):(b,o)∈tD fp h:=List.mem_filterMap.mpr ⟨b,hb,by rw [e]; rfl⟩
theorem LR {fp:List Addr}{h:Heap}{p:Addr×Obj}(hp:p∈tD fp h):p.1∈fp/\h.get? p.1=some p.2:=by
 obtain ⟨b,hb,e⟩:=List.mem_filterMap.mp hp
 cases q:h.get? b with
 |none=>rw [q] at e; cases e
 |some o=>
  rw [q] at e
  have e':(b,o)=p:=Option.some.inj e
  subst e'
  exact ⟨hb,q⟩
theorem Inv.pinned {pins:List (Addr×Obj)}{σ:St}{H:Hp}{s:Shared}{fp:List Addr}(I:Inv X pins σ H s)(hf:∀b∈fp,wg X pins H b)(ho:∀b∈fp,∃o,s.heap.get? b=some o/\∀v,o.data≠.cell v):Inv X (pins++tD fp s.heap) σ H s:=
 I.JM fun p hp=>(List.mem_append.mp hp).elim (fun z=>I.pin p (List.mem_append_right _ z)) fun z=>by
  obtain ⟨hb,e⟩:=LR z
  obtain ⟨f0,f1,f2,_⟩:=hf p.1 hb
  obtain ⟨o,e',d⟩:=ho p.1 hb
  rw [e] at e'; cases e'
  exact ⟨e,f0,f1,f2,d⟩
theorem Inv.vz {pins pl:List (Addr×Obj)}{σ:St}{H:Hp}{s:Shared}(I:Inv X (pins++pl) σ H s):Inv X pins σ H s:=I.JM fun p hp=>I.pin p (List.mem_append_right _ (List.mem_append_left _ hp))
theorem Wq {iter:Expr}{body:List Stmt}{wi:TI}{g:TG}{tb:TS}{pos:Pos}(hp:PassesOwn (model X.prog X.w) X.A X.env X.xe)(hc:X.calm=true)(hi:PI X tg iter wi)(hg:PG X tg g)(hb:PSs X body tb)
  (hs:∀x,foldedSetIterable iter X.env x=pure x:=by intro _; rfl):PS X (.For tg iter body [] pos) (ZG wi g tb):=by
 intro pins s σ H D I h
 refine wpAny_For (thn (hi pins s σ H _ I h) fun v s1 h1=>thn h1 fun itv s2 h2=>?_) hs
 obtain ⟨it,fp,tn,J,H2,e,I2,T,st2,f2,W,⟨m0,w0⟩,turn⟩:=h2
 subst e
 have stat:∀{H':Hp},(∀b∈fp,H' b=none)->∀b∈fp,wg X pins H' b:=fun hn b hb=>⟨hn b hb,(f2 b hb).2⟩
 refine codeAny_forLoop_any (fun n s'=>∃i σ' H',Inv X pins σ' H' s'/\tn i s'.heap/\(∀b∈fp,H' b=none)/\W i n σ' H') ?_ m0 ⟨0,σ,H2,I2,st2,fun b hb=>(f2 b hb).1,w0⟩
 rintro n s3 ⟨i,σ3,H3,I3,st3,fr3,w3⟩
 rcases turn i n σ3 H3 w3 with ⟨stop,qn⟩ | ⟨go,N,hN,step⟩
 ·refine wpAny_passesOwn hp (thn (T.done X rfl rfl rfl hc i pins s3 σ3 H3 X.xe I3 (stat fr3) st3 stop) fun r s4 ⟨hr,I4⟩=>?_)
  subst hr
  exact wpAny_execs_nil ⟨σ3,H3,I4,qn⟩
 ·refine wpAny_passesOwn hp (thn (T.item X rfl rfl rfl hc i pins s3 σ3 H3 X.xe I3 (stat fr3) st3 go) fun r s4 ⟨u,hr,h4⟩=>?_)
  subst hr
  refine wpAny_passesOwn hp (thn h4 fun _ s5 ⟨x,H5,I5,r5,y5,st5,fr5⟩=>?_)
  have I5':=I5.pinned (stat fr5) (T.obj _ _ st5)
  refine wpAny_passesOwn hp (thn (hg _ s5 σ3 H5 x u _ I5' r5 (step x H5 y5)) fun _ s6 ⟨σ6,H6,I6,q6⟩=>?_)
  refine wpAny_passesOwn hp (thn (hb _ s6 σ6 H6 _ I6 q6) fun f s7 q7=>?_)
  have again:∀{σ7:St} {H7:Hp},Inv X (pins++tD fp s5.heap) σ7 H7 s7->N σ7 H7->∃m,m<n/\∃i σ' H',Inv X pins σ' H' s7/\tn i s7.heap/\(∀b∈fp,H' b=none)/\W i m σ' H':=fun {σ7 H7} I7 n7=>by
   obtain ⟨m',hm,w7⟩:=hN σ7 H7 n7
   refine ⟨m',hm,i+1,σ7,H7,I7.vz,T.keep _ _ _ st5 fun b hb o e=>(I7.pin (b,o) (List.mem_append_right _ (List.mem_append_right _ (pX hb e)))).1,fun b hb=>?_,w7⟩
   obtain ⟨o,e,d⟩:=T.obj _ _ st5 b hb
   exact (I7.pin (b,o) (List.mem_append_right _ (List.mem_append_right _ (pX hb e)))).2.1
  cases f with
  |next=>obtain ⟨σ7,H7,I7,n7⟩:=q7; exact again I7 n7
  |cont=>obtain ⟨σ7,H7,I7,n7⟩:=q7; exact again I7 n7
  |brk=>obtain ⟨σ7,H7,I7,q7⟩:=q7; exact ⟨σ7,H7,I7.vz,q7⟩
  |ret v=>obtain ⟨x7,σ7,H7,I7,r7,q7⟩:=q7; exact ⟨x7,σ7,H7,I7.vz,r7,q7⟩
end
open PySem PySem.Spec PyProof.Rows
noncomputable abbrev R2:=V->V->Hp->VK->Prop
noncomputable def OpR (X:Cx)(f:Value->Value->Sem Value)(r:R2):Prop:=
 ∀(pins:List (Addr×Obj)) (s:Shared) (σ:St) (H:Hp) (x y:V) (v u:Value) (Q:VK),Inv X pins σ H s->RelV x v->RelV y u->r x y H Q->
  wpAny (model X.prog X.w) X.A (f v u) (EP X pins σ Q) X.xe s
noncomputable def UnR (X:Cx)(f:Value->Sem Value)(r:V->Hp->VK->Prop):Prop:=
 ∀(pins:List (Addr×Obj)) (s:Shared) (σ:St) (H:Hp) (x:V) (v:Value) (Q:VK),Inv X pins σ H s->RelV x v->r x H Q->
  wpAny (model X.prog X.w) X.A (f v) (EP X pins σ Q) X.xe s
noncomputable def jD (X:Cx)(f:Value)(r:List V->Hp->VK->Prop):Prop:=
 ∀(pins:List (Addr×Obj)) (s:Shared) (σ:St) (H:Hp) (xs:List V) (us:List Value) (Q:VK),Inv X pins σ H s->Vals xs us->r xs H Q->
  wpAny (model X.prog X.w) X.A (call f us) (EP X pins σ Q) X.xe s
noncomputable def tOp (r:R2)(ta tb:TE):TE:=fun σ H Q=>ta σ H fun x H1=>tb σ H1 fun y H2=>r x y H2 Q
noncomputable def tUn (r:V->Hp->VK->Prop)(ta:TE):TE:=fun σ H Q=>ta σ H fun x H1=>r x H1 Q
noncomputable def rI (C:Int->Int->Prop)(g:Int->Int->V):R2:=fun x y H Q=>∃i j,x=.int i/\y=.int j/\C i j/\Q (g i j) H
noncomputable def rI0 (g:Int->Int->V):R2:=fun x y H Q=>∃i j,x=.int i/\y=.int j/\Q (g i j) H
noncomputable def rU (g:Int->V):V->Hp->VK->Prop:=fun x H Q=>∃i,x=.int i/\Q (g i) H
section
variable {X:Cx}{a b c:Expr}{ta tb tc:TE}{pos:Pos}
theorem Vp (ha:PE X a ta)(hb:PE X b tb){pins:List (Addr×Obj)}{s:Shared}{σ:St}{H:Hp}{R:V->V->Hp->Prop}(I:Inv X pins σ H s)
  (h:ta σ H fun x H1=>tb σ H1 fun y H2=>R x y H2) {Q:Value->Shared->Prop} {f:Value->Value->Sem Value}
  (hf:∀v u s2 x y H2,Inv X pins σ H2 s2->RelV x v->RelV y u->R x y H2->wpAny (model X.prog X.w) X.A (f v u) Q X.xe s2):
  wpAny (model X.prog X.w) X.A (eval a X.env) (fun v s₁=>wpAny (model X.prog X.w) X.A (eval b X.env) (fun u s₂=>wpAny (model X.prog X.w) X.A (f v u) Q X.xe s₂) X.xe s₁) X.xe s:=by
 refine thn (ha pins s σ H _ I h) fun v s1 hE=>xq2 hE fun x H1 I1 r1 q1=>?_
 refine thn (hb pins s1 σ H1 _ I1 q1) fun u s2 hE=>xq2 hE fun y H2 I2 r2 q2=>?_
 exact hf v u s2 x y H2 I2 r1 r2 q2
theorem Xy {op:Operator}{r:R2}(ho:OpR X (binaryOp op) r)(ha:PE X a ta)(hb:PE X b tb):PE X (.BinOp a op b pos) (tOp r ta tb):=by
 intro pins s σ H Q I h
 exact wpAny_BinOp (Vp ha hb I h fun v u s2 x y H2 I2 rx ry q=>ho pins s2 σ H2 x y v u Q I2 rx ry q)
theorem Xl {op:UnaryOp}{r:V->Hp->VK->Prop}(ho:UnR X (unaryOp op) r)(ha:PE X a ta):PE X (.UnaryOp op a pos) (tUn r ta):=by
 intro pins s σ H Q I h
 exact UnaryOp_ (thn (ha pins s σ H _ I h) fun v s1 hE=>xq2 hE fun x H1 I1 r1 q1=>ho pins s1 σ H1 x v Q I1 r1 q1)
theorem opI {f:Value->Value->Sem Value}{C:Int->Int->Prop}{g:Int->Int->Int}
  (rule:∀(i j:Int) (t u:Tok) (s:Shared) (Q:Value->Shared->Prop) (E:Value->Shared->Prop),C i j->Q (.int (g i j) s.toks) { s with toks:=s.toks+1 }->wpAny (model X.prog X.w) X.A (f (.int i t) (.int j u)) Q E s):
  OpR X f (rI C fun i j=>.int (g i j)):=by
 intro pins s σ H x y v u Q I rx ry h
 obtain ⟨i,j,rfl,rfl,hc,q⟩:=h
 obtain ⟨t,rfl⟩:=rx
 obtain ⟨t',rfl⟩:=ry
 exact rule i j t t' s _ _ hc ⟨.int (g i j),H,I.tok _,⟨_,rfl⟩,q⟩
theorem Xh {f:Value->Value->Sem Value}{g:Int->Int->Int}
  (rule:∀(i j:Int) (t u:Tok) (s:Shared) (Q:Value->Shared->Prop) (E:Value->Shared->Prop),Q (.int (g i j) s.toks) { s with toks:=s.toks+1 }->wpAny (model X.prog X.w) X.A (f (.int i t) (.int j u)) Q E s):
  OpR X f (rI0 fun i j=>.int (g i j)):=by
 intro pins s σ H x y v u Q I rx ry h
 obtain ⟨i,j,rfl,rfl,q⟩:=h
 obtain ⟨t,rfl⟩:=rx
 obtain ⟨t',rfl⟩:=ry
 exact rule i j t t' s _ _ ⟨.int (g i j),H,I.tok _,⟨_,rfl⟩,q⟩
theorem U5 {f:Value->Value->Sem Value}{g:Int->Int->Bool}
  (rule:∀(i j:Int) (t u:Tok) (s:Shared) (Q:Value->Shared->Prop) (E:Value->Shared->Prop),Q (.bool (g i j)) s->wpAny (model X.prog X.w) X.A (f (.int i t) (.int j u)) Q E s):
  OpR X f (rI0 fun i j=>.bl (g i j)):=by
 intro pins s σ H x y v u Q I rx ry h
 obtain ⟨i,j,rfl,rfl,q⟩:=h
 obtain ⟨t,rfl⟩:=rx
 obtain ⟨t',rfl⟩:=ry
 exact rule i j t t' s _ _ ⟨.bl (g i j),H,I,rfl,q⟩
theorem Wg:OpR X (binaryOp .Add) (rI0 fun i j=>.int (i+j)):=Xh fun _ _ _ _ _ _ _ q=>add_int q
theorem V4:OpR X (binaryOp .Sub) (rI0 fun i j=>.int (i - j)):=Xh fun _ _ _ _ _ _ _ q=>sub_int q
theorem Te:OpR X (binaryOp .Mod) (rI (fun _ j=>j≠0) fun i j=>.int (i.fmod j)):=opI fun _ _ _ _ _ _ _ hc q=>mod_int' hc q
theorem unI {f:Value->Sem Value}{g:Int->Int}
  (rule:∀(i:Int) (t:Tok) (s:Shared) (Q:Value->Shared->Prop) (E:Value->Shared->Prop),Q (.int (g i) s.toks) { s with toks:=s.toks+1 }->wpAny (model X.prog X.w) X.A (f (.int i t)) Q E s):
  UnR X f (rU fun i=>.int (g i)):=by
 intro pins s σ H x v Q I rx h
 obtain ⟨i,rfl,q⟩:=h
 obtain ⟨t,rfl⟩:=rx
 exact rule i t s _ _ ⟨.int (g i),H,I.tok _,⟨_,rfl⟩,q⟩
theorem V3:UnR X (unaryOp .USub) (rU fun i=>.int (-i)):=unI fun _ _ _ _ _ q=>neg_int q
end
noncomputable def Yk:V->V->Bool
 | .non,.non=>true | .non,.int _=>true | .int _,.non=>true | .non,.bl _=>true | .bl _,.non=>true | .non,.str _=>true | .str _,.non=>true
 | .int _,.int _=>true | .bl _,.bl _=>true | .str _,.str _=>true | .byt _,.byt _=>true
 | .int _,.str _=>true | .str _,.int _=>true | .bl _,.str _=>true | .str _,.bl _=>true
 |_,_=>false
noncomputable def rEq:R2:=fun x y H Q=>Yk x y=true/\Q (.bl (decide (x=y))) H
noncomputable def rNe:R2:=fun x y H Q=>Yk x y=true/\Q (.bl (!decide (x=y))) H
theorem Kq {i j:Int}:decide (V.int i=V.int j)=(i == j):=by
 rw [Bool.eq_iff_iff]
 simp
theorem Pg {i j:Bool}:decide (V.bl i=V.bl j)=(i == j):=by
 rw [Bool.eq_iff_iff]
 simp
theorem Kr {i j:Str}:decide (V.str i=V.str j)=(i == j):=by
 rw [Bool.eq_iff_iff]
 simp
theorem IW {i j:Array UInt8}:decide (V.byt i=V.byt j)=(i.toList == j.toList):=by
 rw [Bool.eq_iff_iff]
 cases i
 cases j
 simp
section
variable {X:Cx}{a b c:Expr}{ta tb tc:TE}{pos:Pos}
theorem cH {pins:List (Addr×Obj)}{σ:St}{H:Hp}{s:Shared}{Q:VK}{k k':Bool}(I:Inv X pins σ H s)(q:Q (.bl k) H)(e:k=k'):EP X pins σ Q (.bool k') s:=by
 subst e
 exact ⟨.bl k,H,I,rfl,q⟩
theorem JZ:OpR X (compareOp .Eq) rEq:=by
 intro pins s σ H x y v u Q I rx ry h
 obtain ⟨hs,q⟩:=h
 cases x with
 |non=>
  cases rx
  cases y with
  |non=>cases ry; exact PySem.EqNone.eq_none_none (cH I q (by simp))
  |bl j=>cases ry; exact PySem.EqNone.eq_none_bool (cH I q (by simp))
  |int j=>obtain ⟨t',rfl⟩:=ry; exact PySem.EqNone.eq_none_int (cH I q (by simp))
  |str j=>obtain ⟨t',rfl⟩:=ry; exact PySem.EqNone.eq_none_str (cH I q (by simp))
  |_=>exact absurd (show false=true from hs) Bool.false_ne_true
 |bl i=>
  cases rx
  cases y with
  |non=>cases ry; exact PySem.EqNone.eq_bool_none (cH I q (by simp))
  |bl j=>cases ry; exact eq_bool (cH I q Pg)
  |str j=>obtain ⟨t',rfl⟩:=ry; exact PySem.EqMixed.eq_bool_str (cH I q (by simp))
  |_=>exact absurd (show false=true from hs) Bool.false_ne_true
 |int i=>
  obtain ⟨t,rfl⟩:=rx
  cases y with
  |non=>cases ry; exact PySem.EqNone.eq_int_none (cH I q (by simp))
  |int j=>obtain ⟨t',rfl⟩:=ry; exact eq_int (cH I q Kq)
  |str j=>obtain ⟨t',rfl⟩:=ry; exact PySem.EqMixed.eq_int_str (cH I q (by simp))
  |_=>exact absurd (show false=true from hs) Bool.false_ne_true
 |str i=>
  obtain ⟨t,rfl⟩:=rx
  cases y with
  |non=>cases ry; exact PySem.EqNone.eq_str_none (cH I q (by simp))
  |bl j=>cases ry; exact PySem.EqMixed.eq_str_bool (cH I q (by simp))
  |int j=>obtain ⟨t',rfl⟩:=ry; exact PySem.EqMixed.eq_str_int (cH I q (by simp))
  |str j=>obtain ⟨t',rfl⟩:=ry; exact eq_str (cH I q Kr)
  |_=>exact absurd (show false=true from hs) Bool.false_ne_true
 |byt i=>
  obtain ⟨t,rfl⟩:=rx
  cases y with
  |byt j=>obtain ⟨t',rfl⟩:=ry; exact PySem.W.eq_bytes (cH I q IW)
  |_=>exact absurd (show false=true from hs) Bool.false_ne_true
 |_=>cases y <;> exact absurd (show false=true from hs) Bool.false_ne_true
theorem JQ:OpR X (compareOp .NotEq) rNe:=by
 intro pins s σ H x y v u Q I rx ry h
 obtain ⟨hs,q⟩:=h
 cases x with
 |non=>
  cases rx
  cases y with
  |non=>cases ry; exact PySem.EqNone.ne_none_none (cH I q (by simp))
  |bl j=>cases ry; exact PySem.EqNone.ne_none_bool (cH I q (by simp))
  |int j=>obtain ⟨t',rfl⟩:=ry; exact PySem.EqNone.ne_none_int (cH I q (by simp))
  |str j=>obtain ⟨t',rfl⟩:=ry; exact PySem.EqNone.ne_none_str (cH I q (by simp))
  |_=>exact absurd (show false=true from hs) Bool.false_ne_true
 |bl i=>
  cases rx
  cases y with
  |non=>cases ry; exact PySem.EqNone.ne_bool_none (cH I q (by simp))
  |bl j=>cases ry; exact ne_bool (cH I q (congrArg not Pg))
  |str j=>obtain ⟨t',rfl⟩:=ry; exact PySem.EqMixed.ne_bool_str (cH I q (by simp))
  |_=>exact absurd (show false=true from hs) Bool.false_ne_true
 |int i=>
  obtain ⟨t,rfl⟩:=rx
  cases y with
  |non=>cases ry; exact PySem.EqNone.ne_int_none (cH I q (by simp))
  |int j=>obtain ⟨t',rfl⟩:=ry; exact ne_int (cH I q (congrArg not Kq))
  |str j=>obtain ⟨t',rfl⟩:=ry; exact PySem.EqMixed.ne_int_str (cH I q (by simp))
  |_=>exact absurd (show false=true from hs) Bool.false_ne_true
 |str i=>
  obtain ⟨t,rfl⟩:=rx
  cases y with
  |non=>cases ry; exact PySem.EqNone.ne_str_none (cH I q (by simp))
  |bl j=>cases ry; exact PySem.EqMixed.ne_str_bool (cH I q (by simp))
  |int j=>obtain ⟨t',rfl⟩:=ry; exact PySem.EqMixed.ne_str_int (cH I q (by simp))
  |str j=>obtain ⟨t',rfl⟩:=ry; exact ne_str (cH I q (congrArg not Kr))
  |_=>exact absurd (show false=true from hs) Bool.false_ne_true
 |byt i=>
  obtain ⟨t,rfl⟩:=rx
  cases y with
  |byt j=>obtain ⟨t',rfl⟩:=ry; exact PySem.W.ne_bytes (cH I q (congrArg not IW))
  |_=>exact absurd (show false=true from hs) Bool.false_ne_true
 |_=>cases y <;> exact absurd (show false=true from hs) Bool.false_ne_true
theorem XC:OpR X (compareOp .Lt) (rI0 fun i j=>.bl (decide (i<j))):=U5 fun _ _ _ _ _ _ _ q=>lt_int q
theorem Xb:OpR X (compareOp .Gt) (rI0 fun i j=>.bl (decide (j<i))):=U5 fun _ _ _ _ _ _ _ q=>gt_int q
theorem XJ:OpR X (compareOp .GtE) (rI0 fun i j=>.bl (decide (j<=i))):=U5 fun _ _ _ _ _ _ _ q=>ge_int q
theorem bB (b:Expr){op:CmpOp}(h:op≠.In:=by decide)(h2:op≠.NotIn:=by decide):behindInMarks op b=false:=by
 have e1:(op == CmpOp.In)=false:=by cases op <;> first | rfl | exact absurd rfl h
 have e2:(op == CmpOp.NotIn)=false:=by cases op <;> first | rfl | exact absurd rfl h2
 cases b <;> simp [behindInMarks,e1,e2]
theorem TF {op:CmpOp}{r:R2}(ho:OpR X (compareOp op) r)(ha:PE X a ta)(hb:PE X b tb)(hm:behindInMarks op b=false):PE X (.Compare a [op] [b] pos) (tOp r ta tb):=by
 intro pins s σ H Q I h
 exact wpAny_Compare1 (Vp ha hb I h fun v u s2 x y H2 I2 rx ry q=>ho pins s2 σ H2 x y v u Q I2 rx ry q) hm
noncomputable def W7 (t:TE):TT:=fun σ H Q=>t σ H fun x H'=>∃k,x=.bl k/\Q k H'
theorem Sw {op:CmpOp}{r:R2}(ho:OpR X (compareOp op) r)(ha:PE X a ta)(hb:PE X b tb)(hm:behindInMarks op b=false):PT X (.Compare a [op] [b] pos) (W7 (tOp r ta tb)):=by
 intro pins s σ H Q I h
 refine wpAny_isTrue_Compare1 (thn (ha pins s σ H _ I h) fun v s1 hE=>xq2 hE fun x H1 I1 r1 q1=>thn (hb pins s1 σ H1 _ I1 q1) fun u s2 hE=>xq2 hE fun y H2 I2 r2 q2=>
  thn (ho pins s2 σ H2 x y v u _ I2 r1 r2 q2) fun c s3 ⟨z,H3,I3,r3,k,e,q3⟩=>?_) hm
 subst e
 cases r3
 exact wpAny_truthy_bool ⟨H3,I3,q3⟩
theorem vW:(sizeLine:Nat)<2 ^ 63:=by rw [sizeLine_eq]; decide
theorem GJ:OpR X (binaryOp .Add) (fun x y H Q=>∃i j,x=.str i/\y=.str j/\i.length+j.length<=sizeLine/\Q (.str (i++j)) H):=by
 intro pins s σ H x y v u Q I rx ry h
 obtain ⟨i,j,rfl,rfl,hz,q⟩:=h
 obtain ⟨t,rfl⟩:=rx
 obtain ⟨t',rfl⟩:=ry
 exact add_str (fun t' tk=>⟨.str (i++j),H,I.tok _,⟨_,rfl⟩,q⟩) hz
theorem vals1 {x:V}{us:List Value}(r:Vals [x] us):∃u,us=[u]/\RelV x u:=by
 cases r with
 |cons r1 r2=>cases r2; exact ⟨_,rfl,r1⟩
theorem vals2 {x y:V}{us:List Value}(r:Vals [x,y] us):∃u w',us=[u,w']/\RelV x u/\RelV y w':=by
 cases r with
 |cons r1 r2=>
  cases r2 with
  |cons r3 r4=>cases r4; exact ⟨_,_,rfl,r1,r3⟩
theorem Oa:jD X (.builtin "abs") (fun xs H Q=>∃i,xs=[.int i]/\Q (.int (if i<0 then -i else i)) H):=by
 intro pins s σ H xs us Q I r h
 obtain ⟨i,rfl,q⟩:=h
 obtain ⟨u,rfl,t,rfl⟩:=vals1 r
 exact call_abs_int fun u tk=>⟨.int (if i<0 then -i else i),H,I.tok _,⟨_,rfl⟩,q⟩
end
open PySem PySem.Spec PyProof.Rows
structure V9 (h:Heap)(x dx C:Addr)(mA:Str->Option Value):Prop where
 obj:h.get? x=some (PySem.W.instObj C dx)
 ns:h.Ns1 dx mA
 ne:dx≠x
theorem KZ {h:Heap}{dx:Addr}{mA:Str->Option Value}(n:h.Ns1 dx mA):∃od,h.get? dx=some od/\∀name,PySem.W.lookIn name od=some (mA name):=by
 obtain ⟨o,es,ep,ho,hd,hk,_,hm⟩:=n
 refine ⟨o,ho,fun name=>?_⟩
 have e:=hm name
 unfold nsFind findBy at e
 rw [← Array.find?_toList] at e
 unfold PySem.W.lookIn
 rw [hd]
 dsimp only
 split
 ·rename_i y q
  rw [q] at e
  exact congrArg some e
 ·rename_i q
  rw [q] at e
  have a:es.toList.any (·.refKey)=false:=by
   rw [List.any_eq_false]
   intro y hy
   obtain ⟨z,t,hkey⟩:=hk y (Array.mem_toList_iff.mp hy)
   simp [DictEntry.refKey,hkey]
  have a':¬es.toList.any (·.refKey)=true:=by rw [a]; exact Bool.false_ne_true
  rw [if_neg a']
  exact congrArg some e
theorem V9.look {h:Heap}{x dx C:Addr}{mA:Str->Option Value}(I:V9 h x dx C mA):∃od,PySem.W.InstAt h x (PySem.W.instObj C dx) C (some od)/\∀name,PySem.W.lookIn name od=some (mA name):=
 let ⟨od,ho,hl⟩:=KZ I.ns
 ⟨od,⟨I.obj,rfl,rfl,ho⟩,hl⟩
section
variable {prog:Program}{w:World}{A:Around}{E:Value->Shared->Prop}{s:Shared}{K:W.Frag}{x dx C f:Addr}{mA:Str->Option Value}{name:Str}{v:Value}
end
theorem vM.some_of {v:V}{o:Option Value}(r:vM (some v) o):∃u,o=some u/\RelV v u:=by
 cases o with
 |none=>exact (show False from r).elim
 |some u=>exact ⟨u,rfl,r⟩
section
variable {P:Program}{w:World}{H H':Hp}{h h':Heap}{a C dx:Addr}{fs fs':List (Str×V)}
theorem Rh (hok:HOk P w H h)(e:H a=some (.ins C dx fs)):∃mA,V9 h a dx C mA/\(∀f,vM (fs.lookup f) (mA f))/\PySem.Within mA (fs.map (·.1))/\fs.length<=1000/\H dx=some (.own a):=by
 obtain ⟨d,z,ne,ob,mA,n,r,q⟩:=(show dJ P w H h a (.ins C dx fs) from hok a _ e)
 exact ⟨mA,⟨ob,n,ne⟩,r,q,z,d⟩
end
structure Cls (K:W.Frag)(C:Addr):Prop where
 pg:PySem.W.plainGet K C Str.empty=true
 hd:PySem.W.hasDictIn K C=true
 po:PySem.W.plainOver K C=true
 sa:PySem.W.findIn K (.ref C) "__setattr__" = some (some (.builtin "object.__setattr__"))
theorem Cls.get {K:W.Frag}{C:Addr}(c:Cls K C)(f:Str):PySem.W.plainGet K C f=true:=c.pg
section
variable {X:Cx}{pins:List (Addr×Obj)}{σ:St}{H:Hp}{s:Shared}{a C dx:Addr}{fs:List (Str×V)}{f:Str}{v:V}{A:Around}{E:Value->Shared->Prop}
end
section
variable {X:Cx}{o e value:Expr}{f:Str}{pos pos' tpos:Pos}{ta tv:TE}
end
section
variable {X:Cx}{pins:List (Addr×Obj)}{σ:St}{H:Hp}{s:Shared}{A:Around}{E:Value->Shared->Prop}{Q:Value->Shared->Prop}{c:Value}{b:Bool}
inductive vK (K:W.Frag)(H:Hp):V->Value->Prop where
 |non:vK K H .non (.type "NoneType")
 |bl (x:Bool):vK K H (.bl x) (.type "bool")
 |int (i:Int):vK K H (.int i) (.type "int")
 |str (x:Str):vK K H (.str x) (.type "str")
 |flt (x:UInt64):vK K H (.flt x) (.type "float")
 |lst {a:Addr} {xs:List V} (e:H a=some (.lst xs)):vK K H (.ref a) (.type "list")
 |frz {a:Addr} {o:Obj} {xs:List V} (e:H a=some (.frz o (.lst xs))):vK K H (.ref a) (.type "list")
 |tup {a:Addr} {xs:List V} (e:H a=some (.tup xs)):vK K H (.ref a) (.type "tuple")
 |dK {a:Addr} {kvs:List (Key×V)} (e:H a=some (.dK kvs)):vK K H (.ref a) (.type "dict")
 |dT {a:Addr} {T:Addr->List V->Prop} {kvs:List (List Kt×V)} (e:H a=some (.dT T kvs)):vK K H (.ref a) (.type "dict")
 |ins {a C dx:Addr} {fs:List (Str×V)} (e:H a=some (.ins C dx fs)) (cl:Cls K C) (ha:PySem.W.findIn K (.ref C) "__class__" = some (some (.builtin "object.__class__")))
   (hn:PySem.W.specialIn K (.builtin "object.__class__") "__get__" = some (some (.builtin "getset_descriptor.__get__"))) (htk:PySem.W.takesIn K (.builtin "object.__class__")=some true)
   (hm:PySem.W.mroIn K C (.type "object")=some true):vK K H (.ref a) (.ref C)
theorem KJ {x:V}{u t:Value}(I:Inv X pins σ H s)(rx:RelV x u)(ty:vK X.K H x t)(e:PySem.W.kitOne X.K t c=some b)(h:∀tk,Q (.bool b) { s with toks:=tk }):
  wpAny (model X.prog X.w) A (call (.builtin "isinstance") [u,c]) Q E s:=by
 cases ty with
 |non=>cases (show u=Value.none from rx); exact PySem.W.kia_one PySem.W.kitx_none I.kIn True.intro e (fun z=>nomatch z) h
 |bl y=>cases (show u=Value.bool y from rx); exact PySem.W.kia_one PySem.W.kitx_bool I.kIn True.intro e (fun z=>nomatch z) h
 |int i=>obtain ⟨t,q⟩:=(show ∃t,u=Value.int i t from rx); cases q; exact PySem.W.kia_one PySem.W.kitx_int I.kIn True.intro e (fun z=>nomatch z) h
 |str y=>obtain ⟨t,q⟩:=(show ∃t,u=Value.str y t from rx); cases q; exact PySem.W.kia_one PySem.W.kitx_str I.kIn True.intro e (fun z=>nomatch z) h
 |flt y=>obtain ⟨t,q⟩:=(show ∃t,u=Value.float y t from rx); cases q; exact PySem.W.kia_one PySem.W.kitx_float I.kIn True.intro e (fun z=>nomatch z) h
 | @lst a xs ea=>
  cases (show u=Value.ref a from rx)
  obtain ⟨_,_,n,_,h1⟩:=(show dJ X.prog X.w H s.heap a (.lst xs) from I.hok a _ ea)
  exact PySem.W.kia_one PySem.W.kitx_list I.kIn ⟨_,h1,rfl⟩ e (fun z=>nomatch z) h
 | @frz a ob xs ea=>
  cases (show u=Value.ref a from rx)
  obtain ⟨_,_,_,n,_,h1⟩:=(show dJ X.prog X.w H s.heap a (.frz ob (.lst xs)) from I.hok a _ ea)
  exact PySem.W.kia_one PySem.W.kitx_list I.kIn ⟨_,h1,rfl⟩ e (fun z=>nomatch z) h
 | @tup a xs ea=>
  cases (show u=Value.ref a from rx)
  obtain ⟨_,_,_,p⟩:=(show dJ X.prog X.w H s.heap a (.tup xs) from I.hok a _ ea)
  obtain ⟨o,h1,h2,_⟩:=p
  exact PySem.W.kia_one PySem.W.kitx_tuple I.kIn ⟨o,h1,h2⟩ e (fun z=>nomatch z) h
 | @dK a kvs ea=>
  cases (show u=Value.ref a from rx)
  obtain ⟨_,_,vs,_,p⟩:=(show dJ X.prog X.w H s.heap a (.dK kvs) from I.hok a _ ea)
  obtain ⟨o,es,ep,h1,h2,_⟩:=p
  exact PySem.W.kia_one PySem.W.kitx_dict I.kIn ⟨o,h1,h2.1⟩ e (fun z=>nomatch z) h
 | @dT a T kvs ea=>
  cases (show u=Value.ref a from rx)
  obtain ⟨_,_,xs,_,o,es,ep,h1,h2,_⟩:=(show dJ X.prog X.w H s.heap a (.dT T kvs) from I.hok a _ ea)
  exact PySem.W.kia_one PySem.W.kitx_dict I.kIn ⟨o,h1,h2.1⟩ e (fun z=>nomatch z) h
 | @ins a C dx fs ea cl ha hn htk hm=>
  cases (show u=Value.ref a from rx)
  obtain ⟨mA,O,_⟩:=Rh I.hok ea
  obtain ⟨od,J,_⟩:=O.look
  exact PySem.W.kia_one (PySem.W.kitx_own (cl.get _) cl.hd ha hn htk hm) I.kIn J e (fun z=>nomatch z) h
end
open PySem PySem.Spec PyProof.Rows
structure ig (k:Nat)(A:Around):Prop where
 hd:A.handled=none
 dp:A.depth+3 * k+5<recursionLimit
 un:A.units+16 * k+200<cLine
 gd:A.guards=some []
theorem ig.mono {j k:Nat}{A:Around}(r:ig k A)(h:j<=k):ig j A:=⟨r.hd,by have:=r.dp; omega,by have:=r.un; omega,r.gd⟩
theorem ig.deeper {k:Nat}{A:Around}(r:ig (k+1) A)(env:Env):ig k (A.deeper env):=
 ⟨r.hd,by have:=r.dp; show A.depth+1+3 * k+5<_; omega,by have:=r.un; show A.units+3+16 * k+200<_; omega,r.gd⟩
theorem ig.in1 {k:Nat}{A:Around}(r:ig (k+1) A):ig k A.in1:=
 ⟨r.hd,by have:=r.dp; show A.depth+3 * k+5<_; omega,by have:=r.un; show A.units+1+16 * k+200<_; omega,r.gd⟩
theorem ig.depth {k:Nat}{A:Around}(r:ig k A):A.depth<recursionLimit:=by have:=r.dp; omega
theorem ig.units {k:Nat}{A:Around}(r:ig k A):A.units+64<cLine:=by have:=r.un; omega
noncomputable def ZC:TA:=fun _ H Q=>Q [] H
noncomputable def XQ (ta:TE)(tr:TA):TA:=fun σ H Q=>ta σ H fun x H1=>tr σ H1 fun xs H2=>Q (x::xs) H2
section
variable {X:Cx}{e:Expr}{es:List Expr}{te:TE}{t:TA}{pos:Pos}
theorem qQ:PA X [] ZC:=fun _ _ _ _ H Q I h=>Calls.spliced_nil ⟨[],H,I,.nil,h⟩
theorem jY (ha:PE X e te)(hr:PA X es t)(hs:starEach (e::es) X.env=(false,eval e X.env)::starEach es X.env:=by rfl):PA X (e::es) (XQ te t):=by
 intro pos pins s σ H Q I h
 rw [hs]
 show wpAny _ _ (spliced ((false,eval e X.env)::backTo pos (starEach es X.env))) _ _ s
 refine Calls.spliced_cons (thn (ha pins s σ H _ I h) fun u s1 hE=>xq2 hE fun x H1 I1 r1 q1=>?_)
 exact thn (hr pos pins s1 σ H1 _ I1 q1) fun us s2 hE=>xq2 hE fun xs H2 I2 r2 q2=>⟨x::xs,H2,I2,.cons r1 r2,q2⟩
noncomputable def Y9 (t:TA):TE:=fun σ H Q=>t σ H fun xs H1=>xs.length<=sizeLine/\∀p,H1 p=none->Q (.ref p) (upd H1 p (.tup xs))
noncomputable def ZJ (t:TA):TE:=fun σ H Q=>t σ H fun xs H1=>xs.length<=sizeLine/\∀p,H1 p=none->Q (.ref p) (upd H1 p (.lst xs))
theorem W6 {x1}(h:PA X es t):PE X (.Tuple es x1 pos) (Y9 t):=by
 intro pins s σ H Q I hq
 refine wpAny_Tuple_spliced (thn (h pos pins s σ H _ I hq) fun us s1 ⟨xs,H1,I1,r,z,q⟩=>⟨by rw [← r.length]; exact z,?_⟩)
 have hf:H1 s1.heap.objs.size=none:=I1.hok.fresh (Nat.le_refl _)
 refine ⟨.ref s1.heap.objs.size,upd H1 s1.heap.objs.size (.tup xs),I1.laid (t':=s1.toks) (fun b u e=>Heap.get?_push_of_some _ e) (Nat.le_refl _) ?_,rfl,q _ hf⟩
 exact ⟨z,us,r,⟨_,Heap.get?_push_size _ rfl,rfl,_,rfl⟩⟩
theorem Wo (h:PA X es t):PE X (.List es pos) (ZJ t):=by
 intro pins s σ H Q I hq
 refine wpAny_List_spliced (thn (h pos pins s σ H _ I hq) fun us s1 ⟨xs,H1,I1,r,z,q⟩=>⟨by rw [← r.length]; exact z,?_⟩)
 have hf:H1 s1.heap.objs.size=none:=I1.hok.fresh (Nat.le_refl _)
 refine ⟨.ref s1.heap.objs.size,upd H1 s1.heap.objs.size (.lst xs),I1.laid (t':=s1.toks) (fun b u e=>Heap.get?_push_of_some _ e) (Nat.le_refl _) ?_,rfl,q _ hf⟩
 exact ⟨z,us,0,r,Heap.get?_push_size _ rfl⟩
end
noncomputable abbrev Sp:=List V->Hp->VK->XK->Prop
noncomputable abbrev CXT:=List Env->Hp->Shared->XK->Value->Shared->Prop
structure Hs (P:Program)(w:World)(K:W.Frag)(mg:Str->Option Value)(base:Heap)(A:Around)(outer:List Env)(s:Shared)(H:Hp):Prop where
 frames:A.frames=some outer
 mod:Mod K mg base
 bs:∀b o,base.get? b=some o->s.heap.get? b=some o/\H b=none
 bsz:base.objs.size<=s.heap.objs.size
 wX:s.heap.FunFrames base outer
 frf:∀b∈frs outer,H b=none
 hok:HOk P w H s.heap
 bare:AllBare s.gens
noncomputable def CE (outer:List Env)(P:Program)(w:World)(H:Hp)(s:Shared)(Q:VK)(u:Value)(s':Shared):Prop:=
 ∃v H',s'.os=s.os/\AllBare s'.gens/\Un (frs outer) [] H H' s.heap s'.heap/\HOk P w H' s'.heap/\RelV v u/\Q v H'
noncomputable def CR (CX:CXT)(outer:List Env)(P:Program)(w:World)(H:Hp)(s:Shared)(Q:VK)(E:XK)(r:Result)(s':Shared):Prop:=
 match r with
 | .ok (.ret u)=>CE outer P w H s Q u s'
 | .ok _=>False
 | .error e=>CX outer H s E e s'
structure cT (P:Program)(w:World)(K:W.Frag)(mg:Str->Option Value)(base:Heap)(CX:CXT)(k:Nat)(f:Addr)(fd:FuncData)(ps:List Str)(sp:Sp):Prop where
 len:∀vs H Q E,sp vs H Q E->vs.length=ps.length
 run:∀(A:Around) (outer:List Env) (s:Shared) (H:Hp) (args:Args) (us:List Value) (vs:List V) (Q:VK) (E:XK),ig k A->Hs P w K mg base A outer s H->BindsTo s fd args (ps.zip us)->Vals vs us->sp vs H Q E->
  codeAny (model P w) A (.call (.ref f) args) (CR CX outer P w H s Q E) s
theorem cT.imp {P:Program}{w:World}{K:W.Frag}{mg:Str->Option Value}{base:Heap}{CX:CXT}{k:Nat}{f:Addr}{fd:FuncData}{ps:List Str}{sp sp':Sp}(F:cT P w K mg base CX k f fd ps sp)
  (h:∀vs H Q E,sp' vs H Q E->sp vs H Q E):cT P w K mg base CX k f fd ps sp':=
 ⟨fun vs H Q E q=>F.len vs H Q E (h _ _ _ _ q),fun A outer s H args us vs Q E hr he hb hv hs=>F.run A outer s H args us vs Q E hr he hb hv (h _ _ _ _ hs)⟩
theorem Hs.in1 {P:Program}{w:World}{K:W.Frag}{mg:Str->Option Value}{base:Heap}{A:Around}{outer:List Env}{s:Shared}{H:Hp}(e:Hs P w K mg base A outer s H):
  Hs P w K mg base A.in1 outer s H:=⟨e.frames,e.mod,e.bs,e.bsz,e.wX,e.frf,e.hok,e.bare⟩
section
variable {X:Cx}{pins:List (Addr×Obj)}{σ:St}{H:Hp}{s s':Shared}
theorem Inv.env0 (I:Inv X pins σ H s):Hs X.prog X.w X.K X.mg X.base X.A X.stack s H:=
 ⟨I.ok.frames,I.ok.mod,I.bs,Nat.le_trans I.ok.bsz I.sz,I.stack,I.Jf,I.hok,I.bare⟩
theorem Inv.after {Q:VK}{u:Value}(I:Inv X pins σ H s)(h:CE X.stack X.prog X.w H s Q u s'):EP X pins σ Q u s':=by
 obtain ⟨v,H',os,bare,un,hok,r,q⟩:=h
 obtain ⟨hh,g,d,t,os'⟩:=s'
 obtain rfl:os'=s.os:=os
 exact ⟨v,H',I.call (h':=hh) (g':=g) (d':=d) (t':=t) (ch:=[]) un hok bare (fun b z=>absurd z (by simp)),r,q⟩
end
noncomputable def Yl (sp:Sp)(dvs:List V)(E:XK)(t:TA):TE:=fun σ H Q=>t σ H fun vs H1=>sp (vs++dvs) H1 Q E
noncomputable def Binds (K:W.Frag)(fd:FuncData)(ps:List Str)(ds:List Value):Prop:=
 ∀(s:Shared) (us:List Value),K.In s.heap->(us++ds).length=ps.length->BindsTo s fd ⟨us,[]⟩ (ps.zip (us++ds))
theorem Binds.all {K:W.Frag}{fd:FuncData}{ps:List Str}(h:∀us:List Value,us.length=ps.length->bindArgs fd ⟨us,[]⟩=pure (ps.zip us)):Binds K fd ps []:=fun s us _ hl=>by
 rw [List.append_nil] at hl ⊢
 exact .of_eq (h us hl)
noncomputable def Passes (CX:CXT)(X:Cx)(E:XK):Prop:=∀(pins:List (Addr×Obj)) (σ:St) (H:Hp) (s:Shared) (e:Value) (s':Shared),Inv X pins σ H s->CX X.stack H s E e s'->X.xe e s'
section
variable {X:Cx}{CX:CXT}{k:Nat}{f C:Addr}{fd:FuncData}{ps:List Str}{sp:Sp}{dvs:List V}{ds:List Value}{E:XK}{x m:Str}{p pos apos:Pos}{e o:Expr}{es:List Expr}{ta:TE}{t:TA}
theorem WN {pins:List (Addr×Obj)}{σ:St}{H:Hp}{s:Shared}{Q:VK}{us:List Value}{vs:List V}(F:cT X.prog X.w X.K X.mg X.base CX k f fd ps sp)(hr:ig k X.A)(hb:Binds X.K fd ps ds)(hd:Vals dvs ds)(hx:Passes CX X E)
  (I:Inv X pins σ H s) (r:Vals vs us) (h:sp (vs++dvs) H Q E):wpAny (model X.prog X.w) X.A (call (.ref f) us) (EP X pins σ Q) X.xe s:=by
 have r2:Vals (vs++dvs) (us++ds):=r.append hd
 have hl:(us++ds).length=ps.length:=by rw [← r2.length]; exact F.len _ _ _ _ h
 refine wpAny_call (codeAny_mono (F.run X.A X.stack s H ⟨us,[]⟩ (us++ds) (vs++dvs) Q E hr I.env0 (hb s us I.kIn hl) r2 h) fun r s' hq=>?_)
 cases r with
 |error e=>exact hx pins σ H s e s' I hq
 |ok fl=>
  cases fl with
  |ret u=>exact I.after hq
  |next=>exact False.elim hq
  |brk=>exact False.elim hq
  |cont=>exact False.elim hq
theorem xR (F:cT X.prog X.w X.K X.mg X.base CX k f fd ps sp)(hr:ig k X.A)(hg:Gl X x)(hm:X.mg x=some (.ref f))(hk:W.keepIn X.K (.ref f)=true)(hb:Binds X.K fd ps ds)(hd:Vals dvs ds)(hx:Passes CX X E)
  (ha:PA X (e::es) t) (hdb:(x == ("__debug__" : Str))=false:=by decide) (he:starEach (e::es) X.env=(false,eval e X.env)::starEach es X.env:=by rfl) (hpl:(backTo pos (starEach es X.env)).any (·.1)=false:=by rfl):
  PE X (.Call (.Name x p) (e::es) [] pos) (Yl sp dvs E t):=by
 intro pins s σ H Q I h
 refine wpAny_Call_Name_kw (Jx I hg hm ?_ hdb)
 refine PySem.W.callWith_K (h₀:=X.base) I.ok.mod.kin hk (thn (ha pos pins s σ H _ I h) fun us s1 hE=>xq2 hE fun vs H1 I1 r q=>⟨I1.kIn,?_⟩) he hpl
 exact WN F hr hb hd hx I1 r q
end
section
variable {X:Cx}{CX:CXT}{k:Nat}{f C:Addr}{fd:FuncData}{ps ks:List Str}{sp:Sp}{E:XK}{x m:Str}{p pos apos kpos:Pos}{e o:Expr}{es:List Expr}{kws:List Keyword}{te ta:TE}{t tk:TA}{nm:Option Str}
variable {g:List Value->List Value->List Value}{gV:List V->List V->List V}
end
structure aV (N P:List Str)(sc:Scope):Prop where
 kind:sc.kind=.function
 co:sc.isCoroutine=false
 gen:sc.isGenerator=false
 nd:N.Nodup
 pre:N.take P.length=P
 par:∀x∈P,sc.names.lookup x=some .local\/sc.names.lookup x=some .cell
 nofree:∀y∈sc.names,y.2≠.free
theorem z7 {kindOf:Str->Option NameKind}{x:Str}:∀{binds:List (Str×Value)} {m:Str->Option Value},(∀v,(x,v)∉binds)->bindL kindOf binds m x=m x
 |[],_,_=>rfl
 |(n,v)::r,m,h=>by
  unfold bindL
  rw [z7 fun w hw=>h w (List.mem_cons_of_mem _ hw)]
  split
  ·have:x≠n:=by rintro rfl; exact h v List.mem_cons_self
   simp [this]
  ·rfl
theorem z9 {kindOf:Str->Option NameKind}{x:Str}:∀{binds:List (Str×Value)} {m:Str->Option Value},(∀v,(x,v)∉binds)->bindC kindOf binds m x=m x
 |[],_,_=>rfl
 |(n,v)::r,m,h=>by
  unfold bindC
  rw [z9 fun w hw=>h w (List.mem_cons_of_mem _ hw)]
  split
  ·rfl
  ·have:x≠n:=by rintro rfl; exact h v List.mem_cons_self
   simp [this]
theorem An {kindOf:Str->Option NameKind}{x:Str}{v:Value}:∀{P:List Str} {vs:List Value} {i:Nat} {m:Str->Option Value},P.Nodup->P[i]? = some x->vs[i]? = some v->kindOf x=some .local->
  bindL kindOf (P.zip vs) m x=some v
 |[],_,_,_,_,h,_,_=>by simp at h
 |_::_,[],_,_,_,_,h,_=>by simp at h
 |p::P,w::vs,0,m,nd,h1,h2,hk=>by
  simp at h1 h2; subst h1; subst h2
  show bindL kindOf ((p,w)::P.zip vs) m p=_
  unfold bindL
  rw [z7 fun v hv=>(List.nodup_cons.mp nd).1 (List.of_mem_zip hv).1,if_pos hk]
  simp
 |p::P,w::vs,i+1,m,nd,h1,h2,hk=>by
  show bindL kindOf ((p,w)::P.zip vs) m x=_
  unfold bindL
  exact An (i:=i) (List.nodup_cons.mp nd).2 (by simpa using h1) (by simpa using h2) hk
theorem Ar {kindOf:Str->Option NameKind}{x:Str}{v:Value}:∀{P:List Str} {vs:List Value} {i:Nat} {m:Str->Option Value},P.Nodup->P[i]? = some x->vs[i]? = some v->kindOf x≠some .local->
  bindC kindOf (P.zip vs) m x=some v
 |[],_,_,_,_,h,_,_=>by simp at h
 |_::_,[],_,_,_,_,h,_=>by simp at h
 |p::P,w::vs,0,m,nd,h1,h2,hk=>by
  simp at h1 h2; subst h1; subst h2
  show bindC kindOf ((p,w)::P.zip vs) m p=_
  unfold bindC
  rw [z9 fun v hv=>(List.nodup_cons.mp nd).1 (List.of_mem_zip hv).1,if_neg hk]
  simp
 |p::P,w::vs,i+1,m,nd,h1,h2,hk=>by
  show bindC kindOf ((p,w)::P.zip vs) m x=_
  unfold bindC
  exact Ar (i:=i) (List.nodup_cons.mp nd).2 (by simpa using h1) (by simpa using h2) hk
noncomputable def start (N:List Str)(vs:List V):St:=vs.map some++List.replicate (N.length - vs.length) none
noncomputable def xW (CX:CXT)(P:Program)(w:World)(K:W.Frag)(mg:Str->Option Value)(base:Heap)(N:List Str)(qual:Str)(scope:Scope)(f:Addr)(cd:Value)(A:Around)(outer:List Env)(s:Shared)(H:Hp)(E:XK):Cx where
 prog:=P
 w:=w
 K:=K
 mg:=mg
 base:=base
 A:=A.deeper (envOfC qual scope s.heap.objs.size f cd)
 N:=N
 s₀:=s
 H₀:=H
 env:=envOfC qual scope s.heap.objs.size f cd
 outer:=outer
 stack:=envOfC qual scope s.heap.objs.size f cd::outer
 ex:=[]
 calm:=true
 fn:=fun _=>true
 pn:=[]
 xe:=fun e s'=>wpAny (model P w) (A.deeper (envOfC qual scope s.heap.objs.size f cd)) (leaving (envOfC qual scope s.heap.objs.size f cd) e) (fun _ s''=>CX outer H s E e s'') (fun e' s''=>CX outer H s E e' s'') s'
theorem Gg {sc:Scope}{n:Nat}{x:Str}(h:sc.names.lookup x=some .cell):∃c,(cellsFrom n sc.names []).lookup x=some c:=by
 have q:=PySem.W.cellsFrom_some sc.names n [] (.inl h)
 exact Option.isSome_iff_exists.mp q
theorem KR {CX:CXT}{P:Program}{w:World}{K:W.Frag}{mg:Str->Option Value}{base:Heap}{N ps:List Str}{qual:Str}{scope:Scope}{f:Addr}{cd:Value}{A:Around}{outer:List Env}{s s1:Shared}{H:Hp}{E:XK}{us:List Value}{vs:List V}
  (S:aV N ps scope) (hd:A.handled=none) (e0:Hs P w K mg base A outer s H) (hl:vs.length=ps.length) (r:Vals vs us)
  (x:InCallC s s.heap.objs.size (bindL (envOfC qual scope s.heap.objs.size f cd).kindOf (ps.zip us) fun _=>none) (cellsFrom (s.heap.objs.size+1) scope.names []) (bindC (envOfC qual scope s.heap.objs.size f cd).kindOf (ps.zip us) fun _=>none) s1):
  Inv (xW CX P w K mg base N qual scope f cd A outer s H E) [] (start N vs) H s1:=by
 have hpl:ps.length<=N.length:=by have:=congrArg List.length S.pre; rw [List.length_take] at this; omega
 obtain ⟨h1,tk,rfl,hk⟩:=x.done
 have noA:∀b:Addr,b∉(xW CX P w K mg base N qual scope f cd A outer s H E).ex:=fun b z=>absurd (show b∈([]:List Addr) from z) (by simp)
 refine ⟨⟨e0.mod,S.kind,rfl,rfl,Nat.le_refl _,fun y z c h1 h2=>?_,fun y hy=>?_,fun y c _ h=>?_,fun _=>hd,Around.frames_deeper e0.frames,.inr ⟨rfl,rfl⟩,fun b z=>absurd z (noA b),e0.bs,e0.bsz,fun b _ _=>noA b,fun b z=>absurd z (noA b),e0.wX,e0.frf⟩,
  rfl,e0.bare,Un.kept hk,⟨_,x.toInCall.ns,fun i y v h1 h2 h3=>?_⟩,fun y c h=>⟨_,x.cell y c h⟩,e0.hok.fresh (Nat.le_refl _),fun y c h=>?_,fun p hp=>absurd (show p∈([]:List (Addr×Obj)) from hp) (by simp),e0.hok.kept hk,?_⟩
 ·exact name_of_addr x.apart (PySem.mem_of_lookup h1) (PySem.mem_of_lookup h2)
 ·have hy:scope.names.lookup y=some .cell\/scope.names.lookup y=some .free:=hy
  rcases hy with hy | hy
  ·exact Gg hy
  ·exact absurd rfl (S.nofree _ (PySem.mem_of_lookup hy))
 ·exact Nat.le_of_lt (x.above y c (PySem.mem_of_lookup h))
 ·have hi:i<vs.length:=by
   unfold start at h2
   by_cases hi:i<vs.length
   ·exact hi
   ·rw [List.getElem?_append_right (by simpa using hi)] at h2
    rw [List.getElem?_replicate] at h2
    split at h2 <;> cases h2
  have ha:vs[i]? = some v:=by
   unfold start at h2
   rw [List.getElem?_append_left (by simpa using hi),List.getElem?_map] at h2
   cases e:vs[i]? with
   |none=>rw [e] at h2; cases h2
   |some a=>rw [e] at h2; cases h2; rfl
  obtain ⟨u,hu,rv⟩:=r.get ha
  have hp:ps[i]? = some y:=by
   rw [← S.pre,List.getElem?_take_of_lt (by omega)]; exact h1
  have ndP:ps.Nodup:=by rw [← S.pre]; exact S.nd.sublist (List.take_sublist _ _)
  refine ⟨u,rv,?_⟩
  rcases S.par y (List.mem_of_getElem? hp) with k | k
  ·exact .inl ⟨k,An ndP hp hu k⟩
  ·obtain ⟨c,e⟩:=Gg (n:=s.heap.objs.size+1) k
   refine .inr ⟨.inl k,c,e,?_⟩
   have q:=x.cell y c e
   rw [Ar ndP hp hu (by show scope.names.lookup y≠_; rw [k]; decide)] at q
   exact q
 ·exact e0.hok.fresh (Nat.le_of_lt (x.above y c (PySem.mem_of_lookup h)))
 ·unfold start
  show _=N.length
  rw [List.length_append,List.length_map,List.length_replicate]
  omega
theorem X6 {CX:CXT}{P:Program}{w:World}{K:W.Frag}{mg:Str->Option Value}{base:Heap}{k:Nat}{f:Addr}{name qual:Str}{params:Arguments}{body:List Stmt}{scope:Scope}{dV kV doc pm cdv ct oc:Value}{an od:Option Addr}
  {osl:Array (Option Value)} {N ps:List Str} {sp:Sp} (lk:K.lookup f=some ⟨oc,od,.func (W.fnOf name qual params body scope dV kV doc pm an cdv ct),osl⟩) (hcd:W.codeIn K cdv qual=true) (S:aV N ps scope)
  (len:∀vs H Q E,sp vs H Q E->vs.length=ps.length)
  (hbody:∀(A:Around) (outer:List Env) (s:Shared) (H:Hp) (vs:List V) (Q:VK) (E:XK),ig k (A.deeper (envOfC qual scope s.heap.objs.size f cdv))->sp vs H Q E->
   ∃t,PSs (xW CX P w K mg base N qual scope f cdv A outer s H E) body t/\t { nx:=fun _ H'=>Q .non H',rt:=Q } (start N vs) H):
  cT P w K mg base CX (k+1) f (W.fnOf name qual params body scope dV kV doc pm an cdv ct) ps sp:=by
 refine ⟨len,fun A outer s H args us vs Q E hr e0 hb r hsp=>?_⟩
 have hl:=len _ _ _ _ hsp
 have KX:K.In s.heap:=e0.mod.kin.keeps fun b o e=>(e0.bs b o e).1
 have lim:s.heap.NoLimit:=e0.mod.nolimit.keeps fun b o e=>(e0.bs b o e).1
 have hkind:∀y∈ps.zip us,scope.names.lookup y.1=some .local\/(scope.names.lookup y.1=some .cell/\((cellsFrom (s.heap.objs.size+1) scope.names []).lookup y.1).isSome=true):=fun ⟨n,v⟩ hy=>by
  rcases S.par n (List.of_mem_zip hy).1 with q | q
  ·exact .inl q
  ·exact .inr ⟨q,PySem.W.cellsFrom_some _ _ _ (.inl q)⟩
 refine codeAny_call_function hr.depth (KX _ _ lk) rfl S.co S.gen rfl (PySem.W.codeRec_of KX hcd) (hb _ _ _ _ ?_)
 refine wpAny_newFunctionEnv_cells S.kind hkind fun env he s1 x=>?_
 subst he
 refine ⟨lim.keeps x.toInCall.keep,codeAny_func ?_⟩
 obtain ⟨t,ht,hq⟩:=hbody A outer s H vs Q E (hr.deeper _) hsp
 have I:Inv (xW CX P w K mg base N qual scope f cdv A outer s H E) [] (start N vs) H s1:=KR S hr.hd e0 hl r x
 refine wpAny_mono (ht [] s1 (start N vs) H _ I hq) (fun fl s' hs=>?_) fun e s' hs=>hs
 have fin:∀{σ':St} {H':Hp} {v:V} {u:Value},Inv (xW CX P w K mg base N qual scope f cdv A outer s H E) [] σ' H' s'->RelV v u->Q v H'->CE outer P w H s Q u s':=
  fun {σ' H' v u} J rv q=>⟨v,H',J.os,J.bare,J.base,J.hok,rv,q⟩
 cases fl with
 |ret u=>
  obtain ⟨v,σ',H',J,rv,q⟩:=hs
  exact fin J rv q
 |next=>
  obtain ⟨σ',H',J,q⟩:=hs
  exact fin (v:=V.non) (u:=Value.none) J rfl q
 |brk=>
  obtain ⟨_,_,_,q⟩:=hs
  exact False.elim q
 |cont=>
  obtain ⟨_,_,_,q⟩:=hs
  exact False.elim q
open PySem PySem.Spec PyProof.Rows
section
variable {X:Cx}{x:Str}{p pos:Pos}{e:Expr}{es:List Expr}{t:TA}{id T:String}{r:List V->Hp->VK->Prop}
noncomputable def tCB (r:List V->Hp->VK->Prop)(t:TA):TE:=fun σ H Q=>t σ H fun vs H1=>r vs H1 Q
theorem DN (hc:jD X (.builtin id) r)(hg:Gl X x)(hm:X.mg x=none)(hv:bootBuiltins x=some (.builtin id))(ha:PA X (e::es) t)(hn:x≠"__name__":=by decide)(hdb:(x == ("__debug__" : Str))=false:=by decide)
  (he:starEach (e::es) X.env=(false,eval e X.env)::starEach es X.env:=by rfl) (hpl:(backTo pos (starEach es X.env)).any (·.1)=false:=by rfl):PE X (.Call (.Name x p) (e::es) [] pos) (tCB r t):=by
 intro pins s σ H Q I h
 refine wpAny_Call_Name_kw (p6 I hg hm hv ?_ hn hdb)
 exact PyProof.Rows.callWith_builtin1 (thn (ha pos pins s σ H _ I h) fun us s1 hE=>xq2 hE fun vs H1 I1 r1 q1=>hc pins s1 σ H1 vs us Q I1 r1 q1) he hpl
theorem vG (hc:jD X (.type T) r)(hg:Gl X x)(hm:X.mg x=none)(hv:bootBuiltins x=some (.type T))(ha:PA X (e::es) t)(hn:x≠"__name__":=by decide)(hdb:(x == ("__debug__" : Str))=false:=by decide)
  (he:starEach (e::es) X.env=(false,eval e X.env)::starEach es X.env:=by rfl) (hpl:(backTo pos (starEach es X.env)).any (·.1)=false:=by rfl):PE X (.Call (.Name x p) (e::es) [] pos) (tCB r t):=by
 intro pins s σ H Q I h
 refine wpAny_Call_Name_kw (p6 I hg hm hv ?_ hn hdb)
 exact PyProof.Rows.callWith_type1 (thn (ha pos pins s σ H _ I h) fun us s1 hE=>xq2 hE fun vs H1 I1 r1 q1=>hc pins s1 σ H1 vs us Q I1 r1 q1) he hpl
end
end L2
namespace HT
open PySem PyProof.Rows
noncomputable def lexLt:List Int->List Int->Bool
 |[],[]=>false
 |[],_::_=>true
 |_::_,[]=>false
 |x::xs,y::ys=>if x=y then lexLt xs ys else decide (x<y)
theorem G7 (x y:Int)(xs ys:List Int):lexLt (x::xs) (y::ys)=if x=y then lexLt xs ys else decide (x<y):=rfl
theorem zN:lexLt [] []=false:=rfl
theorem yE (y:Int)(ys:List Int):lexLt [] (y::ys)=true:=rfl
theorem yj (x:Int)(xs:List Int):lexLt (x::xs) []=false:=rfl
theorem N8 (A:Around)(s:Shared)(a:Int)(t:Tok)(c:Int)(u:Tok):∃e,SeqAt.EqAt A s (.int a t) (.int c u) e/\(e=true↔a=c):=
 ⟨(a == c),SeqAt.EqAt.int_int a t c u,by simp⟩
theorem PN (A:Around)(s:Shared)(a:Int)(t:Tok)(c:Int)(u:Tok)(prog:Program)(w:World)(E:Value->Shared->Prop)(Q:Value->Shared->Prop)(h:Q (.bool (decide (a<c))) s):
  wpAny (model prog w) A (richCompare .Lt (.int a t) (.int c u)) Q E s:=
 (PyProof.Rows.lt_int h:wpAny (model prog w) A (compareOp .Lt (.int a t) (.int c u)) Q E s)
section
open PySem.SeqAt
open PySem.AutoSeq1 (wpAny_loadPart')
open PySem.MeetsSeq PySem.MeetsSeq2 PySem.MeetsSeq3
theorem zK (l b:Addr)(items items2:Array Value)(n n2:Nat)(dd dd2:Option Addr)(sl sl2:Array (Option Value))(ns ms:List Int)(hi:IntsAre items.toList ns)(hj:IntsAre items2.toList ms):
  Meets (Builtin.«tuple.__lt__» ⟨[.ref l,.ref b],[]⟩)
   (fun _ R s=>s.heap.get? l=some { cls:=.type "tuple",dict:=dd,data:=.seq items n,slots:=sl }/\s.heap.get? b=some { cls:=.type "tuple",dict:=dd2,data:=.seq items2 n2,slots:=sl2 }/\
    R (.ok (.ret (.bool (lexLt ns ms)))) s):=
 .of_wp fun prog w A R s h=>by
  obtain ⟨hp,g,d,tk,os⟩:=s; obtain ⟨hl,hb,h⟩:=h
  have f2:=AutoSeq1.sub_tuple_tuple
  have z1:items.size=ns.length:=by rw [← hi.length]; simp
  have z2:items2.size=ms.length:=by rw [← hj.length]; simp
  wp_walk using wpAny_loadPart' hl,wpAny_loadPart' hb,wpAny_forIn_list _ (fun rest b s'=>b.1=none/\s'=⟨hp,g,d,tk,os⟩/\∃(vs ws:List Value) (ns' ms':List Int),rest=vs.zip ws/\
   IntsAre vs ns'/\IntsAre ws ms'/\ns'.length+items2.size=ms'.length+items.size/\R (.ok (.ret (.bool (lexLt ns' ms')))) ⟨hp,g,d,tk,os⟩) _
  case turn=>
   rintro ⟨y,x⟩ rest b s' ⟨hb',rfl,vs,ws,ns',ms',hz,hvi,hwi,hlen,hR⟩
   cases hvi with
   |nil=>rw [List.zip_nil_left] at hz; cases hz
   |cons a t hvi'=>
    cases hwi with
    |nil=>rw [List.zip_nil_right] at hz; cases hz
    |cons c u hwi'=>
     rw [List.zip_cons_cons] at hz
     injection hz with hyx hrest
     injection hyx with hy hx
     subst hy hx
     rw [G7] at hR
     simp only [List.length_cons] at hlen
     obtain ⟨e,he,hiff⟩:=N8 A.in1 ⟨hp,g,d,tk,os⟩ a t c u
     refine wpAny_bind (he prog w _ _ ?_)
     cases e with
     |true=>
      rw [if_pos (hiff.mp rfl)] at hR
      wp_walk
      exact ⟨rfl,rfl,_,_,_,_,hrest,hvi',hwi',by omega,hR⟩
     |false=>
      rw [if_neg (fun q=>absurd (hiff.mpr q) Bool.false_ne_true)] at hR
      have hri:=PN A.in1 ⟨hp,g,d,tk,os⟩ a t c u prog w
      wp_walk using hri
      exact ⟨_,rfl,by simpa using hR⟩
  case fin=>
   rintro ⟨b1,b2⟩ s' ⟨hb',rfl,vs,ws,ns',ms',hz,hvi,hwi,hlen,hR⟩
   simp only at hb'
   subst hb'
   have hv:lexLt ns' ms'=decide (items.size<items2.size):=by
    cases hvi with
    |nil=>
     cases hwi with
     |nil=>
      simp only [List.length_nil] at hlen
      rw [zN]
      exact (decide_eq_false (by omega)).symm
     |cons c u hw=>
      simp only [List.length_nil,List.length_cons] at hlen
      rw [yE]
      exact (decide_eq_true (by omega)).symm
    |cons a t hv=>
     cases hwi with
     |nil=>
      simp only [List.length_nil,List.length_cons] at hlen
      rw [yj]
      exact (decide_eq_false (by omega)).symm
     |cons c u hw=>
      rw [List.zip_cons_cons] at hz
      cases hz
   rw [hv] at hR
   wp_walk
   exact ⟨_,rfl,by simpa [Builtin.Tuple.tupleCompareSizes] using hR⟩
  case h=>
   exact ⟨rfl,rfl,items.toList,items2.toList,ns,ms,rfl,hi,hj,by omega,h⟩
end
section
variable {prog:Program}{w:World}{A:Around}{E:Value->Shared->Prop}{s:Shared}
theorem Gj {l b:Addr}{items items2:Array Value}{ns ms:List Int}{Q:Value->Shared->Prop}(hl:IsTup s.heap l items)(hb:IsTup s.heap b items2)(hi:IntsAre items.toList ns)(hj:IntsAre items2.toList ms)
  (hu:A.units<cLine) (h:Q (.bool (lexLt ns ms)) s):wpAny (model prog w) A (compareOp .Lt (.ref l) (.ref b)) Q E s:=by
 obtain ⟨⟨cls,dd,data,sl⟩,ho,hc,n,hd⟩:=id hl
 obtain ⟨⟨cls2,dd2,data2,sl2⟩,ho2,hc2,n2,hd2⟩:=id hb
 simp only at hc hd hc2 hd2
 subst hc hd hc2 hd2
 exact richCompare_meets_room (op:=.Lt) ⟨_,ho,rfl⟩ ⟨_,ho2,rfl⟩ PySem.F.slot_tuple_lt PySem.F.entry_tuple_lt (PySem.F.args_tuple_lt_2 _ _) (zK l b items items2 n n2 dd dd2 sl sl2 ns ms hi hj)
  ⟨ho,ho2,show Value.bool (lexLt ns ms)≠Value.notImplemented/\Q (.bool (lexLt ns ms)) s from ⟨(fun x=>nomatch x),h⟩⟩ hu
theorem Rz {t b:Addr}{vs ws:List Value}{Q:Value->Shared->Prop}(ht:IsTup s.heap t vs.toArray)(hb:IsTup s.heap b ws.toArray)(hv:vs≠[])
  (h1:ws=[]->Q (.ref t) s) (h2:ws≠[]->Q (.ref s.heap.objs.size) { s with heap:=s.heap.push { cls:=.type "tuple",data:=.seq (vs++ws).toArray } })
  (hsz:vs.length+ws.length<=sizeLine):wpAny (model prog w) A (binaryOp .Add (.ref t) (.ref b)) Q E s:=by
 obtain ⟨⟨cls,dd,data,sl⟩,ho,hc,n,hd⟩:=id ht
 obtain ⟨⟨cls2,dd2,data2,sl2⟩,ho2,hc2,n2,hd2⟩:=id hb
 simp only at hc hd hc2 hd2
 subst hc hd hc2 hd2
 have e:vs.toArray++ws.toArray=(vs++ws).toArray:=by simp
 by_cases hw:ws=[]
 ·exact concat_meets ⟨_,ho,rfl⟩ ⟨_,ho2,rfl⟩ noFill_tuple_add seq_tuple_add PySem.F.slot_tuple_add PySem.F.entry_tuple_add (PySem.F.args_tuple_add_2 _ _)
   (tuple_addW1 t b vs.toArray ws.toArray n n2 dd dd2 sl sl2 (by simpa using hv) (by simp [hw])) ⟨ho,ho2,h1 hw⟩
 ·refine concat_meets ⟨_,ho,rfl⟩ ⟨_,ho2,rfl⟩ noFill_tuple_add seq_tuple_add PySem.F.slot_tuple_add PySem.F.entry_tuple_add (PySem.F.args_tuple_add_2 _ _)
   (tuple_addW2 t b vs.toArray ws.toArray n n2 dd dd2 sl sl2 (by simpa using hv) (by simpa using hw) (by rw [List.size_toArray,List.size_toArray]; exact hsz)) ⟨ho,ho2,?_⟩
  rw [e]
  exact h2 hw
noncomputable def sIx (n d:Nat):Option Int->Nat
 |none=>d
 |some v=>if v<0 then (v+(n:Int)).toNat else min v.toNat n
theorem VD (n d:Nat)(hd:d<=n)(o:Option Int):sIx n d o<=n:=by
 cases o with
 |none=>exact hd
 |some v=>
  show (if v<0 then (v+(n:Int)).toNat else min v.toNat n)<=n
  by_cases hv:v<0
  ·rw [if_pos hv]; omega
  ·rw [if_neg hv]; exact Nat.min_le_right _ _
theorem JT (v:Int)(n d:Nat):(if v<0 then max (v+(n:Int)) 0 else min v (n:Int))=((sIx n d (some v):Nat):Int):=by
 show (if v<0 then max (v+(n:Int)) 0 else min v (n:Int))=(((if v<0 then (v+(n:Int)).toNat else min v.toNat n):Nat):Int)
 by_cases hv:v<0
 ·simp only [if_pos hv]; omega
 ·simp only [if_neg hv]; omega
theorem Gu (lo hi:Option Int)(n:Nat):Builtin.Slice.sliceAdjust lo hi 1 (n:Int)=(((sIx n 0 lo:Nat):Int),((sIx n n hi:Nat):Int)):=by
 have h1:¬((1:Int)<0):=by omega
 unfold Builtin.Slice.sliceAdjust
 simp only [h1,if_false]
 refine Prod.ext ?_ ?_
 ·cases lo with
  |none=>rfl
  |some v=>exact JT v n 0
 ·cases hi with
  |none=>rfl
  |some v=>exact JT v n n
theorem G6 (i j:Nat):Builtin.Slice.slicePlaces (i:Int) (j:Int) 1=j - i:=by
 unfold Builtin.Slice.slicePlaces
 have h1:(1:Int) > 0:=by omega
 simp only [h1,if_true,Int.ediv_one]
 split <;> omega
theorem yq {v:Value}{o:Option Int}{Q:Option Int->Shared->Prop}(p:IsPart v o)(h:Q o s):wpAny (model prog w) A (Builtin.Slice.slicePartIndex v) Q E s:=by
 cases p with
 |none=>exact slicePart_none h
 |int i t=>exact slicePart_int h
theorem vZ {sl:Addr}{vl vu:Value}{lo hi:Option Int}{n:Nat}{Q:Int×Int×Nat->Shared->Prop}(hs:s.heap.IsSliceOf sl vl vu .none)(pl:IsPart vl lo)(pu:IsPart vu hi)
  (h:Q (((sIx n 0 lo:Nat):Int),1,sIx n n hi - sIx n 0 lo) s):wpAny (model prog w) A (Builtin.Slice.sliceApplied (.ref sl) (pure (n:Int))) Q E s:=by
 obtain ⟨os,hos,hcs,hds⟩:=id hs
 unfold Builtin.Slice.sliceApplied Builtin.Slice.sliceFields
 refine wpAny_bind (wpAny_bind (wpAny_field hos hds (x:=vl) rfl (wpAny_bind (wpAny_field hos hds (x:=vu) rfl (wpAny_bind (wpAny_field hos hds (x:=.none) rfl (wpAny_pure ?_)))))))
 refine wpAny_bind (slicePart_none ?_)
 show wpAny _ _ (if ((1:Int) == 0)=true then _ else _) _ _ s
 rw [if_neg (by decide)]
 refine wpAny_bind (yq pl (wpAny_bind (yq pu (wpAny_bind (wpAny_pure ?_)))))
 show wpAny _ _ (match Builtin.Slice.sliceAdjust lo hi 1 (n:Int) with | (lo,hi)=>pure (lo,(1:Int),Builtin.Slice.slicePlaces lo hi 1)) _ _ s
 rw [Gu lo hi n]
 show wpAny _ _ (pure (((sIx n 0 lo:Nat):Int),(1:Int),Builtin.Slice.slicePlaces ((sIx n 0 lo:Nat):Int) ((sIx n n hi:Nat):Int) 1)) _ _ s
 rw [G6]
 exact wpAny_pure h
theorem Pn (xs:Array Value)(i k:Nat):((List.range k).filterMap fun (m:Nat)=>xs[((i:Int)+(m:Int) * 1).toNat]?).toArray=((xs.toList.drop i).take k).toArray:=by
 have e:(fun (m:Nat)=>xs[((i:Int)+(m:Int) * 1).toNat]?)=fun m=>xs[i+m]?:=by
  funext m
  have:((i:Int)+(m:Int) * 1).toNat=i+m:=by omega
  rw [this]
 rw [e]
 have:=pick_run xs i k
 rw [List.filterMap_map] at this
 have e2:((fun x=>xs[x]?) ∘ fun x=>i+x)=fun m=>xs[i+m]?:=rfl
 rw [e2] at this
 rw [this]
theorem vh {t sl:Addr}{items:Array Value}{vl vu:Value}{lo hi:Option Int}{Q:Value->Shared->Prop}(ht:IsTup s.heap t items)(hs:s.heap.IsSliceOf sl vl vu .none)(pl:IsPart vl lo)(pu:IsPart vu hi)
  (hw:¬(sIx items.size 0 lo=0/\sIx items.size items.size hi=items.size))
  (h:Q (.ref s.heap.objs.size) { s with heap:=s.heap.push { cls:=.type "tuple",data:=.seq ((items.toList.drop (sIx items.size 0 lo)).take (sIx items.size items.size hi - sIx items.size 0 lo)).toArray } })
  (hsz:items.size<=sizeLine):wpAny (model prog w) A (getItem (.ref t) (.ref sl)) Q E s:=by
 have htake:sizeOk (.seq ((items.toList.drop (sIx items.size 0 lo)).take (sIx items.size items.size hi - sIx items.size 0 lo)).toArray):=by
  show ((items.toList.drop (sIx items.size 0 lo)).take (sIx items.size items.size hi - sIx items.size 0 lo)).toArray.size<=sizeLine
  rw [List.size_toArray,List.length_take,List.length_drop,Array.length_toList]
  omega
 have hj:sIx items.size items.size hi<=items.size:=VD _ _ (Nat.le_refl _) hi
 obtain ⟨os,hos,hcs,hds⟩:=id hs
 have hTs:s.TypeIs (.ref sl) "slice":=⟨os,hos,hcs⟩
 unfold getItem
 try with_reducible refine wpAny_holding ?_
 first | refine wpAny_bind (wpAny_pure ?_) | skip
 refine wpAny_bind (wpAny_sequenceKey ht.typeIs (by decide) ?_)
 refine wpAny_bind (wpAny_callSpecial?_slot (name:=Str.ofString "__getitem__") ht.typeIs PyProof.Rows.slot_tuple_getitem
  (wpAny_call_entry PyProof.Rows.slot_tuple_getitem ht.typeIs entry_tuple_getitem ?_ (args_tuple_getitem _ _)))
 show wpAny _ _ (Builtin.Tuple.tupleItemsOf (.ref t) >>= _) _ _ s
 refine wpAny_bind (tupleItemsOf_ ht ?_)
 refine wpAny_bind (wpAny_typeOf hTs ?_)
 rw [if_pos (by decide)]
 refine wpAny_bind (vZ hs pl pu ?_)
 have hno:¬((((sIx items.size 0 lo:Nat):Int) == 0 && (1:Int) == 1 && (sIx items.size items.size hi - sIx items.size 0 lo) == items.size)=true):=by
  intro q
  rw [Bool.and_eq_true,Bool.and_eq_true] at q
  have q1:((sIx items.size 0 lo:Nat):Int)=0:=eq_of_beq q.1.1
  have q2:sIx items.size items.size hi - sIx items.size 0 lo=items.size:=eq_of_beq q.2
  exact hw ⟨by omega,by omega⟩
 show wpAny _ _ (if (((sIx items.size 0 lo:Nat):Int) == 0 && (1:Int) == 1 && (sIx items.size items.size hi - sIx items.size 0 lo) == items.size)=true then _ else _) _ _ s
 rw [if_neg hno,Pn]
 first
  |exact wpAny_bind (m:=Builtin.Tuple.tupleExact _) (wpAny_newObj_type (wpAny_pure ⟨_,rfl,wpAny_pure h⟩) htake)
  |exact wpAny_bind (m:=Builtin.Tuple.tupleExact _) (wpAny_newObj_type (wpAny_bind (wpAny_pure (wpAny_pure ⟨_,rfl,wpAny_pure h⟩))) htake)
  |exact wpAny_bind (wpAny_bind (m:=Builtin.Tuple.tupleExact _) (wpAny_newObj_type (wpAny_pure (wpAny_pure ⟨_,rfl,wpAny_pure h⟩)) htake))
  |exact wpAny_bind (wpAny_bind (m:=Builtin.Tuple.tupleExact _) (wpAny_newObj_type (wpAny_pure ⟨_,rfl,wpAny_pure h⟩) htake))
end
end HT
namespace L2
open PySem PySem.Spec PyProof.Rows
noncomputable abbrev TO:=St->Hp->(Option Int->Hp->Prop)->Prop
noncomputable def PO (X:Cx)(e:Option Expr)(t:TO):Prop:=
 ∀(pins:List (Addr×Obj)) (s:Shared) (σ:St) (H:Hp) (Q:Option Int->Hp->Prop),Inv X pins σ H s->t σ H Q->
  wpAny (model X.prog X.w) X.A (evalPart e X.env) (fun u s'=>∃o H',Inv X pins σ H' s'/\IsPart u o/\Q o H') X.xe s
noncomputable def Ro:TO:=fun _ H Q=>Q none H
noncomputable def Xd (t:TE):TO:=fun σ H Q=>t σ H fun x H1=>∃i,x=.int i/\Q (some i) H1
theorem intsAre_of {ns:List Int}:∀{us:List Value},Vals (ns.map V.int) us->IntsAre us ns:=by
 induction ns with
 |nil=>intro us r; rw [List.map_nil] at r; cases r; exact .nil
 |cons n ns ih=>
  intro us r
  rw [List.map_cons] at r
  cases r with
  |cons r1 r2=>
   obtain ⟨t,e⟩:=r1
   subst e
   exact .cons n t (ih r2)
section
variable {X:Cx}{e:Expr}{te:TE}{lo hi:Option Expr}{tl th:TO}{pos p2:Pos}
theorem Rp:PO X none Ro:=by
 intro pins s σ H Q I h
 rw [evalPart_none]
 exact wpAny_pure ⟨none,H,I,.none,h⟩
theorem Rw (h:PE X e te):PO X (some e) (Xd te):=by
 intro pins s σ H Q I hw
 rw [evalPart_some]
 refine thn (h pins s σ H _ I hw) fun u s1 hE=>xq2 hE fun x H1 I1 r1 q1=>?_
 obtain ⟨i,rfl,q⟩:=q1
 obtain ⟨t,rfl⟩:=r1
 exact ⟨some i,H1,I1,.int i t,q⟩
noncomputable def SlR (X:Cx)(r:V->Option Int->Option Int->Hp->VK->Prop):Prop:=
 ∀(pins:List (Addr×Obj)) (s:Shared) (σ:St) (H:Hp) (x:V) (v vl vu:Value) (lo hi:Option Int) (sl:Addr) (Q:VK),Inv X pins σ H s->RelV x v->s.heap.IsSliceOf sl vl vu .none->IsPart vl lo->IsPart vu hi->r x lo hi H Q->
  ∃T id,typeLookup (.type T) "__getitem__" = pure (some (.builtin id))/\s.TypeIs v T/\wpAny (model X.prog X.w) X.A (getItem v (.ref sl)) (EP X pins σ Q) X.xe s
noncomputable def tSl (r:V->Option Int->Option Int->Hp->VK->Prop)(te:TE)(tl th:TO):TE:=fun σ H Q=>te σ H fun x H1=>tl σ H1 fun l H2=>th σ H2 fun u H3=>r x l u H3 Q
theorem QD {r:V->Option Int->Option Int->Hp->VK->Prop}(hr:SlR X r)(he:PE X e te)(hl:PO X lo tl)(hu:PO X hi th):PE X (.Subscript e (.Slice lo hi none p2) pos) (tSl r te tl th):=by
 intro pins s σ H Q I h
 refine Subscript_ (thn (he pins s σ H _ I h) fun v s1 hE=>xq2 hE fun x H1 I1 r1 q1=>?_)
 refine wpAny_Slice (thn (hl pins s1 σ H1 _ I1 q1) fun vl s2 ⟨l,H2,I2,pl,q2⟩=>thn (hu pins s2 σ H2 _ I2 q2) fun vu s3 ⟨u,H3,I3,pu,q3⟩=>?_)
 rw [evalPart_none]
 refine wpAny_pure ?_
 have I4:Inv X pins σ H3 { s3 with heap:=s3.heap.push { cls:=.type "slice",data:=.fields #[vl,vu,.none] } }:=I3.kept (t':=s3.toks) fun b ob q=>Heap.get?_push_of_some _ q
 obtain ⟨T,id,hT,ht,hg⟩:=hr pins { s3 with heap:=s3.heap.push { cls:=.type "slice",data:=.fields #[vl,vu,.none] } } σ H3 x v vl vu l u s3.heap.objs.size Q I4 r1 (Heap.IsSliceOf.new ..) pl pu q3
 show wpAny (model X.prog X.w) X.A (subscriptTail e (.Slice lo hi none p2) v (.ref s3.heap.objs.size)) (EP X pins σ Q) X.xe { s3 with heap:=s3.heap.push { cls:=.type "slice",data:=.fields #[vl,vu,.none] } }
 exact tail_any (ops:=[.ref s3.heap.objs.size,v]) ht hT hg (by with_unfolding_all rfl)
noncomputable def Ei (xs:List V)(lo hi:Option Int):List V:=(xs.drop (HT.sIx xs.length 0 lo)).take (HT.sIx xs.length xs.length hi - HT.sIx xs.length 0 lo)
theorem wQ (xs:List V)(lo hi:Option Int):(Ei xs lo hi).length<=xs.length:=by
 unfold Ei
 rw [List.length_take,List.length_drop]
 omega
noncomputable def Y4 (K:W.Frag):V->Option Int->Option Int->Hp->VK->Prop:=fun x lo hi H Q=>∃a xs,x=.ref a/\SqT K H a xs/\
 ¬(HT.sIx xs.length 0 lo=0/\HT.sIx xs.length xs.length hi=xs.length)/\∀p,H p=none->Q (.ref p) (upd H p (.tup (Ei xs lo hi)))
theorem U0:SlR X (Y4 X.K):=by
 intro pins s σ H x v vl vu lo hi sl Q I rx hs pl pu h
 obtain ⟨a,xs,rfl,hx,hw,q⟩:=h
 cases rx
 obtain ⟨its,r,ht,hz⟩:=I.tuple hx
 have hlen:its.toArray.size=xs.length:=by rw [List.size_toArray]; exact r.length.symm
 refine ⟨"tuple",_,PyProof.Rows.slot_tuple_getitem.lookup,ht.typeIs,?_⟩
 refine HT.vh ht hs pl pu (by rw [hlen]; exact hw) ?_ (by rw [hlen]; exact hz)
 rw [hlen]
 refine ⟨.ref s.heap.objs.size,_,I.laid (t':=s.toks) (o:=.tup (Ei xs lo hi)) (fun b ob q=>Heap.get?_push_of_some _ q) (Nat.le_refl _) ?_,rfl,q _ (I.hok.fresh (Nat.le_refl _))⟩
 exact ⟨Nat.le_trans (wQ xs lo hi) hz,_,(r.drop (HT.sIx xs.length 0 lo)).take (HT.sIx xs.length xs.length hi - HT.sIx xs.length 0 lo),IsTup.new _ _⟩
noncomputable def Zb (K:W.Frag):R2:=fun x y H Q=>∃a b ns ms,x=.ref a/\y=.ref b/\SqT K H a (ns.map V.int)/\SqT K H b (ms.map V.int)/\Q (.bl (HT.lexLt ns ms)) H
theorem W5 (hu:X.A.units<cLine):OpR X (compareOp .Lt) (Zb X.K):=by
 intro pins s σ H x y v u Q I rx ry h
 obtain ⟨a,b,ns,ms,rfl,rfl,ha,hb,q⟩:=h
 cases rx
 cases ry
 obtain ⟨its,r1,p1,_⟩:=I.tuple ha
 obtain ⟨its2,r2,p2,_⟩:=I.tuple hb
 have i1:IntsAre its.toArray.toList ns:=intsAre_of r1
 have i2:IntsAre its2.toArray.toList ms:=intsAre_of r2
 exact HT.Gj p1 p2 i1 i2 hu ⟨.bl (HT.lexLt ns ms),H,I,rfl,q⟩
noncomputable def Yy (K:W.Frag):R2:=fun x y H Q=>∃a b xs ys,x=.ref a/\y=.ref b/\SqT K H a xs/\SqT K H b ys/\xs≠[]/\xs.length+ys.length<=sizeLine/\
 (ys=[]->Q (.ref a) H)/\(ys≠[]->∀p,H p=none->Q (.ref p) (upd H p (.tup (xs++ys))))
theorem Vals.Bb {xs:List V}{us:List Value}(r:Vals xs us):us=[]↔xs=[]:=by
 cases r with
 |nil=>simp
 |cons _ _=>simp
theorem Tg:OpR X (binaryOp .Add) (Yy X.K):=by
 intro pins s σ H x y v u Q I rx ry h
 obtain ⟨a,b,xs,ys,rfl,rfl,ha,hb,hx,hz,q1,q2⟩:=h
 cases rx
 cases ry
 obtain ⟨its,r1,p1,_⟩:=I.tuple ha
 obtain ⟨its2,r2,p2,_⟩:=I.tuple hb
 refine HT.Rz p1 p2 (fun z=>hx (r1.Bb.mp z)) (fun z=>⟨.ref a,H,I,rfl,q1 (r2.Bb.mp z)⟩) (fun z=>?_) (by rw [← r1.length,← r2.length]; exact hz)
 refine ⟨.ref s.heap.objs.size,_,I.laid (t':=s.toks) (o:=.tup (xs++ys)) (fun b ob q=>Heap.get?_push_of_some _ q) (Nat.le_refl _) ?_,rfl,q2 (fun w=>z (r2.Bb.mpr w)) _ (I.hok.fresh (Nat.le_refl _))⟩
 exact ⟨by rw [List.length_append]; exact hz,_,r1.append r2,IsTup.new _ _⟩
end
open PySem PySem.Spec PyProof.Rows
noncomputable def ixN (n:Nat)(i:Int):Option Nat:=if 0<=i then (if i<n then some i.toNat else none) else if -(n:Int)<=i then some (i+n).toNat else none
noncomputable def atI {α:Type}(xs:List α)(i:Int):Option α:=(ixN xs.length i).bind fun j=>xs[j]?
theorem JN {n:Nat}{i:Int}{j:Nat}(h:ixN n i=some j):seqIndex? i n=some j/\j<n/\-(n:Int)<=i/\i<n:=by
 unfold ixN at h
 by_cases h0:0<=i
 ·rw [if_pos h0] at h
  by_cases h1:i<n
  ·rw [if_pos h1] at h
   have e:i.toNat=j:=Option.some.inj h
   exact ⟨by rw [seqIndex_of h0 h1,e],by omega,by omega,h1⟩
  ·rw [if_neg h1] at h; cases h
 ·rw [if_neg h0] at h
  by_cases h1:-(n:Int)<=i
  ·rw [if_pos h1] at h
   have e:(i+n).toNat=j:=Option.some.inj h
   exact ⟨by rw [seqIndex_neg (by omega) h1,e],by omega,h1,by omega⟩
  ·rw [if_neg h1] at h; cases h
theorem De {α:Type}{xs:List α}{i:Int}{v:α}(h:atI xs i=some v):∃j,seqIndex? i xs.length=some j/\xs[j]? = some v/\j<xs.length/\-(xs.length:Int)<=i/\i<xs.length:=by
 unfold atI at h
 cases e:ixN xs.length i with
 |none=>rw [e] at h; cases h
 |some j=>
  rw [e] at h
  obtain ⟨h1,h2,h3,h4⟩:=JN e
  exact ⟨j,h1,h,h2,h3,h4⟩
theorem qy {α:Type}{xs:List α}{j:Nat}{v:α}(h:xs[j]? = some v):atI xs (j:Int)=some v:=by
 have hj:j<xs.length:=(List.getElem?_eq_some_iff.mp h).1
 have e:ixN xs.length (j:Int)=some j:=by
  unfold ixN
  rw [if_pos (by omega),if_pos (by omega)]; simp
 unfold atI; rw [e]; exact h
theorem N6 {α:Type}(xs:List α)(v:α):atI (xs++[v]) (-1)=some v:=by
 have hl:(xs++[v]).length=xs.length+1:=by simp
 have e:ixN (xs++[v]).length (-1)=some xs.length:=by
  unfold ixN
  rw [hl,if_neg (by decide),if_pos (by omega)]
  congr 1
  omega
 unfold atI
 rw [e]
 show (xs++[v])[xs.length]? = some v
 simp
noncomputable def Jp (b:Expr):Prop:=∀o i,subscripted b false o i=operate [o,i] (getItem o i)
noncomputable def IxR (X:Cx)(r:R2):Prop:=
 ∀(value slice:Expr) (pins:List (Addr×Obj)) (s:Shared) (σ:St) (H:Hp) (x y:V) (v u:Value) (Q:VK),Inv X pins σ H s->RelV x v->RelV y u->r x y H Q->
  subscripted slice false v u=operate [v,u] (getItem v u)->wpAny (model X.prog X.w) X.A (subscriptTail value slice v u) (EP X pins σ Q) X.xe s
noncomputable def MtR (X:Cx)(id:String)(r:V->List V->Hp->VK->Prop):Prop:=
 ∀(pins:List (Addr×Obj)) (s:Shared) (σ:St) (H:Hp) (x:V) (xs:List V) (v:Value) (us:List Value) (Q:VK),Inv X pins σ H s->RelV x v->Vals xs us->r x xs H Q->
  wpAny (model X.prog X.w) X.A (call (.builtin id) (v::us)) (EP X pins σ Q) X.xe s
section
variable {X:Cx}{a b:Expr}{ta tb:TE}{pos:Pos}
theorem Yw {r:R2}(hr:IxR X r)(ha:PE X a ta)(hb:PE X b tb)(hs:Jp b):PE X (.Subscript a b pos) (tOp r ta tb):=by
 intro pins s σ H Q I h
 exact Subscript_ (Vp ha hb I h fun v u s2 x y H2 I2 rx ry q=>hr a b pins s2 σ H2 x y v u Q I2 rx ry q (hs _ _))
noncomputable def Zy (K:W.Frag):R2:=fun x y H Q=>∃p xs i v,x=.ref p/\y=.int i/\SqL K H p xs/\atI xs i=some v/\Q v H
noncomputable def Zj (K:W.Frag):R2:=fun x y H Q=>∃p xs i v,x=.ref p/\y=.int i/\SqT K H p xs/\atI xs i=some v/\Q v H
noncomputable def Zd:R2:=fun x y H Q=>∃z i c,x=.str z/\y=.int i/\z.length<=sizeLine/\atI z.cps.toList i=some c/\Q (.str ⟨#[c]⟩) H
theorem Q7:IxR X (Zy X.K):=by
 intro value slice pins s σ H x y v u Q I rx ry h hs
 obtain ⟨p,xs,i,z,rfl,rfl,hq,he,q⟩:=h
 cases rx
 obtain ⟨t,rfl⟩:=ry
 obtain ⟨its,r,pl,hz⟩:=I.list hq
 obtain ⟨j,h1,h2,h3,h4,h5⟩:=De he
 obtain ⟨w,ew,rw'⟩:=r.get h2
 have hl:=r.length
 have hn:=vW
 have fin:EP X pins σ Q w s:=⟨z,H,I,rw',q⟩
 by_cases h0:0<=i
 ·have hj:i.toNat=j:=by
   rw [seqIndex_of h0 h5] at h1
   exact Option.some.inj h1
  exact item_listR pl.isList h0 (by omega) (by rw [hj]; simpa using ew) fin hs
 ·have hj:(i+(its.toArray.size:Int)).toNat=j:=by
   rw [seqIndex_neg (by omega) h4] at h1
   rw [List.size_toArray,← hl]
   exact Option.some.inj h1
  exact subscriptTail_builtinR (x:=w) pl.isList.typeIs slot_list_getitem.lookup
   (wpAny_getItem_list_neg (Q:=fun r s'=>r=w/\EP X pins σ Q r s') pl.isList (by omega) (by rw [List.size_toArray] <;> omega) (by omega) (by rw [hj]; simpa using ew) ⟨rfl,fin⟩) hs
theorem VN:IxR X (Zj X.K):=by
 intro value slice pins s σ H x y v u Q I rx ry h hs
 obtain ⟨p,xs,i,z,rfl,rfl,hq,he,q⟩:=h
 cases rx
 obtain ⟨t,rfl⟩:=ry
 obtain ⟨its,r,pl,hz⟩:=I.tuple hq
 obtain ⟨j,h1,h2,h3,h4,h5⟩:=De he
 obtain ⟨w,ew,rw'⟩:=r.get h2
 have hl:=r.length
 have hn:=vW
 have fin:EP X pins σ Q w s:=⟨z,H,I,rw',q⟩
 exact subscriptTail_builtinR (x:=w) pl.typeIs slot_tuple_getitem.lookup
  (getItem_tuple (j:=j) (Q:=fun r s'=>r=w/\EP X pins σ Q r s') pl (by omega) (by omega) (by rw [List.size_toArray,← hl]; exact h1) (by simpa using ew) ⟨rfl,fin⟩) hs
theorem Vm:IxR X Zd:=by
 intro value slice pins s σ H x y v u Q I rx ry h hs
 obtain ⟨z,i,c,rfl,rfl,hz,he,q⟩:=h
 obtain ⟨t,rfl⟩:=rx
 obtain ⟨t',rfl⟩:=ry
 obtain ⟨j,h1,h2,h3,h4,h5⟩:=De he
 have hl:z.cps.toList.length=z.length:=by simp [Str.length]
 rw [hl] at h1 h4 h5
 have hn:=vW
 exact tail_any (typeIs_str s z t) slot_str_getitem.lookup (getItem_str (c:=c) (by
  have e1:decide (i < -(2 ^ 63:Int))=false:=decide_eq_false (by omega)
  have e2:decide (i ≥ 2 ^ 63)=false:=decide_eq_false (by omega)
  rw [e1,e2,Bool.or_false]) (by rw [h1]; simpa using h2) ⟨.str ⟨#[c]⟩,H,I.tok _,⟨_,rfl⟩,q⟩) hs
theorem Hw (its:List Value)(n j:Nat)(u:Value):Obj.mapSeq (·.setIfInBounds j u) { cls:=.type "list",data:=.seq its.toArray n }={ cls:=.type "list",data:=.seq (its.set j u).toArray n }:=by
 simp [Obj.mapSeq]
theorem Inv.lst {pins:List (Addr×Obj)}{σ:St}{H:Hp}{s:Shared}{p:Addr}{xs:List V}(I:Inv X pins σ H s)(h:H p=some (.lst xs)):
  ∃(its:List Value) (n:Nat),Vals xs its/\s.heap.get? p=some { cls:=.type "list",data:=.seq its.toArray n }/\xs.length<=sizeLine:=by
 obtain ⟨z,its,n,r,e⟩:=I.hok p _ h
 exact ⟨its,n,r,e,z⟩
theorem Inv.Ve {pins:List (Addr×Obj)}{σ:St}{H:Hp}{s:Shared}{p:Addr}{xs ys:List V}{its its':List Value}{n n':Nat}{f:Obj->Obj}(I:Inv X pins σ H s)(h:H p=some (.lst xs))
  (ho:s.heap.get? p=some { cls:=.type "list",data:=.seq its.toArray n }) (hf:f { cls:=.type "list",data:=.seq its.toArray n }={ cls:=.type "list",data:=.seq its'.toArray n' }) (r:Vals ys its') (hz:ys.length<=sizeLine) (t:Nat):
  Inv X pins σ (upd H p (.lst ys)) { s with heap:=s.heap.update p f,toks:=t }:=by
 have e:(s.heap.update p f).get? p=some { cls:=.type "list",data:=.seq its'.toArray n' }:=by
  rw [Heap.get?_update_self f ho (by rw [hf] <;> rfl),hf]
 refine I.write (x:=p) (e:=p) (by rw [h]; trivial) (.inl rfl) (fun b u hb q=>(Heap.get?_update_other _ _ (Ne.symm hb)).trans q) ⟨_,e⟩ ?_
 exact ⟨hz,its',n',r,e⟩
noncomputable def Xw:V->V->V->Hp->(Hp->Prop)->Prop:=fun o i v H Q=>∃p xs k j,o=.ref p/\i=.int k/\H p=some (.lst xs)/\ixN xs.length k=some j/\Q (upd H p (.lst (xs.set j v)))
theorem set_list:Xq X Xw:=by
 intro pins s σ H o i v ov iv u Q I ro ri rv h
 obtain ⟨p,xs,k,j,rfl,rfl,hp,hj,q⟩:=h
 cases ro
 obtain ⟨t,rfl⟩:=ri
 obtain ⟨its,n,r,ho,hz⟩:=I.lst hp
 obtain ⟨h1,h2,h3,h4⟩:=JN hj
 have hl:=r.length
 have hn:=vW
 have I':Inv X pins σ (upd H p (.lst (xs.set j v))) { s with heap:=s.heap.update p (Obj.mapSeq (·.setIfInBounds j u)) }:=
  I.Ve hp ho (Hw its n j u) (r.set rv j) (by rw [List.length_set]; exact hz) s.toks
 by_cases h0:0<=k
 ·have hk:k.toNat=j:=by
   rw [seqIndex_of h0 h4] at h1
   exact Option.some.inj h1
  exact PySem.W.ki_setAt ho h0 (by omega) (by rw [List.size_toArray,← hl]; exact h4) (by rw [hk]; exact ⟨_,I',q⟩)
 ·have hk:(k+(its.toArray.size:Int)).toNat=j:=by
   rw [seqIndex_neg (by omega) h3] at h1
   rw [List.size_toArray,← hl]
   exact Option.some.inj h1
  exact PySem.W.ki_setBack ho (by omega) (by rw [List.size_toArray,← hl]; exact h3) (by omega) (by rw [hk]; exact ⟨_,I',q⟩)
theorem Bs (lo hi:Option Int)(n:Nat):(sliceBounds lo hi none n).1=((HT.sIx n 0 lo:Nat):Int)/\(sliceBounds lo hi none n).2.1=((HT.sIx n n hi:Nat):Int)/\(sliceBounds lo hi none n).2.2=1:=by
 refine ⟨?_,?_,rfl⟩
 ·cases lo with
  |none=>simp [sliceBounds,HT.sIx]
  |some i=>
   simp only [sliceBounds,HT.sIx,Option.getD_none,show (1:Int) > 0 by decide,if_true]
   by_cases h:i<0
   ·simp only [h,if_true] <;> omega
   ·simp only [h,if_false] <;> omega
 ·cases hi with
  |none=>simp [sliceBounds,HT.sIx]
  |some i=>
   simp only [sliceBounds,HT.sIx,Option.getD_none,show (1:Int) > 0 by decide,if_true]
   by_cases h:i<0
   ·simp only [h,if_true] <;> omega
   ·simp only [h,if_false] <;> omega
theorem zQ (its:List Value)(lo hi:Option Int):slicePick its.toArray lo hi none=((its.drop (HT.sIx its.length 0 lo)).take (HT.sIx its.length its.length hi - HT.sIx its.length 0 lo)).toArray:=by
 obtain ⟨h1,h2,h3⟩:=Bs lo hi its.toArray.size
 unfold slicePick
 rw [h1,h2,h3]
 simp only [sliceRange_one,pick_run,List.size_toArray] <;> rfl
noncomputable def YW (K:W.Frag):V->Option Int->Option Int->Hp->VK->Prop:=fun x lo hi H Q=>∃a xs,x=.ref a/\SqL K H a xs/\∀p,H p=none->Q (.ref p) (upd H p (.lst (Ei xs lo hi)))
theorem T6:SlR X (YW X.K):=by
 intro pins s σ H x v vl vu lo hi sl Q I rx hs pl pu h
 obtain ⟨a,xs,rfl,hx,q⟩:=h
 cases rx
 obtain ⟨its,r,ht,hz⟩:=I.list hx
 have hlen:=r.length
 refine ⟨"list",_,slot_list_getitem.lookup,ht.isList.typeIs,?_⟩
 refine wpAny_getItem_list_slice ht.isList hs pl pu .none (by simp) ?_ (by rw [List.size_toArray] <;> omega)
 rw [zQ,← hlen]
 refine ⟨.ref s.heap.objs.size,_,I.laid (t':=s.toks) (o:=.lst (Ei xs lo hi)) (fun b ob q=>Heap.get?_push_of_some _ q) (Nat.le_refl _) ?_,rfl,q _ (I.hok.fresh (Nat.le_refl _))⟩
 exact ⟨Nat.le_trans (wQ xs lo hi) hz,_,0,(r.drop (HT.sIx xs.length 0 lo)).take (HT.sIx xs.length xs.length hi - HT.sIx xs.length 0 lo),Heap.get?_push_size _ rfl⟩
theorem uX:jD X (.builtin "len") (fun xs H Q=>∃p ys,xs=[.ref p]/\(SqL X.K H p ys\/SqT X.K H p ys)/\Q (.int ys.length) H):=by
 intro pins s σ H xs us Q I r h
 obtain ⟨p,ys,rfl,hq,q⟩:=h
 obtain ⟨u,rfl,rx⟩:=vals1 r
 cases rx
 have hn:=vW
 rcases hq with hq | hq
 ·obtain ⟨its,r',pl,hz⟩:=I.list hq
  have hlen:=r'.length
  exact Calls.call_len_list pl.isList (by simp only [List.size_toArray] <;> omega) ⟨.int ys.length,H,I.tok _,⟨s.toks+1,by rw [List.size_toArray,hlen]⟩,q⟩
 ·obtain ⟨its,r',pl,hz⟩:=I.tuple hq
  have hlen:=r'.length
  exact len_tuple pl (by simp only [List.size_toArray] <;> omega) ⟨.int ys.length,H,I.tok _,⟨s.toks+1,by rw [List.size_toArray,hlen]⟩,q⟩
theorem Cr:jD X (.builtin "len") (fun xs H Q=>∃z,xs=[.str z]/\z.length<=sizeLine/\Q (.int z.length) H):=by
 intro pins s σ H xs us Q I r h
 obtain ⟨z,rfl,hz,q⟩:=h
 obtain ⟨u,rfl,t,rfl⟩:=vals1 r
 have hn:=vW
 exact len_str (by omega) ⟨.int z.length,H,I.tok _,⟨_,rfl⟩,q⟩
theorem BP:jD X (.type "list") (fun xs H Q=>∃p ys,xs=[.ref p]/\(SqL X.K H p ys\/SqT X.K H p ys)/\∀l,H l=none->Q (.ref l) (upd H l (.lst ys))):=by
 intro pins s σ H xs us Q I r h
 obtain ⟨p,ys,rfl,hq,q⟩:=h
 obtain ⟨u,rfl,rx⟩:=vals1 r
 cases rx
 have fin:∀(its:List Value),Vals ys its->ys.length<=sizeLine->∀(h':Heap) (c':Nat),(∀b o',s.heap.get? b=some o'->h'.get? b=some o')->
   h'.get? s.heap.objs.size=some { cls:=.type "list",dict:=none,data:=.seq its.toArray c',slots:=#[] }->EP X pins σ Q (.ref s.heap.objs.size) { s with heap:=h' }:=fun its r' hz h' c' kp e=>
  ⟨.ref s.heap.objs.size,_,I.laid (t':=s.toks) kp (Nat.le_refl _) (show dJ X.prog X.w _ h' _ (.lst ys) from ⟨hz,its,c',r',e⟩),rfl,q _ (I.hok.fresh (Nat.le_refl _))⟩
 rcases hq with hq | hq
 ·obtain ⟨its,r',pl,hz⟩:=I.list hq
  have hlen:=r'.length
  obtain ⟨o,ho,hc,n,hd⟩:=pl.isList
  exact call_list_seq p (.inl rfl) ho hc hd (fun h' c' kp e=>fin its r' hz h' c' kp e) (by simp only [List.size_toArray] <;> omega)
 ·obtain ⟨its,r',pl,hz⟩:=I.tuple hq
  have hlen:=r'.length
  obtain ⟨o,ho,hc,n,hd⟩:=pl
  exact call_list_seq p (.inr rfl) ho hc hd (fun h' c' kp e=>fin its r' hz h' c' kp e) (by simp only [List.size_toArray] <;> omega)
theorem sO:jD X (.type "tuple") (fun xs H Q=>∃p ys,xs=[.ref p]/\((SqL X.K H p ys/\∀l,H l=none->Q (.ref l) (upd H l (.tup ys)))\/(SqT X.K H p ys/\Q (.ref p) H))):=by
 intro pins s σ H xs us Q I r h
 obtain ⟨p,ys,rfl,h⟩:=h
 obtain ⟨u,rfl,rx⟩:=vals1 r
 cases rx
 rcases h with ⟨hq,q⟩ | ⟨hq,q⟩
 ·obtain ⟨its,r',pl,hz⟩:=I.list hq
  have hlen:=r'.length
  refine call_tuple_list pl.isList (fun h' kp=>?_) (by simp only [List.size_toArray] <;> omega)
  have I1:Inv X pins σ H { s with heap:=h' }:=I.kept (t':=s.toks) kp
  have I2:Inv X pins σ (upd H h'.objs.size (.tup ys)) { s with heap:=h'.push { cls:=.type "tuple",data:=.seq its.toArray } }:=
   I1.laid (t':=s.toks) (fun b o e=>Heap.get?_push_of_some _ e) (Nat.le_refl _) (show dJ X.prog X.w _ _ _ (.tup ys) from ⟨hz,its,r',IsTup.new _ _⟩)
  exact ⟨.ref h'.objs.size,_,I2,rfl,q _ (I1.hok.fresh (Nat.le_refl _))⟩
 ·obtain ⟨its,r',pl,hz⟩:=I.tuple hq
  exact call_tuple_same pl ⟨.ref p,H,I,rfl,q⟩
noncomputable def tyV (K:W.Frag)(T:String)(x:V)(H:Hp):Prop:=match x with
 | .str _=>T = "str"
 | .int _=>T = "int"
 | .ref p=>(T = "list"/\∃xs,SqL K H p xs)\/(T = "tuple"/\∃o,K.lookup p=some o/\o.cls=.type "tuple"/\o.dict=none) ∨
   (T = "dict"/\((∃kvs,H p=some (.dK kvs))\/∃T kvs,Rd H p (.dT T kvs)))\/(T = "set"/\∃S n,H p=some (.set S n))
 |_=>False
theorem Oe {pins:List (Addr×Obj)}{σ:St}{H:Hp}{s:Shared}{T:String}{x:V}{v:Value}(I:Inv X pins σ H s)(r:RelV x v)(ty:tyV X.K T x H):
  s.TypeIs v T/\∀a,v=.ref a->∃ob,s.heap.get? a=some ob/\ob.dict=none:=by
 cases x with
 |str z=>
  obtain ⟨t,rfl⟩:=r
  cases (show T = "str" from ty)
  exact ⟨typeIs_str s z t,fun _ e=>nomatch e⟩
 |int i=>
  obtain ⟨t,rfl⟩:=r
  cases (show T = "int" from ty)
  exact ⟨typeIs_int s i t,fun _ e=>nomatch e⟩
 |ref p=>
  cases r
  rcases ty with ⟨rfl,xs,hq⟩ | ⟨rfl,o,hk,hc,hd⟩ | ⟨rfl,hk⟩ | ⟨rfl,S,n,hk⟩
  ·obtain ⟨its,_,pl,_⟩:=I.list hq
   refine ⟨pl.isList.typeIs,fun a e=>?_⟩
   cases e
   obtain ⟨o,n,e,c,hd,_⟩:=pl
   exact ⟨o,e,hd⟩
  ·refine ⟨⟨o,I.kIn p o hk,hc⟩,fun a e=>?_⟩
   cases e
   exact ⟨o,I.kIn _ o hk,hd⟩
  ·have z:∃o,s.heap.get? p=some o/\o.ExactDict:=by
    rcases hk with ⟨kvs,hk⟩ | ⟨_,kvs,hk⟩
    ·obtain ⟨_,_,_,_,o,_,_,e,ex,_⟩:=I.hok p _ hk
     exact ⟨o,e,ex⟩
    ·obtain ⟨_,_,_,_,o,_,_,e,ex,_⟩:=(show dJ X.prog X.w H s.heap p (.dT _ kvs) from hk.ok I.hok)
     exact ⟨o,e,ex⟩
   obtain ⟨o,e,ex⟩:=z
   refine ⟨⟨o,e,ex.1⟩,fun a e2=>?_⟩
   cases e2
   exact ⟨o,e,ex.2.1⟩
  ·obtain ⟨o,_,_,_,e,ex,_⟩:=I.hok p _ hk
   refine ⟨⟨o,e,ex.1⟩,fun a e2=>?_⟩
   cases e2
   exact ⟨o,e,ex.2.1⟩
 |_=>exact False.elim ty
noncomputable def Zr (K:W.Frag)(T:String)(r:V->List V->Hp->VK->Prop)(to:TE):TE:=fun σ H Q=>to σ H fun x H1=>tyV K T x H1/\r x [] H1 Q
noncomputable def tBM (K:W.Frag)(T:String)(r:V->List V->Hp->VK->Prop)(to:TE)(t:TA):TE:=fun σ H Q=>to σ H fun x H1=>tyV K T x H1/\t σ H1 fun xs H2=>r x xs H2 Q
variable {o e:Expr}{es:List Expr}{to:TE}{t:TA}{name:Str}{apos cpos:Pos}{T id:String}{r:V->List V->Hp->VK->Prop}
theorem Dl (pa:PlainAttrs T)(slot:Slot T name id)(hty:typeOf (.builtin id)=pure (.type "method_descriptor"))(hm:MtR X id r)(ho:PE X o to)
  (hbase:attributeBase o name X.env (eval o X.env)=eval o X.env:=by rfl) (hline:(apos.endLine == cpos.line)=true:=by rfl):PE X (.Call (.Attribute o name apos) [] [] cpos) (Zr X.K T r to):=by
 intro pins s σ H Q I h
 refine wpAny_Call_method0_late hbase hline (thn (ho pins s σ H _ I h) fun v s1 ⟨x,H1,I1,r1,ty,q1⟩=>?_)
 obtain ⟨h1,h2⟩:=Oe I1 r1 ty
 exact ⟨T,id,pa,slot,hty,h1,h2,Calls.callWith_builtin rfl (PySem.evalArgs_none (hm pins s1 σ H1 x [] v [] Q I1 r1 .nil q1))⟩
theorem Jr (pa:PlainAttrs T)(slot:Slot T name id)(hty:typeOf (.builtin id)=pure (.type "method_descriptor"))(hm:MtR X id r)(ho:PE X o to)(ha:PA X (e::es) t)
  (hbase:attributeBase o name X.env (eval o X.env)=eval o X.env:=by rfl)
  (hfew:((backTo cpos (starEach (e::es) X.env)).all (fun x=>!x.1) && (backToKw cpos (keywordEach [] X.env)).all (fun x=>x.1.isSome)
   && decide ((e::es).length+([]:List Keyword).length+(if ([]:List Keyword).isEmpty then 0 else 1)<30))=true:=by rfl)
  (hline:(apos.endLine == cpos.line)=true:=by rfl) (hs:starEach (e::es) X.env=(false,eval e X.env)::starEach es X.env:=by rfl) (hplain:(backTo cpos (starEach es X.env)).any (·.1)=false:=by rfl):
  PE X (.Call (.Attribute o name apos) (e::es) [] cpos) (tBM X.K T r to t):=by
 intro pins s σ H Q I h
 refine wpAny_Call_method_late hbase hfew hline rfl (thn (ho pins s σ H _ I h) fun v s1 ⟨x,H1,I1,r1,ty,q1⟩=>?_)
 obtain ⟨h1,h2⟩:=Oe I1 r1 ty
 refine ⟨T,id,pa,slot,hty,h1,h2,?_⟩
 have hA:=ha cpos pins s1 σ H1 _ I1 q1
 rw [hs] at hA ⊢
 refine Calls.callWith_builtin (by show (false || (backTo cpos (starEach es X.env)).any (·.1))=false; rw [hplain] <;> rfl) (Calls.evalArgs_plain ?_)
 exact thn hA fun us s2 hE=>xq2 hE fun vs H2 I2 r2 q2=>hm pins s2 σ H2 x vs v us Q I2 r1 r2 q2
end
open PySem PySem.Spec PyProof.Rows
noncomputable def MtM (X:Cx)(id:String)(r:V->List V->Hp->VK->Prop):Prop:=
 ∀(pins:List (Addr×Obj)) (s:Shared) (σ:St) (H:Hp) (x:V) (xs:List V) (v:Value) (us:List Value) (Q:VK),Inv X pins σ H s->RelV x v->Vals xs us->r x xs H Q->
  wpAny (model X.prog X.w) X.A (call (.builtin id) (v::us)) (EP X pins σ Q) X.xe s
theorem Vals.one:∀{x:V} {us:List Value},Vals [x] us->∃u,us=[u]/\RelV x u
 |_,_,.cons r .nil=>⟨_,rfl,r⟩
theorem Vals.zero:∀{us:List Value},Vals [] us->us=[]
 |_,.nil=>rfl
theorem Vals.dropLast {xs:List V}{us:List Value}(h:Vals xs us):Vals xs.dropLast us.dropLast:=by
 induction h with
 |nil=>exact .nil
 |cons r t ih=>
  cases t with
  |nil=>exact .nil
  |cons q t'=>exact .cons r ih
theorem Vals.eraseIdx:∀{xs:List V} {us:List Value} (i:Nat),Vals xs us->Vals (xs.eraseIdx i) (us.eraseIdx i)
 |_,_,_,.nil=>.nil
 |_,_,0,.cons _ t=>t
 |_,_,i+1,.cons r t=>.cons r (Vals.eraseIdx i t)
theorem Vals.reverse {xs:List V}{us:List Value}(h:Vals xs us):Vals xs.reverse us.reverse:=by
 induction h with
 |nil=>exact .nil
 |cons r t ih=>rw [List.reverse_cons,List.reverse_cons]; exact Vals.append ih (.cons r .nil)
theorem GQ {α:Type}(l:List α):l.eraseIdx (l.length - 1)=l.dropLast:=by
 induction l with
 |nil=>rfl
 |cons a r ih=>
  cases r with
  |nil=>rfl
  |cons b r=>
   have e:(a::b::r).length - 1=((b::r).length - 1)+1:=by
    have h1:(a::b::r).length=r.length+2:=rfl
    have h2:(b::r).length=r.length+1:=rfl
    omega
   rw [e,List.eraseIdx_cons_succ,ih]
   all_goals rfl
section
variable {X:Cx}{pins:List (Addr×Obj)}{σ:St}{H:Hp}{s:Shared}{l b:Addr}{xs ys zs:List V}
theorem Inv.RM {its its':List Value}{n:Nat}{f:Array Value->Array Value}{t':Nat}(I:Inv X pins σ H s)(hH:H l=some (.lst xs))
  (e:s.heap.get? l=some { cls:=.type "list",data:=.seq its.toArray n }) (hf:f its.toArray=its'.toArray) (hv:Vals ys its') (hz:ys.length<=sizeLine):
  Inv X pins σ (upd H l (.lst ys)) { s with heap:=s.heap.update l (Obj.mapSeq f),toks:=t' }:=by
 have q:=PySem.IsL.update e f
 rw [hf] at q
 refine I.write (x:=l) (e:=l) (by rw [hH]; exact trivial) (.inl rfl) (fun b' u hb hu=>(Heap.get?_update_other s.heap (Obj.mapSeq f) (Ne.symm hb)).trans hu) ⟨_,q⟩ ?_
 exact ⟨hz,its',_,hv,q⟩
theorem Inv.Pa (I:Inv X pins σ H s)(hH:H l=some (.lst xs)):xs.length<=sizeLine/\∃(its:List Value) (n:Nat),Vals xs its/\xs.length=its.length/\s.heap.get? l=some { cls:=.type "list",data:=.seq its.toArray n }:=by
 obtain ⟨z,its,n,r,e⟩:=I.hok l _ hH
 exact ⟨z,its,n,r,r.length,e⟩
theorem Qa {n:Nat}(h:n<=sizeLine):Builtin.List.listTooLong n=false:=by
 unfold Builtin.List.listTooLong
 exact decide_eq_false (by omega)
end
section
variable {X:Cx}
noncomputable def Sq:V->List V->Hp->VK->Prop:=fun x vs H Q=>∃l xs y,x=.ref l/\vs=[y]/\H l=some (.lst xs)/\xs.length<sizeLine/\Q .non (upd H l (.lst (xs++[y])))
theorem vH:MtM X "list.append" Sq:=by
 intro pins s σ H x vs v us Q I rx rv h
 obtain ⟨l,xs,y,rfl,rfl,hH,hz,q⟩:=h
 cases rx
 obtain ⟨u,rfl,ru⟩:=rv.one
 obtain ⟨z,its,n,r,hl,e⟩:=I.Pa hH
 refine call_meets F.slot_list_append ⟨_,e,rfl⟩ F.entry_list_append (F.args_list_append_2 _ _) (PySem.list_append l its.toArray n u (by rw [List.size_toArray]; omega)) ⟨e,?_⟩
 refine ⟨.non,_,I.RM (its':=its++[u]) hH e (by simp) (r.append (.cons ru .nil)) ?_,rfl,q⟩
 rw [List.length_append,List.length_singleton]
 omega
noncomputable def Ua:V->List V->Hp->VK->Prop:=fun x vs H Q=>∃l b xs zs,x=.ref l/\vs=[.ref b]/\H l=some (.lst xs)/\H b=some (.lst zs)/\xs.length+zs.length<=sizeLine/\Q .non (upd H l (.lst (xs++zs)))
theorem Lp:MtM X "list.extend" Ua:=by
 intro pins s σ H x vs v us Q I rx rv h
 obtain ⟨l,b,xs,zs,rfl,rfl,hH,hB,hz,q⟩:=h
 cases rx
 obtain ⟨u,rfl,ru⟩:=rv.one
 cases ru
 obtain ⟨z,its,n,r,hl,e⟩:=I.Pa hH
 obtain ⟨z2,its2,n2,r2,hl2,e2⟩:=I.Pa hB
 have hsz:its.toArray.size+its2.toArray.size<=sizeLine:=by rw [List.size_toArray,List.size_toArray]; omega
 have hlong:¬(!its.toArray.isEmpty && Builtin.List.listTooLong (its.toArray.size+its2.toArray.size))=true:=by
  rw [Qa hsz,Bool.and_false]
  exact Bool.false_ne_true
 refine call_meets F.slot_list_extend ⟨_,e,rfl⟩ F.entry_list_extend (F.args_list_extend_2 _ _)
  (AutoSeq1.list_extend_list_list_0 l its.toArray n b its2.toArray n2 hlong (by rw [List.size_toArray]; omega) (by omega)) ⟨e,e2,?_⟩
 refine ⟨.non,_,I.RM (its':=its++its2) hH e (by simp) (r.append r2) ?_,rfl,q⟩
 rw [List.length_append]
 omega
noncomputable def Zz:V->List V->Hp->VK->Prop:=fun x vs H Q=>∃l xs y,x=.ref l/\vs=[]/\H l=some (.lst xs)/\xs[xs.length - 1]? = some y/\Q y (upd H l (.lst xs.dropLast))
theorem Ph:MtM X "list.pop" Zz:=by
 intro pins s σ H x vs v us Q I rx rv h
 obtain ⟨l,xs,y,rfl,rfl,hH,hy,q⟩:=h
 cases rx
 have hus:=rv.zero
 subst hus
 obtain ⟨z,its,n,r,hl,e⟩:=I.Pa hH
 obtain ⟨u,hu,ru⟩:=r.get hy
 have hy':its.toArray[its.toArray.size - 1]? = some u:=by
  show its.toArray[its.length - 1]? = some u
  rw [← Array.getElem?_toList,← hl]
  exact hu
 refine call_meets F.slot_list_pop ⟨_,e,rfl⟩ F.entry_list_pop (F.args_list_pop_1 _) (MeetsSeq.list_pop_last l its.toArray n u hy' (by rw [List.size_toArray]; omega)) ⟨e,?_⟩
 refine ⟨y,_,I.RM (its':=its.dropLast) hH e ?_ r.dropLast ?_,ru,q⟩
 ·show its.toArray.eraseIdxIfInBounds (its.toArray.size - 1)=its.dropLast.toArray
  rw [List.size_toArray,List.eraseIdxIfInBounds_toArray,GQ]
 ·rw [List.length_dropLast]
  omega
noncomputable def Vg:V->List V->Hp->VK->Prop:=fun x vs H Q=>∃l xs,x=.ref l/\vs=[]/\H l=some (.lst xs)/\Q .non (upd H l (.lst []))
theorem QC:MtM X "list.clear" Vg:=by
 intro pins s σ H x vs v us Q I rx rv h
 obtain ⟨l,xs,rfl,rfl,hH,q⟩:=h
 cases rx
 have hus:=rv.zero
 subst hus
 obtain ⟨z,its,n,r,hl,e⟩:=I.Pa hH
 refine call_meets F.slot_list_clear ⟨_,e,rfl⟩ F.entry_list_clear (F.args_list_clear_1 _) (AutoSeq1.list_clear_list_0 l its.toArray n (by rw [List.size_toArray]; omega)) ⟨e,?_⟩
 exact ⟨.non,_,I.RM (its':=[]) (ys:=[]) hH e rfl .nil (Nat.zero_le _),rfl,q⟩
end
section
variable {prog:Program}{w:World}{A:Around}{E:Value->Shared->Prop}{s:Shared}
end
section
variable {X:Cx}
end
end L2
namespace Att
open PySem PySem.W PySem.Calls PyProof.Rows
theorem wZ {P:Params}{h:Heap}:∀(ns:List Int) (vs:List Value),WellAll P h vs (ns.map WData.int)->IntsAre vs ns:=by
 intro ns
 induction ns with
 |nil=>
  intro vs w
  rw [List.map_nil] at w
  cases w
  exact .nil
 |cons n ns ih=>
  intro vs w
  rw [List.map_cons] at w
  cases w with
  |cons a b=>
   cases a
   exact .cons _ _ (ih _ b)
theorem K9 {l:OpenLaw}{n:Nat}(hn:l.most=some n){P:Params}{h:Heap}{args:List WData}{vals:List Value}
  (hpre:l.row.toRowW.claim.pre args=true) (hwl:WellAll P h vals args):
  ∃a vs ns,vals=[Value.ref a]/\args=[WData.list (ns.map WData.int)]/\h.get? a=some { cls:=.type "list",data:=.seq vs.toArray }/\IntsAre vs ns/\ns.length<=n:=by
 have hsh:WShape.hasAll [] args [.list .int]=true:=(pre_splitW hpre).1
 have hc:l.pre.holds [] { args:=args }=true:=(pre_splitW hpre).2
 obtain ⟨d,r,rfl,h1,h2⟩:=hasAllW_cons hsh
 obtain rfl:=hasAllW_nil h2
 obtain ⟨xs,rfl,h3⟩:=hasW_list h1
 obtain ⟨ns,rfl⟩:=items_int h3
 have hlen:ns.length<=n:=by
  unfold OpenLaw.pre at hc
  have h4:(WTm.not (.lt (.lit (.int (n:Int))) (.len (.arg 0)))).holds [] { args:=[.list (ns.map .int)] }=true:=by
   have h4:=(holds_andW hc).1
   rw [hn] at h4
   exact h4
  have h5:=condW_of h4 (w_not (w_lt w_lit (w_len_list (w_arg rfl))))
  rw [List.length_map] at h5
  refine Nat.le_of_not_lt fun q=>?_
  have q':(n:Int)<((ns.length:Nat):Int):=by omega
  first
   |(rw [decide_eq_true q'] at h5; exact absurd h5 (by decide))
   |(simp at h5; omega)
 cases hwl with
 |cons w1 w2=>
  cases w2
  cases w1 with
  |list ho hall=>exact ⟨_,_,ns,rfl,rfl,ho,wZ ns _ hall,hlen⟩
theorem Li (l:OpenLaw)(args:List WData):l.row.toRowW.claim.post args (.bool true) args=true:=
 postW_of (r:=l.row.toRowW) (X:=(true == true))
  (show WShape.has [] (.bool true) .bool=true by first | rfl | decide | simp [WShape.has,WShape.arms,WShape.armsAll])
  (show (WTm.eq .res (.lit (.bool true))).value [] { args:=args,res:=some (.bool true),after:=args }=some (.bool (true == true)) from w_eq_bool (w_res rfl) w_lit) rfl
theorem Fe {l:OpenLaw}{n:Nat}{q:Program}{loose:List Str}{XP:(Str->Option Value)->Heap->Prop}{YP:World->Heap->Prop}{d:DefRec}
  (hn:l.most=some n) (hdf:d.params.defaults=[])
  (call:∀(w:World) (s₀ s₁:Shared) (mg mb:Str->Option Value) (fa:Addr) (o:Obj) (pm cd doc:Value) (a:Addr) (vs:List Value) (ns:List Int),
   Ground q loose [] XP w s₀ mg mb s₁.heap->YP w s₁.heap->
   s₁.heap.get? fa=some o->o.data=.func (docDef d.name d.params d.body d.scope pm cd doc)->s₁.heap.CodeRec cd d.name->mg d.name=some (.ref fa)->
   s₁.heap.get? a=some { cls:=.type "list",data:=.seq vs.toArray }->IntsAre vs ns->ns.length<=n->s₁.gens=#[]->
   codeAny (model l.prog w) callerA (.call (.ref fa) ⟨[.ref a],[]⟩) (fun r s'=>r=.ok (.ret (.bool true))/\OldK s₁.heap s'.heap/\s'.os=s₁.os/\AllBare s'.gens) s₁):
  WalkO q loose XP YP l.row.toRowW d [] (fun f vs=>PySem.call f vs):=by
 intro w s₀ s₁ mg mb G Y fa o pm cd doc dV kV ho hd hcd hD hmg hg args vals as hpre hlay hrd hwl hlo
 obtain rfl:dV=.none:=Dflts.none hD hdf
 obtain rfl:kV=.none:=Dflts.noKw hD
 obtain ⟨a,vs,ns,rfl,rfl,hobj,hints,hlen⟩:=K9 hn hpre hwl
 refine enter_call (codeAny_mono (call w s₀ s₁ mg mb fa o pm cd doc a vs ns G Y ho (fd_plain hd) hcd hmg hobj hints hlen hg) fun r s' hq=>?_)
 obtain ⟨rfl,h2,h3,h4⟩:=hq
 exact ⟨.inl ⟨.bool true,.bool true,[],rfl,fun _=>rfl,.bool true,Li l _,fun _=>⟨List.Pairwise.nil,fun _ hm=>(nomatch hm)⟩⟩,h2,h3,h4⟩
section
variable {prog:Program}{w:World}{A:Around}{E:Value->Shared->Prop}{s:Shared}{K:Frag}
end
end Att
namespace L2
open PySem PySem.Spec PyProof.Rows
theorem zX:∀{vs:List Value} {ns:List Int},IntsAre vs ns->Vals (ns.map V.int) vs
 |_,_,.nil=>.nil
 |_,_,.cons n t h=>.cons ⟨t,rfl⟩ (zX h)
noncomputable def Only (H:Hp):Prop:=∀b,H b=none\/∃o xs,H b=some (.frz o (.lst xs))
theorem Qm {P:Program}{w:World}{K:W.Frag}{mg mb:Str->Option Value}{CX:CXT}{k:Nat}{fa a:Addr}{fd:FuncData}{x:Str}{sp:Sp}{s₁:Shared}{vs:List Value}{ns:List Int}
  (KX:K.In s₁.heap) (hns:s₁.heap.Ns mainGlobals mg) (hb:s₁.heap.Ns builtinsNs mb) (hbb:∀x:Str,x≠"__name__"->mb x=bootBuiltins x) (hlim:s₁.heap.NoLimit) (hg:s₁.gens=#[])
  (ha:s₁.heap.get? a=some { cls:=.type "list",data:=.seq vs.toArray }) (hi:IntsAre vs ns) (hl:ns.length<=sizeLine) (hr:ig k callerA)
  (F:∀base:Heap,K.In base->base.Ns mainGlobals mg->cT P w K mg base CX k fa fd [x] sp) (hbind:∀(s:Shared) (u:Value),BindsTo s fd ⟨[u],[]⟩ [(x,u)])
  (hsp:∀H:Hp,Only H->SqL K H a (ns.map V.int)->sp [.ref a] H (fun v _=>v=.bl true) fun _ _ _=>False)
  (hCX:∀H e s',CX [] H s₁ (fun _ _ _=>False) e s'->False):
  codeAny (model P w) callerA (.call (.ref fa) ⟨[.ref a],[]⟩) (fun r s'=>r=.ok (.ret (.bool true))/\OldK s₁.heap s'.heap/\s'.os=s₁.os/\AllBare s'.gens) s₁:=by
 have rv:=zX hi
 have lenV:=hi.length
 have core:∀H:Hp,Only H->SqL K H a (ns.map V.int)->HOk P w H s₁.heap->(∀b,H b≠none->b=a)->(H a≠none->K.lookup a=none)->
   codeAny (model P w) callerA (.call (.ref fa) ⟨[.ref a],[]⟩) (fun r s'=>r=.ok (.ret (.bool true))/\OldK s₁.heap s'.heap/\s'.os=s₁.os/\AllBare s'.gens) s₁:=by
  intro H hO hS hok hA hK
  have base_of:∀{b:Addr} {o:Obj},s₁.heap.get? b=some o->H b=none->(Ci s₁.heap H).get? b=some o:=fun e n=>M5 e n
  have noA:∀{b:Addr} {o:Obj} {es:Array DictEntry} {ep:Nat},s₁.heap.get? b=some o->o.data=.dict es ep->H b=none:=fun {b o es ep} e d=>by
   cases q:H b with
   |none=>rfl
   |some u=>
    have e':b=a:=hA b (by rw [q]; simp)
    subst e'
    rw [ha] at e; cases e
    have d':Data.seq vs.toArray _=Data.dict es ep:=d
    cases d'
  have nsK:∀{b:Addr} {m:Str->Option Value},s₁.heap.Ns b m->(Ci s₁.heap H).Ns b m:=fun {b m} ⟨o,es,ep,e,d,r⟩=>⟨o,es,ep,base_of e (noA e d),d,r⟩
  have hKb:K.In (Ci s₁.heap H):=fun b o e=>base_of (KX b o e) (by
   cases q:H b with
   |none=>rfl
   |some u=>
    have e':b=a:=hA b (by rw [q]; simp)
    subst e'
    rw [hK (by rw [q]; simp)] at e; cases e)
  have hM:Mod K mg (Ci s₁.heap H):=⟨hKb,nsK hns,⟨mb,nsK hb,hbb⟩,let ⟨mc,h1,h2⟩:=hlim; ⟨mc,nsK h1,h2⟩⟩
  have e0:Hs P w K mg (Ci s₁.heap H) callerA [] s₁ H:=⟨rfl,hM,fun b o e=>Ri e,Nat.le_of_eq (KN _ _),trivial,fun b hb=>absurd (show b∈([]:List Addr) from hb) (by simp),hok,.of_eq hg⟩
  refine codeAny_mono ((F _ hKb (nsK hns)).run callerA [] s₁ H ⟨[.ref a],[]⟩ [.ref a] [.ref a] _ _ hr e0 (hbind s₁ (.ref a)) (.cons rfl .nil) (hsp H hO hS)) fun r s' h=>?_
  cases r with
  |error e=>exact (hCX H e s' h).elim
  |ok fl=>
   cases fl with
   |next=>exact False.elim h
   |brk=>exact False.elim h
   |cont=>exact False.elim h
   |ret u=>
    obtain ⟨v,H',os,bare,un,hok',r',q⟩:=h
    have q':v=.bl true:=q
    subst q'
    obtain rfl:u=Value.bool true:=r'
    refine ⟨rfl,OldK.of_keep fun b o e=>?_,os,bare⟩
    cases q:H b with
    |none=>exact un.keep b o e q (by intro z; exact absurd (show b∈([]:List Addr) from z) (by simp)) (by simp)
    |some u=>
     rcases hO b with z | ⟨ob,xs,z⟩
     ·rw [q] at z; cases z
     ·have z2:=un.frzs b ob _ z
      obtain ⟨e1,_⟩:=hok b _ z
      obtain ⟨e2,_⟩:=hok' b _ z2
      rw [e] at e1; cases e1
      exact e2
 cases hk:K.lookup a with
 |some o=>
  have e:=KX a o hk
  rw [ha] at e
  cases e
  refine core (fun _=>none) (fun _=>.inl rfl) (.inr ⟨_,vs.toArray,_,hk,rfl,rfl,rfl,by rw [List.size_toArray,lenV]; exact hl,by simpa using rv⟩) (fun b u z=>by have z':(none:Option HO)=some u:=z; cases z') (fun b z=>absurd rfl z) fun z=>absurd rfl z
 |none=>
  refine core (fun b=>if b=a then some (.frz { cls:=.type "list",data:=.seq vs.toArray } (.lst (ns.map V.int))) else none) (fun b=>?_) (.inl (.inr ⟨{ cls:=.type "list",data:=.seq vs.toArray },if_pos rfl⟩)) (fun b u z=>?_) (fun b z=>?_) fun _=>hk
  ·by_cases hb:b=a
   ·exact .inr ⟨_,_,if_pos hb⟩
   ·exact .inl (if_neg hb)
  ·by_cases hb:b=a
   ·have z':=(if_pos hb).symm.trans z
    cases z'
    subst hb
    exact ⟨ha,by rw [List.length_map]; exact hl,vs,_,rv,ha⟩
   ·have z':=(if_neg hb).symm.trans z
    cases z'
  ·by_cases hb:b=a
   ·exact hb
   ·exact absurd (if_neg hb) z
open PySem PySem.Spec PyProof.Rows
theorem T5 {l:PySem.W.OpenLaw}{n k:Nat}{q:Program}{loose:List Str}{XP:(Str->Option Value)->Heap->Prop}{YP:World->Heap->Prop}{d:DefRec}{K:Params->W.Frag}{CX:World->CXT}{sp:World->Sp}{x:Str}
  (hn:l.most=some n) (hn2:n<=sizeLine) (hdf:d.params.defaults=[]) (hr:ig k callerA)
  (hY:∀(w:World) (h:Heap),YP w h->(K w.params).In h)
  (F:∀(w:World) (mg:Str->Option Value) (fa:Addr) (h:Heap),(K w.params).In h->h.Ns mainGlobals mg->mg d.name=some (.ref fa)->
   ∃fd:FuncData,(∀(s:Shared) (u:Value),BindsTo s fd ⟨[u],[]⟩ [(x,u)])/\
    ∀base:Heap,(K w.params).In base->base.Ns mainGlobals mg->cT l.prog w (K w.params) mg base (CX w) k fa fd [x] (sp w))
  (hsp:∀(w:World) (H:Hp) (a:Addr) (ns:List Int),ns.length<=n->Only H->SqL (K w.params) H a (ns.map V.int)->sp w [.ref a] H (fun v _=>v=.bl true) fun _ _ _=>False)
  (hCX:∀(w:World) (H:Hp) (s:Shared) (e:Value) (s':Shared),CX w [] H s (fun _ _ _=>False) e s'->False):
  PySem.W.WalkO q loose XP YP l.row.toRowW d [] (fun f vs=>PySem.call f vs):=by
 refine Att.Fe hn hdf fun w s₀ s₁ mg mb fa o pm cd doc a vs ns G Y ho hd hcd hmg hobj hints hlen hg=>?_
 have KX:=hY w _ Y
 obtain ⟨fd,hb,hF⟩:=F w mg fa _ KX G.T.g hmg
 exact Qm KX G.T.g G.T.b G.T.builtins G.T.nolimit hg hobj hints (Nat.le_trans hlen hn2) hr hF hb (fun H hO hS=>hsp w H a ns hlen hO hS) fun H e s'=>hCX w H s₁ e s'
open PySem PySem.Spec PyProof.Rows
noncomputable def lZ (s:Stmt):Arguments:=match s with
 | .FunctionDef _ a _ _ _ _ _ _ _ _=>a
 |_=>{ posonlyargs:=[],args:=[],vararg:=none,kwonlyargs:=[],kw_defaults:=[],kwarg:=none,defaults:=[] }
noncomputable def iU (s:Stmt):List Stmt:=match s with
 | .FunctionDef _ _ b _ _ _ _ _ _ _=>b
 |_=>[]
noncomputable def aH (s:Stmt):Scope:=match s with
 | .FunctionDef _ _ _ _ _ _ sc _ _ _=>sc
 |_=>{ kind:=.function,names:=[],isGenerator:=false,isCoroutine:=false }
noncomputable abbrev E0:XK:=fun _ _ _=>False
structure Fun (K:W.Frag)(x qual:Str)(st:Stmt)(f:Addr)(fd:FuncData):Prop where
 ex:∃(oc:Value) (od:Option Addr) (kV doc pm:Value) (an:Option Addr) (cdv ct:Value) (osl:Array (Option Value)),
  fd=W.fnOf x qual (lZ st) (iU st) (aH st) .none kV doc pm an cdv ct/\K.lookup f=some ⟨oc,od,.func fd,osl⟩/\W.codeIn K cdv qual=true
 kp:W.keepIn K (.ref f)=true
section
variable {P:Program}{w:World}{K:W.Frag}{mg:Str->Option Value}{base:Heap}
theorem Fun.binds {x qual:Str}{st:Stmt}{f:Addr}{fd:FuncData}{ps:List Str}(F:Fun K x qual st f fd)
  (h:∀(kV doc pm:Value) (an:Option Addr) (cdv ct:Value) (us:List Value),us.length=ps.length->bindArgs (W.fnOf x qual (lZ st) (iU st) (aH st) .none kV doc pm an cdv ct) ⟨us,[]⟩=pure (ps.zip us)):Binds K fd ps []:=by
 obtain ⟨oc,od,kV,doc,pm,an,cdv,ct,osl,rfl,lk,hcd⟩:=F.ex
 exact .all (h kV doc pm an cdv ct)
theorem M8 {x qual:Str}{st:Stmt}{f:Addr}{oc:Value}{od an:Option Addr}{osl:Array (Option Value)}{kV doc pm cdv ct:Value}(l:K.lookup f=some ⟨oc,od,.func (W.fnOf x qual (lZ st) (iU st) (aH st) .none kV doc pm an cdv ct),osl⟩)
  (c:W.codeIn K cdv qual=true) (k:W.keepIn K (.ref f)=true):Fun K x qual st f (W.fnOf x qual (lZ st) (iU st) (aH st) .none kV doc pm an cdv ct):=⟨⟨oc,od,kV,doc,pm,an,cdv,ct,osl,rfl,l,c⟩,k⟩
end
section
variable {X:Cx}
theorem pv (i:Nat){x:Str}{pos:Pos}(hN:X.N[i]? = some x:=by rfl)(hv:Vis X.env.scope x:=by first | exact Or.inl rfl | exact Or.inr (Or.inl rfl) | exact Or.inr (Or.inr rfl))(hd:(x == ("__debug__" : Str))=false:=by decide)
  (hcd:(x == ("__classdict__" : Str))=false:=by decide):PE X (.Name x pos) (Xv i):=iZ hN hv hd hcd
end
noncomputable def aK (H H':Hp):Prop:=∀b o,H b=some o->H' b=some o
theorem aK.refl (H:Hp):aK H H:=fun _ _ h=>h
theorem aK.trans {H H1 H2:Hp}(a:aK H H1)(b:aK H1 H2):aK H H2:=fun c o h=>b c o (a c o h)
theorem aK.free {H H':Hp}(e:aK H H'){l:Addr}(h:H' l=Option.none):H l=Option.none:=by
 cases q:H l with
 |none=>rfl
 |some o=>
  rw [e l o q] at h
  cases h
theorem aK.seq {K:W.Frag}{H H':Hp}{a:Addr}{xs:List V}(e:aK H H')(h:SqL K H a xs):SqL K H' a xs:=by
 rcases h with (h | ⟨o,h⟩) | h
 ·exact .inl (.inl (e _ _ h))
 ·exact .inl (.inr ⟨o,e _ _ h⟩)
 ·exact .inr h
end L2
set_option maxHeartbeats 4000000
namespace Hd
open PySem PySem.Spec PyProof.Rows L2
noncomputable abbrev St:=L2.St
theorem OJ {n k:Nat}(h:n<2 ^ k)(hk:0<k):n.log2<k:=by
 by_cases z:n=0
 ·rw [z]
  exact hk
 ·exact (Nat.log2_lt z).mpr h
theorem bits_le {i:Int}(h:i.natAbs<2 ^ 4000):Builtin.Int.intBits i<=4000:=by
 unfold Builtin.Int.intBits
 split
 ·exact Nat.zero_le _
 ·exact OJ h (by decide)
noncomputable def Xf (_ j:Int):Prop:=j≠0/\j.natAbs<2 ^ 4000
noncomputable def Ql (i j:Int):Prop:=i.natAbs<2 ^ 4000/\j.natAbs<2 ^ 4000
theorem Ql.ok {i j:Int}(h:Ql i j):IntMulOk i j:=by
 have h1:=bits_le h.1
 have h2:=bits_le h.2
 have hb:bitsLine=134217728:=rfl
 have z:Builtin.Int.intTooBig (Builtin.Int.intBits i+Builtin.Int.intBits j)=false:=by
  unfold Builtin.Int.intTooBig
  refine decide_eq_false ?_
  omega
 unfold IntMulOk
 rw [z]
 simp
section
variable {X:Cx}
theorem Qd:OpR X (binaryOp .FloorDiv) (rI Xf fun i j=>.int (i.fdiv j)):=
 opI fun _ _ _ _ _ _ _ hc q=>floordiv_int hc.1 q (.inl (PyProof.noPylong_of_log2 (Nat.lt_of_lt_of_le (OJ hc.2 (by decide)) (by decide))))
theorem Q5:OpR X (binaryOp .Mult) (rI Ql fun i j=>.int (i * j)):=opI fun _ _ _ _ _ _ _ hc q=>mul_int q hc.ok
end
mutual
inductive DV (K:W.Frag)(H:Hp):V->PyData->Prop where
 |non:DV K H .non .none
 |bl (b:Bool):DV K H (.bl b) (.bool b)
 |int (i:Int):DV K H (.int i) (.int i)
 |str (x:Str):DV K H (.str x) (.str x)
 |tup {a:Addr} {xs:List V} {ds:List PyData}:SqT K H a xs->DVs K H xs ds->DV K H (.ref a) (.tuple ds)
 |lst {a:Addr} {xs:List V} {ds:List PyData}:SqL K H a xs->DVs K H xs ds->DV K H (.ref a) (.list ds)
inductive DVs (K:W.Frag)(H:Hp):List V->List PyData->Prop where
 |nil:DVs K H [] []
 |cons {v:V} {vs:List V} {d:PyData} {ds:List PyData}:DV K H v d->DVs K H vs ds->DVs K H (v::vs) (d::ds)
end
section
variable {X:Cx}{pins:List (Addr×Obj)}{σ:St}{H:Hp}{s:Shared}
mutual
theorem DV.reads (I:Inv X pins σ H s):∀{v:V} {d:PyData} {u:Value},DV X.K H v d->RelV v u->∃as,Reads s.heap u d as
 |_,_,u,.non,r=>by cases (show u=Value.none from r); exact ⟨_,.none⟩
 |_,_,u,.bl b,r=>by cases (show u=Value.bool b from r); exact ⟨_,.bool b⟩
 |_,_,u,.int i,r=>by obtain ⟨t,e⟩:=(show ∃t,u=Value.int i t from r); subst e; exact ⟨_,.int i t⟩
 |_,_,u,.str x,r=>by obtain ⟨t,e⟩:=(show ∃t,u=Value.str x t from r); subst e; exact ⟨_,.str x t⟩
 |_,_,u,.tup (a:=a) h hs,r=>by
  cases (show u=Value.ref a from r)
  obtain ⟨its,rv,⟨o,ho,hc,n,hd⟩,_⟩:=I.tuple h
  obtain ⟨as,ra⟩:=DVs.reads I hs rv
  exact ⟨as,.tuple ho hc hd (by simpa using ra)⟩
 |_,_,u,.lst (a:=a) h hs,r=>by
  cases (show u=Value.ref a from r)
  obtain ⟨its,rv,⟨o,n,ho,hc,_,hd⟩,_⟩:=I.list h
  obtain ⟨as,ra⟩:=DVs.reads I hs rv
  exact ⟨a::as,.list ho hc hd (by simpa using ra)⟩
theorem DVs.reads (I:Inv X pins σ H s):∀{vs:List V} {ds:List PyData} {us:List Value},DVs X.K H vs ds->Vals vs us->∃as,ReadsAll s.heap us ds as
 |_,_,_,.nil,.nil=>⟨[],.nil⟩
 |_,_,_,.cons h hs,.cons r rs=>by
  obtain ⟨as,ra⟩:=DV.reads I h r
  obtain ⟨bs,rb⟩:=DVs.reads I hs rs
  exact ⟨as++bs,.cons ra rb⟩
end
end
section
variable {X:Cx}
noncomputable def Zw (K:W.Frag):R2:=fun x y H Q=>∃d e,DV K H x d/\DV K H y e/\SeqAt.shaped d=true/\SeqAt.shaped e=true/\Q (.bl (PyData.eqv d e)) H
noncomputable def Zf (K:W.Frag):R2:=fun x y H Q=>∃d e,DV K H x d/\DV K H y e/\SeqAt.shaped d=true/\SeqAt.shaped e=true/\Q (.bl (!PyData.eqv d e)) H
theorem W0 (hu:X.A.units+64<cLine):OpR X (compareOp .Eq) (Zw X.K):=by
 intro pins s σ H x y v u Q I rx ry h
 obtain ⟨d,e,hd,he,sd,se,q⟩:=h
 obtain ⟨as,ra⟩:=hd.reads I rx
 obtain ⟨bs,rb⟩:=he.reads I ry
 exact eq_dataH ra rb sd se hu (cH I q rfl)
theorem Vo (hu:X.A.units+64<cLine):OpR X (compareOp .NotEq) (Zf X.K):=by
 intro pins s σ H x y v u Q I rx ry h
 obtain ⟨d,e,hd,he,sd,se,q⟩:=h
 obtain ⟨as,ra⟩:=hd.reads I rx
 obtain ⟨bs,rb⟩:=he.reads I ry
 exact ne_dataH ra rb sd se hu (cH I q rfl)
end
section
variable {X:Cx}
noncomputable def Xk:V->Option Value
 | .ty n=>some (.type n)
 | .ref a=>some (.ref a)
 |_=>none
theorem N5 {c:V}{cv u:Value}(e:Xk c=some cv)(r:RelV c u):u=cv:=by
 cases c with
 |ty n=>cases e; exact r
 |ref a=>cases e; exact r
 |_=>cases e
end
section
variable {X:Cx}{t u:TS}{pos:Pos}
end
open PySem PySem.Spec PyProof.Rows L2
structure Fly (P:Program)(w:World)(outer:List Env)(H:Hp)(s:Shared)(e:Value)(s':Shared)(ea t:Addr)(cls:Value)(B:Heap)(H':Hp):Prop where
 is:e=.ref ea
 os:s'.os=s.os
 bare:AllBare s'.gens
 fly:Heap.FlyingW B outer ea cls (.ref t) s'.heap
 keep:∀b o,s.heap.get? b=some o->H b=none->b∉frs outer->B.get? b=some o
 slot:∀b o,s.heap.get? b=some o->b∈frs outer->∃sl,s'.heap.get? b=some { o with slots:=sl }
 free:∀b o,s.heap.get? b=some o->H b=none->H' b=none
 there:∀b o,s.heap.get? b=some o->b∉frs outer->∃o',B.get? b=some o'
 tups:∀b xs,H b=some (.tup xs)->H' b=some (.tup xs)
 frzs:∀b o u,H b=some (.frz o u)->H' b=some (.frz o u)
 tbls:∀b ps,H b=some (.tbl ps)->∃more,H' b=some (.tbl (ps++more))
 hok:HOk P w H' B
 new:s.heap.get? ea=none
 nin:H' ea=none
noncomputable def CX1 (P:Program)(w:World):CXT:=fun outer H s E e s'=>∃ea t cls B H',Fly P w outer H s e s' ea t cls B H'/\E cls none H'
theorem Oh {env:Env}{l:List Env}{L b:Addr}(hf:env.frame=some L)(h:b∈frs (env::l)):b=L\/b∈frs l:=by
 unfold frs at h
 rw [List.filterMap_cons,hf] at h
 rcases List.mem_cons.mp h with z | z
 ·exact .inl z
 ·exact .inr z
theorem My {env:Env}{l:List Env}{b:Addr}(h:b∈frs l):b∈frs (env::l):=by
 unfold frs at h ⊢
 obtain ⟨e,he,hf⟩:=List.mem_filterMap.mp h
 exact List.mem_filterMap.mpr ⟨e,List.mem_cons_of_mem _ he,hf⟩
section
variable {P:Program}{w:World}{K:W.Frag}{mg:Str->Option Value}{base:Heap}{N:List Str}{qual:Str}{scope:Scope}{f:Addr}{cd:Value}{A:Around}{outer:List Env}{s:Shared}{H:Hp}{E:XK}
theorem aN:Passes (CX1 P w) (xW (CX1 P w) P w K mg base N qual scope f cd A outer s H E) E:=by
 intro pins σ H1 s1 e s' I h
 obtain ⟨ea,t,cls,B,H',F,hw⟩:=h
 obtain rfl:=F.is
 have nfr:∀b o,s.heap.get? b=some o->b∉frs outer->b∉frs (xW (CX1 P w) P w K mg base N qual scope f cd A outer s H E).stack:=fun b o q nb hb=>by
  rcases Oh (L:=s.heap.objs.size) rfl hb with z | z
  ·exact absurd (Heap.lt_size q) (by rw [z]; exact Nat.lt_irrefl _)
  ·exact nb z
 have nx:∀b:Addr,b∉(xW (CX1 P w) P w K mg base N qual scope f cd A outer s H E).ex:=fun b z=>absurd (show b∈([]:List Addr) from z) (by simp)
 refine wpAny_leaves_onW (base:=B) (outer:=outer) (L:=s.heap.objs.size) I.ok.frames rfl F.fly fun h2 x1 x2=>?_
 refine ⟨ea,t,cls,B,H',⟨rfl,F.os.trans I.os,F.bare,x1,fun b o q n nb=>?_,fun b o q hb=>?_,fun b o q n=>?_,fun b o q nb=>?_,fun b xs q=>F.tups b xs (I.base.tups b xs q),fun b o u q=>F.frzs b o u (I.base.frzs b o u q),fun b ps q=>?_,F.hok,?_,F.nin⟩,hw⟩
 ·exact F.keep b o (I.base.keep b o q n nb (nx b)) (I.base.free b o q n (nx b)) (nfr b o q nb)
 ·obtain ⟨sl,e1⟩:=I.base.slot b o q (I.ok.frf b hb) hb (nx b)
  obtain ⟨_,o',ho',hnf⟩:=I.ok.wX.mem hb
  have eo:o=o':=Option.some.inj (q.symm.trans ho')
  obtain ⟨sl1,e2⟩:=F.slot b _ e1 (My hb)
  obtain ⟨sl2,e3⟩:=x2 b _ e2 (fun v z=>hnf v (by rw [← eo]; exact z))
  exact ⟨sl2,e3⟩
 ·obtain ⟨o',e1⟩:=I.base.there b o q (nx b)
  exact F.free b o' e1 (I.base.free b o q n (nx b))
 ·obtain ⟨o',e1⟩:=I.base.there b o q (nx b)
  exact F.there b o' e1 (nfr b o q nb)
 ·obtain ⟨m1,e1⟩:=I.base.tbls b ps q
  obtain ⟨m2,e2⟩:=F.tbls b _ e1
  exact ⟨m1++m2,by rw [e2,Array.append_assoc]⟩
 ·cases q:s.heap.get? ea with
  |none=>rfl
  |some o=>
   obtain ⟨o',e1⟩:=I.base.there ea o q (nx ea)
   rw [F.new] at e1; cases e1
end
theorem Kc {P:Program}{w:World}{X:Cx}:Passes (CX1 P w) X E0:=fun _ _ _ _ _ _ _ ⟨_,_,_,_,_,_,z⟩=>z.elim
noncomputable def XM (ea:Addr)(cls:Value)(h:Heap):Prop:=∃o,h.get? ea=some o/\o.cls=cls/\∃vs,o.data=.fields vs
section
variable {X:Cx}{pins:List (Addr×Obj)}{σ:St}{H H':Hp}{s s':Shared}{e:Value}{ea t:Addr}{cls:Value}{B:Heap}
theorem Fly.inv (F:Fly X.prog X.w X.stack H s e s' ea t cls B H')(I:Inv X pins σ H s){h2:Heap}{tk:Nat}(k1:B.StaysIn h2)(k2:s'.heap.UpToSlots h2):Inv X pins σ H' { s' with heap:=h2,toks:=tk }:=by
 have nf:∀b∈frs X.stack,∀o,s.heap.get? b=some o->∀vs,o.data≠.fields vs:=fun b hb o q=>by
  obtain ⟨_,o',ho',hnf⟩:=I.stack.mem hb
  have eo:o=o':=Option.some.inj (q.symm.trans ho')
  rw [eo]; exact hnf
 refine I.call' (s':={ s' with heap:=h2,toks:=tk }) (ch:=[]) F.os ⟨fun b o q n hb _=>k1 b o (F.keep b o q n hb),fun b o q n hb _=>?_,fun b o q n _=>F.free b o q n,fun b o q _=>?_,F.tups,F.frzs,F.tbls⟩ (F.hok.kept k1) F.bare (fun b z=>nomatch z)
 ·obtain ⟨sl,e1⟩:=F.slot b o q hb
  obtain ⟨sl2,e2⟩:=k2 b _ e1 (nf b hb o q)
  exact ⟨sl2,e2⟩
 ·by_cases hb:b∈frs X.stack
  ·obtain ⟨sl,e1⟩:=F.slot b o q hb
   obtain ⟨sl2,e2⟩:=k2 b _ e1 (nf b hb o q)
   exact ⟨_,e2⟩
  ·obtain ⟨o',e1⟩:=F.there b o q hb
   exact ⟨o',k1 b o' e1⟩
end
open PySem PySem.Spec PyProof.Rows L2
section
variable {X:Cx}{pins:List (Addr×Obj)}{σ:St}{H H':Hp}{s s':Shared}{e:Value}{ea t:Addr}{cls:Value}{B:Heap}
end
section
variable {X:Cx}{k:Nat}{f:Addr}{fd:FuncData}{ps:List Str}{sp:Sp}{x:Str}{p pos pos':Pos}{e:Expr}{es:List Expr}{t:TA}
end
open PySem PySem.Spec PyProof.Rows L2
section
variable {X:Cx}{x:Str}{e₀:Expr}{np cpos pos:Pos}{te:TE}{C:Addr}{bmB:List Value}{B newId initId:String}
end
structure Fn (P:Program)(w:World)(K:W.Frag)(mg:Str->Option Value)(base:Heap)(k:Nat)(x:Str)(ps:List Str)(sp:Sp):Prop where
 ex:∃f fd,cT P w K mg base (CX1 P w) k f fd ps sp/\Binds K fd ps []/\W.keepIn K (.ref f)=true/\mg x=some (.ref f)
section
variable {X:Cx}{j k:Nat}{x:Str}{ps:List Str}{sp:Sp}{p pos:Pos}{e:Expr}{es:List Expr}{t:TA}
end
section
variable {P:Program}{w:World}{K:W.Frag}{mg:Str->Option Value}{base:Heap}
theorem JC {x qual:Str}{st:Stmt}{f:Addr}{fd:FuncData}{N ps:List Str}{k:Nat}{sp:Sp}(F:Fun K x qual st f fd)(S:aV N ps (aH st))(len:∀vs H Q E,sp vs H Q E->vs.length=ps.length)
  (hbody:∀(cdv:Value) (A:Around) (outer:List Env) (s:Shared) (H:Hp) (vs:List V) (Q:VK) (E:XK),ig k (A.deeper (envOfC qual (aH st) s.heap.objs.size f cdv))->sp vs H Q E->
   ∃t,PSs (xW (CX1 P w) P w K mg base N qual (aH st) f cdv A outer s H E) (iU st) t/\t { nx:=fun _ H'=>Q .non H',rt:=Q } (start N vs) H):cT P w K mg base (CX1 P w) (k+1) f fd ps sp:=by
 obtain ⟨oc,od,kV,doc,pm,an,cdv,ct,osl,rfl,lk,hcd⟩:=F.ex
 refine X6 lk hcd S len fun A outer s H vs Q E hr hsp=>?_
 obtain ⟨t,h,q⟩:=hbody cdv A outer s H vs Q E hr hsp
 exact ⟨t,h,q⟩
end
structure Df (K:W.Frag)(mg:Str->Option Value)(x:Str)(st:Stmt)(ps:List Str):Prop where
 ex:∃f fd,Fun K x x st f fd/\Binds K fd ps []/\mg x=some (.ref f)
theorem Df.fn {P:Program}{w:World}{K:W.Frag}{mg:Str->Option Value}{base:Heap}{x:Str}{st:Stmt}{ps:List Str}{k:Nat}{sp:Sp}(D:Df K mg x st ps)
  (h:∀f fd,Fun K x x st f fd->cT P w K mg base (CX1 P w) k f fd ps sp):Fn P w K mg base k x ps sp:=by
 obtain ⟨f,fd,F,b,m⟩:=D.ex
 exact ⟨f,fd,h f fd F,b,F.kp,m⟩
open PySem PySem.Spec PyProof.Rows L2
section
variable {prog:Program}{w:World}{A:Around}{E:Value->Shared->Prop}{h:Heap}{g:Array GenState}{d:Drawn}{t:Nat}{os:OsState}{a C:Addr}{o:Obj}{K:W.Frag}
end
section
variable {X:Cx}
end
end Hd
namespace L2
open PySem PySem.Spec PyProof.Rows
section
variable {κ:Type}[DecidableEq κ]
noncomputable def o7 (kvs:List (κ×V))(k:κ):Option V:=(kvs.find? fun kv=>decide (kv.1=k)).map (·.2)
noncomputable def putK (kvs:List (κ×V))(k:κ)(v:V):List (κ×V):=
 if (kvs.any fun kv=>decide (kv.1=k))=true then kvs.map (fun kv=>if kv.1=k then (kv.1,v) else kv) else kvs++[(k,v)]
theorem rm {p:κ×V}{r:List (κ×V)}{k:κ}(e:p.1=k):o7 (p::r) k=some p.2:=by simp [o7,List.find?_cons,e]
theorem qN {p:κ×V}{r:List (κ×V)}{k:κ}(e:¬p.1=k):o7 (p::r) k=o7 r k:=by simp [o7,List.find?_cons,e]
theorem yd (k:κ):∀kvs:List (κ×V),(kvs.any fun kv=>decide (kv.1=k))=(o7 kvs k).isSome
 |[]=>rfl
 |p::r=>by
  rw [List.any_cons]
  by_cases e:p.1=k
  ·simp only [rm e,decide_eq_true e,Bool.true_or,Option.isSome_some]
  ·rw [qN e,decide_eq_false e,Bool.false_or]; exact yd k r
theorem qP (kvs:List (κ×V))(k:κ)(v:V):(putK kvs k v).length<=kvs.length+1:=by
 unfold putK
 split
 ·rw [List.length_map]; omega
 ·rw [List.length_append,List.length_cons,List.length_nil]; omega
theorem Og {kvs:List (κ×V)}{k:κ}(v:V)(h:o7 kvs k=none):putK kvs k v=kvs++[(k,v)]:=by
 unfold putK
 rw [yd,h]
 exact if_neg (by decide)
theorem vM.vI {o:Option V}{u:Option Value}(r:vM o u):o.isSome=u.isSome:=by
 cases o with
 |none=>cases u with
  |none=>rfl
  |some _=>exact (show False from r).elim
 |some _=>cases u with
  |none=>exact (show False from r).elim
  |some _=>rfl
theorem vM.getD {o:Option V}{u:Option Value}{d:V}{d':Value}(r:vM o u)(rd:RelV d d'):RelV (o.getD d) (u.getD d'):=by
 cases o with
 |none=>cases u with
  |none=>exact rd
  |some _=>exact (show False from r).elim
 |some _=>cases u with
  |none=>exact (show False from r).elim
  |some _=>exact r
theorem KV.val {kvs:List (κ×V)}{vs:List (κ×Value)}(r:KV kvs vs)(k:κ):vM (o7 kvs k) (valueAt vs k):=by
 unfold KV at r
 induction r with
 |nil=>exact True.intro
 | @cons p q ps qs h t ih=>
  obtain ⟨h1,h2⟩:=h
  by_cases e:p.1=k
  ·have e':q.1=k:=h1.symm.trans e
   have b:valueAt (q::qs) k=some q.2:=by simp [valueAt,List.find?_cons,e']
   rw [rm e,b]; exact h2
  ·have e':¬q.1=k:=fun z=>e (h1.trans z)
   have b:valueAt (q::qs) k=valueAt qs k:=by simp [valueAt,List.find?_cons,e']
   rw [qN e,b]; exact ih
theorem KV.any {kvs:List (κ×V)}{vs:List (κ×Value)}(r:KV kvs vs)(k:κ):(kvs.any fun kv=>decide (kv.1=k))=vs.any fun kv=>decide (kv.1=k):=by
 unfold KV at r
 induction r with
 |nil=>rfl
 |cons h t ih=>rw [List.any_cons,List.any_cons,ih,h.1]
theorem KV.repl {kvs:List (κ×V)}{vs:List (κ×Value)}(r:KV kvs vs)(k:κ){y:V}{u:Value}(ry:RelV y u):
  KV (kvs.map fun kv=>if kv.1=k then (kv.1,y) else kv) (vs.map fun kv=>if kv.1=k then (kv.1,u) else kv):=by
 unfold KV at r ⊢
 induction r with
 |nil=>exact .nil
 | @cons p q ps qs h t ih=>
  rw [List.map_cons,List.map_cons]
  refine .cons ?_ ih
  obtain ⟨h1,h2⟩:=h
  by_cases e:p.1=k
  ·rw [if_pos e,if_pos (h1.symm.trans e)]; exact ⟨h1,ry⟩
  ·rw [if_neg e,if_neg (fun z=>e (h1.trans z))]; exact ⟨h1,h2⟩
theorem KV.put {kvs:List (κ×V)}{vs:List (κ×Value)}(r:KV kvs vs)(k:κ){y:V}{u:Value}(ry:RelV y u):KV (putK kvs k y) (stored vs k u):=by
 unfold putK stored
 rw [r.any k]
 by_cases e:(vs.any fun kv=>decide (kv.1=k))=true
 ·rw [if_pos e,if_pos e]; exact r.repl k ry
 ·rw [if_neg e,if_neg e]; exact Paired.snoc r ⟨rfl,ry⟩
theorem KV.keys {kvs:List (κ×V)}{vs:List (κ×Value)}(r:KV kvs vs):kvs.map (·.1)=vs.map (·.1):=by
 unfold KV at r
 induction r with
 |nil=>rfl
 |cons h t ih=>rw [List.map_cons,List.map_cons,ih,h.1]
theorem KV.length {kvs:List (κ×V)}{vs:List (κ×Value)}(r:KV kvs vs):kvs.length=vs.length:=Paired.length r
end
theorem Ep {P:Program}{w:World}{k:Key}{u:Value}(r:RelV (kV k) u):(ji P w).is k u=true:=by
 cases k with
 |inl i=>obtain ⟨t,e⟩:=(show ∃t,u=Value.int i t from r); subst e; exact Fg P w i t
 |inr x=>obtain ⟨t,e⟩:=(show ∃t,u=Value.str x t from r); subst e; exact Ej P w x t
noncomputable abbrev KT (T:Addr->List V->Prop)(H:Hp):List (List Kt×V)->List (List Kt×Addr×Value)->Prop:=Paired fun p q=>p.1=q.1/\TrT T H q.2.1 p.1/\RelV p.2 q.2.2
theorem KT.val {T:Addr->List V->Prop}{H:Hp}{kvs:List (List Kt×V)}{xs:List (List Kt×Addr×Value)}(r:KT T H kvs xs)(k:List Kt):vM (o7 kvs k) ((atKey xs k).map (·.2)):=by
 induction r with
 |nil=>exact True.intro
 | @cons p q ps qs h t ih=>
  obtain ⟨h1,_,h2⟩:=h
  by_cases e:p.1=k
  ·have e':q.1=k:=h1.symm.trans e
   have b:atKey (q::qs) k=some q.2:=by simp [atKey,List.find?_cons,e']
   rw [rm e,b]; exact h2
  ·have e':¬q.1=k:=fun z=>e (h1.trans z)
   have b:atKey (q::qs) k=atKey qs k:=by simp [atKey,List.find?_cons,e']
   rw [qN e,b]; exact ih
theorem KT.repl {T:Addr->List V->Prop}{H:Hp}{kvs:List (List Kt×V)}{xs:List (List Kt×Addr×Value)}(r:KT T H kvs xs)(k:List Kt){y:V}{u:Value}(ry:RelV y u):
  KT T H (kvs.map fun kv=>if kv.1=k then (kv.1,y) else kv) (xs.map (putAt k u)):=by
 induction r with
 |nil=>exact .nil
 | @cons p q ps qs h t ih=>
  rw [List.map_cons,List.map_cons]
  refine .cons ?_ ih
  obtain ⟨h1,h2,h3⟩:=h
  unfold putAt
  by_cases e:p.1=k
  ·rw [if_pos e,if_pos (h1.symm.trans e)]; exact ⟨h1,h2,ry⟩
  ·rw [if_neg e,if_neg (fun z=>e (h1.trans z))]; exact ⟨h1,h2,h3⟩
theorem KT.put {T:Addr->List V->Prop}{H:Hp}{kvs:List (List Kt×V)}{xs:List (List Kt×Addr×Value)}(r:KT T H kvs xs)(k:List Kt){b:Addr}{y:V}{u:Value}(hb:TrT T H b k)(ry:RelV y u):
  KT T H (putK kvs k y) (storedH xs k b u):=by
 have e:(kvs.any fun kv=>decide (kv.1=k))=(atKey xs k).isSome:=by
  rw [yd,(r.val k).vI,Option.isSome_map]
 unfold putK storedH
 rw [e]
 by_cases q:(atKey xs k).isSome=true
 ·rw [if_pos q,if_pos q]; exact r.repl k ry
 ·rw [if_neg q,if_neg q]; exact Paired.snoc r ⟨rfl,hb,ry⟩
theorem KT.keeps {T:Addr->List V->Prop}{H H':Hp}{kvs:List (List Kt×V)}{xs:List (List Kt×Addr×Value)}(r:KT T H kvs xs)(ht:∀b ys,H b=some (.tup ys)->H' b=some (.tup ys)):KT T H' kvs xs:=
 Paired.Wl r fun _ _ z=>⟨z.1,z.2.1.imp ht,z.2.2⟩
section
variable {P:Program}{w:World}{H:Hp}{h:Heap}{a:Addr}
theorem Ut {u:HO}(ok:HOk P w H h)(e:Rd H a u):dJ P w H h a u:=e.ok ok
theorem zY {kvs:List (Key×V)}(ok:HOk P w H h)(e:Rd H a (.dK kvs)):kvs.length<=sizeLine/\(a == sysModules)=false/\∃vs,KV kvs vs/\h.DictOf (ji P w) a vs:=
 show dJ P w H h a (.dK kvs) from Ut ok e
theorem Ui {kvs:List (Key×V)}(ok:HOk P w H h)(e:H a=some (.dK kvs)):kvs.length<=sizeLine/\(a == sysModules)=false/\∃vs,KV kvs vs/\h.DictOf (ji P w) a vs:=zY ok (.inl e)
theorem DQ {T:Addr->List V->Prop}{kvs:List (List Kt×V)}(hT:∀b ks,TrT T H b ks->(jN P w).is h ks b)(ok:HOk P w H h)(e:Rd H a (.dT T kvs)):kvs.length<=sizeLine/\(a == sysModules)=false/\
  ∃xs,KT T H kvs xs/\h.DictOfH (jN P w) a xs:=by
 obtain ⟨z,y,xs,r,o,es,ep,h1,h2,h3,h4,h5⟩:=(show dJ P w H h a (.dT T kvs) from Ut ok e)
 refine ⟨z,y,xs,r,o,es,ep,h1,h2,h3,h4,fun x hx=>?_,h5⟩
 have all:∀{l:List (List Kt×V)} {m:List (List Kt×Addr×Value)},KT T H l m->∀x∈m,(jN P w).is h x.1 x.2.1:=by
  intro l m q
  induction q with
  |nil=>intro x hx; exact nomatch hx
  | @cons p q ps qs hq t ih=>
   intro x hx
   rcases List.mem_cons.mp hx with e | hx
   ·subst e
    rw [← hq.1]
    exact hT _ _ hq.2.1
   ·exact ih x hx
 exact all r x hx
theorem Oo {T:Addr->List V->Prop}{kvs:List (List Kt×V)}(hT:∀b ks,TrT T H b ks->(jN P w).is h ks b)(ok:HOk P w H h)(e:H a=some (.dT T kvs)):kvs.length<=sizeLine/\(a == sysModules)=false/\
  ∃xs,KT T H kvs xs/\h.DictOfH (jN P w) a xs:=DQ hT ok (.inl e)
end
noncomputable def CV (K:W.Frag)(H:Hp)(a:Addr)(y:V)(r:Option V):Prop:=
 (∃kvs k,Rd H a (.dK kvs)/\y=kV k/\r=o7 kvs k)\/∃kvs k b,Rd H a (.dT (KTp K) kvs)/\y=.ref b/\TrT (KTp K) H b k/\r=o7 kvs k
noncomputable def Bu (K:W.Frag)(H:Hp)(a:Addr)(y v:V)(H':Hp):Prop:=
 (∃kvs k,H a=some (.dK kvs)/\y=kV k/\kvs.length<sizeLine/\H'=upd H a (.dK (putK kvs k v))) ∨
 ∃kvs k b,H a=some (.dT (KTp K) kvs)/\y=.ref b/\TrT (KTp K) H b k/\kvs.length<sizeLine/\H'=upd H a (.dT (KTp K) (putK kvs k v))
theorem CV.k {K:W.Frag}{H:Hp}{a:Addr}{kvs:List (Key×V)}{k:Key}(e:H a=some (.dK kvs)):CV K H a (kV k) (o7 kvs k):=.inl ⟨kvs,k,.inl e,rfl,rfl⟩
theorem Bu.k {K:W.Frag}{H:Hp}{a:Addr}{kvs:List (Key×V)}{k:Key}{v:V}(e:H a=some (.dK kvs))(hl:kvs.length<sizeLine):Bu K H a (kV k) v (upd H a (.dK (putK kvs k v))):=.inl ⟨kvs,k,e,rfl,hl,rfl⟩
theorem Bu.t {K:W.Frag}{H:Hp}{a b:Addr}{kvs:List (List Kt×V)}{k:List Kt}{v:V}(e:H a=some (.dT (KTp K) kvs))(eb:TrT (KTp K) H b k)(hl:kvs.length<sizeLine):
  Bu K H a (.ref b) v (upd H a (.dT (KTp K) (putK kvs k v))):=.inr ⟨kvs,k,b,e,rfl,eb,hl,rfl⟩
section
variable {X:Cx}{pins:List (Addr×Obj)}{σ:St}{H:Hp}{s:Shared}{a:Addr}{y v:V}{u r:Value}{o:Option V}{A:Around}{E:Value->Shared->Prop}
theorem Inv.big (I:Inv X pins σ H s):sysModules<s.heap.objs.size:=by
 have h:mainGlobals<s.heap.objs.size:=(I.mod.glob.keeps I.bk).lt
 exact Nat.lt_trans (by decide) h
mutual
theorem JX (I:Inv X pins σ H s):∀{n:Nat} {v:V} {k:Kt} {u:Value},wV (KTp X.K) H n v k->RelV v u->mJ s.heap n k u
 |n,_,_,u,.k (x:=x),r=>by rw [pC]; exact Ep (P:=X.prog) (w:=X.w) r
 |_,_,_,u,.t (b:=b) h hs,r=>by
  cases (show u=Value.ref b from r)
  obtain ⟨its,rv,⟨o,ho,hc,m,hd⟩,_⟩:=I.tuple (SqU.sq h)
  exact kJ.mpr ⟨b,o,its.toArray,m,rfl,ho,hc,hd,by simpa using Es I hs rv⟩
theorem Es (I:Inv X pins σ H s):∀{n:Nat} {vs:List V} {ks:List Kt} {us:List Value},qG (KTp X.K) H n vs ks->Vals vs us->Paired (mJ s.heap n) ks us
 |_,_,_,_,.nil,.nil=>.nil
 |_,_,_,_,.cons h hs,.cons r rs=>.cons (JX I h r) (Es I hs rs)
end
theorem vU {ks:List Kt}{b:Addr}(I:Inv X pins σ H s)(e:TrT (KTp X.K) H b ks):(jN X.prog X.w).is s.heap ks b:=by
 obtain ⟨vs,h,hs⟩:=e
 exact JX I (.t h hs) rfl
theorem yV (I:Inv X pins σ H s):∀b ks,TrT (KTp X.K) H b ks->(jN X.prog X.w).is s.heap ks b:=fun b ks e=>vU I e
theorem rP {A:Around}(hu:A.units+16<cLine):(jN X.prog X.w).room A.in1:=by
 show A.units+1+8<cLine
 omega
theorem Mj {Q:Value->Shared->Prop}(hu:A.units+16<cLine)(I:Inv X pins σ H s)(g:CV X.K H a y (some v))(ry:RelV y u)(h:∀w' s',Inv X pins σ H s'->RelV v w'->Q w' s'):
  wpAny (model X.prog X.w) A (getItem (.ref a) u) Q E s:=by
 rcases g with ⟨kvs,k,e,ey,l⟩ | ⟨kvs,k,b,e,ey,eb,l⟩
 ·subst ey
  obtain ⟨z,hd,vs,rel,dd⟩:=zY I.hok e
  obtain ⟨w',hw,rw'⟩:=vM.some_of (v:=v) (o:=valueAt vs k) (by rw [l]; exact rel.val k)
  exact wpAny_getItem_of (Ep ry) dd.mapOf hw (h w' _ (I.tok _) rw')
 ·subst ey
  cases (show u=Value.ref b from ry)
  obtain ⟨z,hd,xs,rel,dd⟩:=DQ (yV I) I.hok e
  obtain ⟨w',hw,rw'⟩:=vM.some_of (v:=v) (o:=(atKey xs k).map (·.2)) (by rw [l]; exact rel.val k)
  obtain ⟨p,hp,hp2⟩:=Option.map_eq_some_iff.mp hw
  refine wpAny_getItem_heap (rP hu) (vU I eb) dd hp ?_
  rw [hp2]
  exact h w' _ (I.tok _) rw'
theorem Ud {Q:Value->Shared->Prop}(hu:A.units+16<cLine)(I:Inv X pins σ H s)(g:CV X.K H a y o)(ry:RelV y u)(h:∀s',Inv X pins σ H s'->Q (.bool (!o.isSome)) s'):
  wpAny (model X.prog X.w) A (compareOp .NotIn u (.ref a)) Q E s:=by
 rcases g with ⟨kvs,k,e,ey,l⟩ | ⟨kvs,k,b,e,ey,eb,l⟩
 ·subst ey
  obtain ⟨z,hd,vs,rel,dd⟩:=zY I.hok e
  refine wpAny_notIn_of (Ep ry) hd dd.mapOf ?_
  rw [← (rel.val k).vI,← l]
  exact h _ (I.tok _)
 ·subst ey
  cases (show u=Value.ref b from ry)
  obtain ⟨z,hd,xs,rel,dd⟩:=DQ (yV I) I.hok e
  refine wpAny_notIn_heap (rP hu) (vU I eb) hd dd ?_
  have q:=(rel.val k).vI
  rw [Option.isSome_map] at q
  rw [← q,← l]
  exact h _ (I.tok _)
theorem uW {h':Heap}{t':Nat}{ob:HO}(I:Inv X pins σ H s)(mu:Mut (H a))(hs:Heap.SameBut a s.heap h')(he:∃q,h'.get? a=some q)(new:dJ X.prog X.w (upd H a ob) h' a ob):
  Inv X pins σ (upd H a ob) { s with heap:=h',toks:=t' }:=
 I.write (x:=a) (e:=a) mu (.inl rfl) (fun b q hb z=>(hs.2 b hb).trans z) he new
theorem Ng {P:Program}{w:World}{H':Hp}{h':Heap}{kvs:List (Key×V)}{vs:List (Key×Value)}(z:kvs.length<=sizeLine)(hd:(a == sysModules)=false)(rel:KV kvs vs)(dd:h'.DictOf (ji P w) a vs):
  dJ P w H' h' a (.dK kvs):=⟨z,hd,vs,rel,dd⟩
theorem Kw {H':Hp}{Q:Unit->Shared->Prop}(hu:A.units+16<cLine)(I:Inv X pins σ H s)(g:Bu X.K H a y v H')(ry:RelV y u)(rv:RelV v r)(h:∀s',Inv X pins σ H' s'->Q () s'):
  wpAny (model X.prog X.w) A (setItem (.ref a) u r) Q E s:=by
 rcases g with ⟨kvs,k,e,ey,l,eH⟩ | ⟨kvs,k,b,e,ey,eb,l,eH⟩
 ·subst ey eH
  obtain ⟨z,hd,vs,rel,dd⟩:=Ui I.hok e
  have hz:vs.length<=sizeLine:=by rw [← rel.length]; exact z
  have hl:(putK kvs k v).length<=sizeLine:=by have:=qP kvs k v; omega
  refine wpAny_setItem_pairs (hsz:=hz) (Ep ry) dd fun h' dd' hs=>h _ ?_
  have he:∃q,h'.get? a=some q:=let ⟨q,_,_,hq,_⟩:=dd'; ⟨q,hq⟩
  exact uW I (by rw [e]; exact True.intro) hs he (Ng hl hd (rel.put k rv) dd')
 ·subst ey eH
  cases (show u=Value.ref b from ry)
  obtain ⟨z,hd,xs,rel,dd⟩:=Oo (yV I) I.hok e
  have hz:xs.length<=sizeLine:=by rw [← Paired.length rel]; exact z
  have hl:(putK kvs k v).length<=sizeLine:=by have:=qP kvs k v; omega
  refine wpAny_setItem_heap (hsz:=hz) (rP hu) (vU I eb) dd fun h' dd' hs=>h _ ?_
  obtain ⟨q,es,ep,hq,h2,h3,h4,_,h5⟩:=dd'
  refine uW I (by rw [e]; exact True.intro) hs ⟨q,hq⟩ ⟨hl,hd,_,(rel.put k eb rv).keeps fun c ys ec=>?_,q,es,ep,hq,h2,h3,h4,h5⟩
  rw [cL (Qk ec e (fun z=>nomatch z))]
  exact ec
end
section
variable {X:Cx}{pins:List (Addr×Obj)}{σ:St}{H:Hp}{s:Shared}{a:Addr}{kvs:List (Key×V)}{k:Key}{u:Value}{A:Around}{E:Value->Shared->Prop}
theorem Xz {Q:Value->Shared->Prop}(I:Inv X pins σ H s)(e:Rd H a (.dK kvs))(h:∀t s',Inv X pins σ H s'->Q (.int kvs.length t) s'):wpAny (model X.prog X.w) A (call (.builtin "len") [.ref a]) Q E s:=by
 obtain ⟨z,hd,vs,rel,dd⟩:=zY I.hok e
 refine call_len_dict hd dd (by rw [← rel.length]; rw [sizeLine_eq] at z; omega) ?_
 rw [← rel.length]
 exact h _ _ (I.tok _)
end
noncomputable def RL (i:Expr):Prop:=∀ov iv,subscripted i false ov iv=operate [ov,iv] (getItem ov iv)
theorem Sd {prog:Program}{w:World}{A:Around}{E:Value->Shared->Prop}{s:Shared}{env:Env}{value slice:Expr}{pos:Pos}{T id:String}{Q:Value->Shared->Prop}
  (hl:typeLookup (.type T) "__getitem__" = pure (some (.builtin id))) (hs:RL slice)
  (h:wpAny (model prog w) A (eval value env) (fun o s₁=>wpAny (model prog w) A (eval slice env) (fun i s₂=>s₂.TypeIs o T/\wpAny (model prog w) A (getItem o i) Q E s₂) E s₁) E s):
  wpAny (model prog w) A (eval (.Subscript value slice pos) env) Q E s:=by
 refine Subscript_ (wpAny_mono h (fun o s₁ h₁=>wpAny_mono h₁ (fun i s₂ h₂=>?_) fun _ _ x=>x) fun _ _ x=>x)
 obtain ⟨hT,h₂⟩:=h₂
 unfold subscriptTail
 refine wpAny_bind ?_
 rw [getitemInPython_of_ne hT.not_modules]
 refine wpAny_bind (wpAny_specialOf hT hl ?_)
 have fin:wpAny (model prog w) A (subscripted slice false o i) (fun r s₃=>wpAny (model prog w) A (letTemporaryGo value o r >>= fun _=>pure r) Q E s₃) E s₂:=by
  rw [hs o i]
  exact wpAny_operating (wpAny_mono h₂ (fun r s₃ h₃=>wpAny_bind (wpAny_letTemporaryGo (wpAny_pure h₃))) fun _ _ x=>x)
 first
  |exact wpAny_pure (wpAny_bind fin)
  |exact wpAny_bind (wpAny_pure (wpAny_bind fin))
  |exact wpAny_bind fin
theorem Ez {X:Cx}{pins:List (Addr×Obj)}{σ:St}{H:Hp}{s:Shared}{a:Addr}{y:V}{o:Option V}(I:Inv X pins σ H s)(g:CV X.K H a y o):s.TypeIs (.ref a) "dict":=by
 rcases g with ⟨kvs,k,e,_,_⟩ | ⟨kvs,k,b,e,_,_,_⟩
 ·obtain ⟨_,_,vs,_,dd⟩:=zY I.hok e
  exact dd.typeIs
 ·obtain ⟨_,_,xs,_,dd⟩:=DQ (yV I) I.hok e
  exact dd.typeIs
noncomputable def XH (K:W.Frag)(td ty:TE):TE:=fun σ H Q=>td σ H fun x H1=>ty σ H1 fun y H2=>∃a v,x=.ref a/\CV K H2 a y (some v)/\Q v H2
noncomputable def X8 (K:W.Frag)(td ty tv:TE):TS:=fun D σ H=>tv σ H fun v H1=>td σ H1 fun x H2=>ty σ H2 fun y H3=>∃a H4,x=.ref a/\Bu K H3 a y v H4/\D.nx σ H4
section
variable {X:Cx}{o i e value:Expr}{pos pos' tpos:Pos}{td ty tv:TE}
theorem Jk (hu:X.A.units+16<cLine)(ho:PE X o td)(hi:PE X i ty)(hs:RL i):PE X (.Subscript o i pos) (XH X.K td ty):=by
 intro pins s σ H Q I h
 refine Sd PySem.F.slot_dict_getitem.lookup hs (thn (ho pins s σ H _ I h) fun u s1 ⟨x,H1,I1,rx,q1⟩=>thn (hi pins s1 σ H1 _ I1 q1) fun iv s2 ⟨y,H2,I2,ry,a,v,ex,g,q2⟩=>?_)
 subst ex
 obtain rfl:u=Value.ref a:=rx
 exact ⟨Ez I2 g,Mj hu I2 g ry fun w' s3 I3 rw'=>⟨v,H2,I3,rw',q2⟩⟩
theorem Bq (hu:X.A.units+16<cLine)(ho:PE X o td)(hi:PE X i ty)(hv:PE X value tv)(hs:swapsWith value (some (.Subscript o i pos')) pos.line X.env=pure false):
  PS X (.Assign [.Subscript o i pos'] value pos) (X8 X.K td ty tv):=by
 intro pins s σ H D I h
 refine wpAny_Assign_Subscript (thn (hv pins s σ H _ I h) fun r s1 ⟨v,H1,I1,rv,q1⟩=>thn (ho pins s1 σ H1 _ I1 q1) fun u s2 ⟨x,H2,I2,rx,q2⟩=>thn (hi pins s2 σ H2 _ I2 q2) fun iv s3 ⟨y,H3,I3,ry,a,H4,ex,g,q3⟩=>?_) hs
 subst ex
 obtain rfl:u=Value.ref a:=rx
 exact Kw hu I3 g ry rv fun s4 I4=>⟨σ,H4,I4,q3⟩
end
theorem Ml {P:Program}{w:World}{H:Hp}(h:Heap)(hb:sysModules<h.objs.size):dJ P w H (h.push { cls:=.type "dict",data:=.dict #[] }) h.objs.size (.dK []):=
 ⟨Nat.zero_le _,beq_eq_false_iff_ne.mpr (Ne.symm (Nat.ne_of_lt hb)),[],.nil,Heap.DictOf.new h⟩
theorem Fz {T:Addr->List V->Prop}{P:Program}{w:World}{H:Hp}(h:Heap)(hb:sysModules<h.objs.size):dJ P w H (h.push { cls:=.type "dict",data:=.dict #[] }) h.objs.size (.dT T []):=
 ⟨Nat.zero_le _,beq_eq_false_iff_ne.mpr (Ne.symm (Nat.ne_of_lt hb)),[],.nil,_,#[],0,Heap.get?_push_size _ rfl,⟨rfl,rfl,rfl⟩,rfl,rfl,List.nodup_nil⟩
noncomputable def Wm (K:W.Frag):TE:=fun _ H Q=>∀p,H p=none->Q (.ref p) (upd H p (.dT (KTp K) []))
section
variable {X:Cx}{pos:Pos}
theorem Od:PE X (.Dict [] [] pos) (Wm X.K):=fun pins s σ H Q I h=>
 wpAny_Dict_empty ⟨.ref s.heap.objs.size,_,I.laid (a:=s.heap.objs.size) (o:=.dT (KTp X.K) []) (t':=s.toks) (fun _ _ q=>Heap.get?_push_of_some _ q) (Nat.le_refl _) (Fz s.heap I.big),rfl,h _ (I.hok.fresh (Nat.le_refl _))⟩
end
noncomputable def xZ:List (TE×TE)->St->Hp->(List (V×V)->Hp->Prop)->Prop
 |[],_,H,Q=>Q [] H
 |(tk,tv)::r,σ,H,Q=>tk σ H fun x H1=>tv σ H1 fun y H2=>xZ r σ H2 fun ps H3=>Q ((x,y)::ps) H3
noncomputable abbrev VV:List (V×V)->List (Value×Value)->Prop:=Paired fun p q=>RelV p.1 q.1/\RelV p.2 q.2
noncomputable def PPs (X:Cx)(pos:Pos)(keys:List (Option Expr))(values:List Expr)(trs:List (TE×TE)):Prop:=
 ∀(pins:List (Addr×Obj)) (s:Shared) (σ:St) (H:Hp) (Q:List (V×V)->Hp->Prop),Inv X pins σ H s->xZ trs σ H Q->
  wpAny (model X.prog X.w) X.A (evalPairs (pairTrees keys values X.env pos)) (fun vs s'=>∃ps H',Inv X pins σ H' s'/\VV ps vs/\Q ps H') X.xe s
theorem SQ {X:Cx}{pos:Pos}:PPs X pos [] [] []:=fun pins s σ H Q I h=>pairTrees_nil_walk ⟨[],H,I,.nil,h⟩
theorem q9 {X:Cx}{pos:Pos}{k v:Expr}{ks:List (Option Expr)}{vs:List Expr}{tk tv:TE}{trs:List (TE×TE)}(hk:PE X k tk)(hv:PE X v tv)(hr:PPs X pos ks vs trs):
  PPs X pos (some k::ks) (v::vs) ((tk,tv)::trs):=fun pins s σ H Q I h=>
 pairTrees_cons_walk (thn (hk pins s σ H _ I h) fun u s1 ⟨x,H1,I1,rx,q1⟩=>thn (hv pins s1 σ H1 _ I1 q1) fun w2 s2 hE=>xq2 hE fun y H2 I2 ry q2=>
  thn (hr pins s2 σ H2 _ I2 q2) fun ws s3 ⟨ps,H3,I3,rel,q3⟩=>⟨(x,y)::ps,H3,I3,.cons ⟨rx,ry⟩ rel,q3⟩)
noncomputable def mW (kvs more:List (Key×V)):List (Key×V):=more.foldl (fun acc kv=>putK acc kv.1 kv.2) kvs
theorem KV.merge:∀{more:List (Key×V)} {rs:List (Key×Value)} {kvs:List (Key×V)} {vs:List (Key×Value)},KV more rs->KV kvs vs->KV (mW kvs more) (merged vs rs):=by
 intro more rs kvs vs r
 unfold KV at r
 induction r generalizing kvs vs with
 |nil=>intro q; exact q
 | @cons p q ps qs h t ih=>
  intro r0
  have e:KV (putK kvs p.1 p.2) (stored vs q.1 q.2):=by
   have:=r0.put p.1 h.2
   rw [← h.1]; exact this
  exact ih e
theorem sS:∀(more kvs:List (Key×V)),(mW kvs more).length<=kvs.length+more.length
 |[],kvs=>by show kvs.length<=kvs.length+0; omega
 |p::r,kvs=>by
  have h1:=sS r (putK kvs p.1 p.2)
  have h2:=qP kvs p.1 p.2
  show (mW (putK kvs p.1 p.2) r).length<=_
  rw [List.length_cons]; omega
theorem xV {P:Program}{w:World}:∀{kvs:List (Key×V)} {ws:List (Value×Value)},VV (kvs.map fun kv=>(kV kv.1,kv.2)) ws->∃rs,Carries (ji P w) ws rs/\KV kvs rs
 |[],_,r=>by rw [List.map_nil] at r; cases r; exact ⟨[],True.intro,.nil⟩
 |p::kvs,_,r=>by
  rw [List.map_cons] at r
  cases r with
  | @cons a b as bs h t=>
   obtain ⟨rs,c,q⟩:=xV (P:=P) (w:=w) t
   obtain ⟨b1,b2⟩:=b
   exact ⟨(p.1,b2)::rs,⟨Ep h.1,rfl,c⟩,.cons ⟨rfl,h.2⟩ q⟩
noncomputable def YD (trs:List (TE×TE)):TE:=fun σ H Q=>∀p,H p=none->xZ trs σ (upd H p (.dK [])) fun ps H2=>H2 p=some (.dK [])/\∃kvs:List (Key×V),ps=kvs.map (fun kv=>(kV kv.1,kv.2))/\kvs.length<=15/\Q (.ref p) (upd H2 p (.dK (mW [] kvs)))
theorem RJ {X:Cx}{pos:Pos}{keys:List (Option Expr)}{values:List Expr}{trs:List (TE×TE)}(h:PPs X pos keys values trs)(hall:keys.all (·.isSome)=true)(hl:keys.length=values.length)(h0:keys≠[])
  (h15:keys.length<=15):PE X (.Dict keys values pos) (YD trs):=by
 intro pins s σ H Q I q
 have hn:=I.hok.fresh (Nat.le_refl s.heap.objs.size)
 have I1:=I.laid (a:=s.heap.objs.size) (o:=.dK []) (h':=s.heap.push { cls:=.type "dict",data:=.dict #[] }) (t':=s.toks) (fun _ _ q=>Heap.get?_push_of_some _ q) (Nat.le_refl _) (Ml s.heap I.big)
 refine wpAny_Dict_walk (knd:=ji X.prog X.w) hall hl h0 h15 (thn (h pins _ σ _ _ I1 (q _ hn)) fun ws s2 ⟨ps,H2,I2,rel,e,kvs,ep,lk,q2⟩=>?_)
 subst ep
 obtain ⟨rs,c,rk⟩:=xV (P:=X.prog) (w:=X.w) rel
 obtain ⟨z,hd,vs0,r0,dd⟩:=Ui I2.hok e
 cases r0
 refine ⟨rs,c,dd,fun h' dd' hs=>⟨.ref s.heap.objs.size,_,?_,rfl,q2⟩⟩
 have hz:(mW [] kvs).length<=sizeLine:=by
  have h1:=sS kvs []
  rw [List.length_nil] at h1
  rw [sizeLine_eq]; omega
 have he:∃q,h'.get? s.heap.objs.size=some q:=let ⟨q,_,_,hq,_⟩:=dd'; ⟨q,hq⟩
 exact uW I2 (by rw [e]; exact True.intro) hs he (Ng hz hd (rk.merge .nil) dd')
structure M2 (X:Cx)(o:Expr)(m:Str)(apos:Pos)(e f:Expr)(cpos:Pos):Prop where
 base:attributeBase o m X.env (eval o X.env)=eval o X.env
 few:((backTo cpos (starEach [e,f] X.env)).all (fun x=>!x.1) && (backToKw cpos (keywordEach [] X.env)).all (fun x=>x.1.isSome)
  && decide (([e,f]:List Expr).length+([]:List Keyword).length+(if ([]:List Keyword).isEmpty then 0 else 1)<30))=true
 line:(apos.endLine == cpos.line)=true
 trees:backTo cpos (starEach [e,f] X.env)=[(false,eval e X.env),(false,eval f X.env)]
noncomputable def IsD (K:W.Frag)(H:Hp)(a:Addr):Prop:=(∃kvs,Rd H a (.dK kvs))\/∃kvs,Rd H a (.dT (KTp K) kvs)
theorem WY {X:Cx}{pins:List (Addr×Obj)}{σ:St}{H:Hp}{s:Shared}{a:Addr}(I:Inv X pins σ H s)(d:IsD X.K H a):
  s.TypeIs (.ref a) "dict"/\(∀b,Value.ref a=.ref b->∃ob,s.heap.get? b=some ob/\ob.dict=none)/\(a == sysModules)=false:=by
 rcases d with ⟨kvs,e⟩ | ⟨kvs,e⟩
 ·obtain ⟨_,hd,vs,_,dd⟩:=zY I.hok e
  refine ⟨dd.typeIs,fun b q=>?_,hd⟩
  cases q
  obtain ⟨ob,_,_,h1,h2,_⟩:=dd
  exact ⟨ob,h1,h2.2.1⟩
 ·obtain ⟨_,hd,xs,_,dd⟩:=DQ (yV I) I.hok e
  refine ⟨dd.typeIs,fun b q=>?_,hd⟩
  cases q
  obtain ⟨ob,_,_,h1,h2,_⟩:=dd
  exact ⟨ob,h1,h2.2.1⟩
section
variable {X:Cx}{pins:List (Addr×Obj)}{σ:St}{H:Hp}{s:Shared}{a:Addr}{y d:V}{u r:Value}{o:Option V}{A:Around}{E:Value->Shared->Prop}
end
section
variable {X:Cx}{o e f:Expr}{apos cpos:Pos}{td ty tx:TE}
end
section
variable {X:Cx}{pins:List (Addr×Obj)}{σ:St}{H:Hp}{s:Shared}{a:Addr}{kvs:List (Key×V)}{A:Around}{E:Value->Shared->Prop}
end
section
variable {X:Cx}{pins:List (Addr×Obj)}{σ:St}{H:Hp}{s:Shared}{a:Addr}{y:V}{u:Value}{A:Around}{E:Value->Shared->Prop}
end
open PySem PySem.Spec PyProof.Rows
section
variable {X:Cx}
theorem Le:jD X (.builtin "len") (fun xs H Q=>∃a kvs,xs=[V.ref a]/\H a=some (.dK kvs)/\Q (.int kvs.length) H):=by
 intro pins s σ H xs us Q I r h
 obtain ⟨a,kvs,rfl,ha,q⟩:=h
 obtain ⟨u,rfl,ru⟩:=vals1 r
 cases ru
 exact Xz I (.inl ha) fun t s' I'=>⟨.int kvs.length,H,I',⟨t,rfl⟩,q⟩
end
section
variable {κ:Type}[DecidableEq κ]
end
end L2
namespace Hd
open PySem PySem.Spec PyProof.Rows L2
theorem bJ {H:Hp}{p:Addr}(h:H p=none)(o:HO):aK H (upd H p o):=fun b u q=>by
 rw [cL (lF q h)]
 exact q
section
variable {X:Cx}{e:Expr}{es:List Expr}{pos:Pos}
theorem bx {T T':TE}(h:PE X e T)(k:∀σ H Q,T' σ H Q->T σ H Q):PE X e T':=fun pins s σ H Q I q=>h pins s σ H Q I (k σ H Q q)
noncomputable def clA (t:TA):TA:=fun σ H Q=>∃R,t σ H R/\∀xs H1,R xs H1->Q xs H1
theorem Um {t:TA}(h:PA X es t):PA X es (clA t):=fun pos pins s σ H Q I ⟨R,hR,k⟩=>thn (h pos pins s σ H R I hR) fun _ _ hE=>xq2 hE fun vs H1 I1 r q=>⟨vs,H1,I1,r,k _ _ q⟩
noncomputable def Yp (t:TA):TE:=fun σ H Q=>t σ H fun xs H1=>xs.length<=sizeLine/\∀p H',aK H1 H'->H' p=some (.tup xs)->Q (.ref p) H'
theorem J6 {x1}{t:TA}(h:PA X es t):PE X (.Tuple es x1 pos) (Yp t):=
 bx (W6 (Um h)) fun _ _ _ q=>⟨_,q,fun _ _ ⟨z,k⟩=>⟨z,fun p hp=>k p _ (bJ hp _) aZ⟩⟩
end
open PySem PySem.Spec PyProof.Rows L2
noncomputable abbrev cO (X:Cx)(N':List Str)(scope:Scope)(cl:List (Str×Addr))(C:Addr)(sE:Shared)(HE:Hp)(fp:List Addr)(pins:List (Addr×Obj)):Cx:=
 { X with N:=N',s₀:=sE,H₀:=HE,env:=compEnvC scope cl C X.env,outer:=X.stack,ex:=fp,fn:=fun _=>false,pn:=X.pn++pins,xe:=fun _ _=>False }
structure CSc (sc scope:Scope)(caps:List Str):Prop where
 kind:scope.kind=.function
 nocell:∀y∈scope.names,y.2≠.cell
 loc:∀y∈scope.names,y.2=.local->scope.names.lookup y.1=some .local
 free:∀y∈scope.names,y.2=.free->sc.names.lookup y.1=some .cell\/sc.names.lookup y.1=some .free
 caps:∀x∈caps,scope.names.lookup x=some .free/\(sc.names.lookup x=some .cell\/sc.names.lookup x=some .free)
theorem mem_of_lookup {β:Type}:∀{l:List (Str×β)} {x:Str} {k:β},l.lookup x=some k->(x,k)∈l
 |[],_,_,h=>by simp at h
 |(n,k')::r,x,k,h=>by
  rw [List.lookup_cons] at h
  split at h
  ·rename_i e
   have e':x=n:=by simpa using e
   cases h
   rw [e']
   exact List.mem_cons_self
  ·exact List.mem_cons_of_mem _ (mem_of_lookup h)
theorem uV {env:Env}:∀{names:List (Str×NameKind)} {x:Str},names.lookup x=some .free->
  (names.map fun (n,k)=>if (k == NameKind.free && env.scope.kind == .function && env.kindOf n == some .cell) then (n,NameKind.cell) else (n,k)).lookup x=some .cell ∨
  (names.map fun (n,k)=>if (k == NameKind.free && env.scope.kind == .function && env.kindOf n == some .cell) then (n,NameKind.cell) else (n,k)).lookup x=some .free
 |[],_,h=>by simp at h
 |(n,k)::r,x,h=>by
  have ih:=@uV env r x
  show List.lookup x ((if (k == NameKind.free && env.scope.kind == .function && env.kindOf n == some .cell)=true then (n,NameKind.cell) else (n,k))::_)=_\/List.lookup x ((if (k == NameKind.free && env.scope.kind == .function && env.kindOf n == some .cell)=true then (n,NameKind.cell) else (n,k))::_)=_
  cases hx:x == n with
  |true=>
   simp only [List.lookup_cons,hx] at h
   cases h
   by_cases hc:(NameKind.free == NameKind.free && env.scope.kind == .function && env.kindOf n == some .cell)=true
   ·rw [if_pos hc]; simp only [List.lookup_cons,hx]; exact .inl trivial
   ·rw [if_neg hc]; simp only [List.lookup_cons,hx]; exact .inr trivial
  |false=>
   simp only [List.lookup_cons,hx] at h
   by_cases hc:(k == NameKind.free && env.scope.kind == .function && env.kindOf n == some .cell)=true
   ·rw [if_pos hc]; simp only [List.lookup_cons,hx]; exact ih h
   ·rw [if_neg hc]; simp only [List.lookup_cons,hx]; exact ih h
theorem yZ {env:Env}:∀{names:List (Str×NameKind)} {x:Str},(∀y∈names,y.2≠.cell)->
  ((names.map fun (n,k)=>if (k == NameKind.free && env.scope.kind == .function && env.kindOf n == some .cell) then (n,NameKind.cell) else (n,k)).lookup x=some .cell ∨
  (names.map fun (n,k)=>if (k == NameKind.free && env.scope.kind == .function && env.kindOf n == some .cell) then (n,NameKind.cell) else (n,k)).lookup x=some .free)->names.lookup x=some .free
 |[],_,_,h=>by simp at h
 |(n,k)::r,x,hn,h=>by
  have ih:=@yZ env r x (fun y hy=>hn y (List.mem_cons_of_mem _ hy))
  have h':List.lookup x ((if (k == NameKind.free && env.scope.kind == .function && env.kindOf n == some .cell)=true then (n,NameKind.cell) else (n,k))::_)=some .cell\/List.lookup x ((if (k == NameKind.free && env.scope.kind == .function && env.kindOf n == some .cell)=true then (n,NameKind.cell) else (n,k))::_)=some .free:=h
  have hk:k≠.cell:=hn (n,k) List.mem_cons_self
  by_cases hc:(k == NameKind.free && env.scope.kind == .function && env.kindOf n == some .cell)=true
  ·rw [if_pos hc] at h'
   have kf:k=.free:=by
    simp only [Bool.and_eq_true,beq_iff_eq] at hc
    exact hc.1.1
   subst kf
   cases hx:x == n with
   |true=>simp only [List.lookup_cons,hx]
   |false=>
    simp only [List.lookup_cons,hx] at h' ⊢
    exact ih h'
  ·rw [if_neg hc] at h'
   cases hx:x == n with
   |true=>
    simp only [List.lookup_cons,hx] at h' ⊢
    rcases h' with z | z
    ·exact absurd (Option.some.inj z) hk
    ·exact z
   |false=>
    simp only [List.lookup_cons,hx] at h' ⊢
    exact ih h'
theorem tY {env:Env}:∀(names:List (Str×NameKind)) (acc:List (Str×Addr)),(∀y∈names,y.2=.free->∃c,env.cells.lookup y.1=some c)->
  ∃cl,(forIn names acc fun (y:Str×NameKind) (cs:List (Str×Addr))=>(if y.2 == .free then do let c ← cellOf env y.1; pure (ForInStep.yield ((y.1,c)::cs)) else pure (ForInStep.yield cs):Sem (ForInStep (List (Str×Addr)))))=pure cl/\
   (∀x c,cl.lookup x=some c->acc.lookup x=some c\/env.cells.lookup x=some c)/\(∀x c,acc.lookup x=some c->∃c',cl.lookup x=some c')/\∀y∈names,y.2=.free->∃c,cl.lookup y.1=some c
 |[],acc,_=>⟨acc,rfl,fun _ _ e=>.inl e,fun _ c e=>⟨c,e⟩,fun _ z=>nomatch z⟩
 |(n,k)::r,acc,h=>by
  have hr:∀y∈r,y.2=.free->∃c,env.cells.lookup y.1=some c:=fun y hy=>h y (List.mem_cons_of_mem _ hy)
  by_cases hk:(k == NameKind.free)=true
  ·obtain ⟨c,hc⟩:=h (n,k) List.mem_cons_self (by simpa using hk)
   obtain ⟨cl,e,h1,h2,h3⟩:=tY r ((n,c)::acc) hr
   refine ⟨cl,?_,fun x d q=>?_,fun x d q=>?_,fun y hy q=>?_⟩
   ·have ec:cellOf env n=pure c:=by unfold cellOf; rw [show env.cells.lookup n=some c from hc]
    rw [List.forIn_cons]
    simp only [hk,if_true,ec,pure_bind]
    exact e
   ·rcases h1 x d q with z | z
    ·rw [List.lookup_cons] at z
     split at z
     ·rename_i e1
      have e1':x=n:=by simpa using e1
      cases z
      rw [e1']
      exact .inr hc
     ·exact .inl z
    ·exact .inr z
   ·by_cases e1:(x == n)=true
    ·exact h2 x c (by rw [List.lookup_cons,e1])
    ·exact h2 x d (by rw [List.lookup_cons]; simp only [Bool.not_eq_true] at e1; rw [e1]; exact q)
   ·rcases List.mem_cons.mp hy with z | z
    ·subst z
     exact h2 n c (by rw [List.lookup_cons]; simp)
    ·exact h3 y z q
  ·obtain ⟨cl,e,h1,h2,h3⟩:=tY r acc hr
   refine ⟨cl,?_,h1,h2,fun y hy q=>?_⟩
   ·rw [List.forIn_cons]
    simp only [hk,if_false,pure_bind,Bool.false_eq_true]
    exact e
   ·rcases List.mem_cons.mp hy with z | z
    ·subst z
     exact absurd (show (k == NameKind.free)=true by simpa using q) hk
    ·exact h3 y z q
theorem wJ {scope:Scope}{env:Env}(h:∀y∈scope.names,y.2=.free->∃c,env.cells.lookup y.1=some c):
  ∃cl,closureFor scope env=pure cl/\(∀x c,cl.lookup x=some c->env.cells.lookup x=some c)/\∀y∈scope.names,y.2=.free->∃c,cl.lookup y.1=some c:=by
 obtain ⟨cl,e,h1,_,h3⟩:=tY scope.names [] h
 refine ⟨cl,?_,fun x c q=>(h1 x c q).elim (fun z=>by simp at z) id,h3⟩
 unfold closureFor
 simp only [bind_pure]
 refine Eq.trans ?_ e
 rfl
section
variable {X:Cx}{pins:List (Addr×Obj)}{σ:St}{HE:Hp}{sE:Shared}{N':List Str}{scope sc:Scope}{cl:List (Str×Addr)}{fp:List Addr}{caps:List Str}
theorem R0 (I:Inv X pins σ HE sE)(S:CSc sc scope caps)(hfp:∀b∈fp,wg X pins HE b/\b<sE.heap.objs.size)
  (hc1:∀x c,cl.lookup x=some c->X.env.cells.lookup x=some c) (hc2:∀y∈scope.names,y.2=.free->∃c,cl.lookup y.1=some c):
  (cO X N' scope cl sE.heap.objs.size sE HE fp pins).Ok where
 mod:=I.ok.mod
 kind:=S.kind
 glob:=I.ok.glob
 blt:=I.ok.blt
 above:=Nat.le_refl _
 inj:=fun x y c h1 h2=>I.ok.inj x y c (hc1 x c h1) (hc1 y c h2)
 has:=fun x h=>hc2 (x,.free) (mem_of_lookup (yZ S.nocell h)) rfl
 cab:=fun x c h=>nomatch h
 hd:=I.ok.hd
 frames:=I.ok.frames
 stk:=.inl rfl
 exf:=fun b hb=>⟨Nat.ne_of_lt (hfp b hb).2,fun x c h=>(hfp b hb).1.2.2.2.2.1 x c (hc1 x c h)⟩
 bs:=I.bs
 bsz:=Nat.le_trans I.ok.bsz I.sz
 noex:=fun b o e hb=>by
  rcases (hfp b hb).1.2.2.2.1 with z | z
  ·exact I.ok.noex b o e z
  ·exact absurd (Nat.lt_of_lt_of_le (Heap.lt_size e) (Nat.le_trans I.ok.bsz z)) (Nat.lt_irrefl _)
 exfs:=fun b hb hz=>by
  rcases List.mem_cons.mp (I.Dk b hz) with z | z
  ·exact (hfp b hb).1.2.1 z
  ·exact (hfp b hb).1.2.2.1 z
 wX:=I.stack
 frf:=I.Jf
theorem M4 {k:Nat}{cap:List Nat}{h':Heap}(I:Inv X pins σ HE sE)(S:CSc sc scope caps)(hsc:X.env.scope=sc)(hfp:∀b∈fp,wg X pins HE b/\b<sE.heap.objs.size)
  (hc1:∀x c,cl.lookup x=some c->X.env.cells.lookup x=some c) (hc2:∀y∈scope.names,y.2=.free->∃c,cl.lookup y.1=some c)
  (hN:N'.drop k=caps) (hk:k<=N'.length) (hcap:Paired (fun j x=>X.N[j]? = some x) cap caps) {m:Str->Option Value}
  (kp:∀b o,sE.heap.get? b=some o->h'.get? b=some o) (hns:h'.Ns sE.heap.objs.size m) (tk:Nat):
  Inv (cO X N' scope cl sE.heap.objs.size sE HE fp pins) [] (List.replicate k none++cap.map fun j=>(σ[j]?).join) HE { sE with heap:=h',toks:=tk } where
 ok:=R0 I S hfp hc1 hc2
 os:=rfl
 bare:=I.bare
 base:=Un.kept kp
 loc:=by
  refine ⟨m,hns,fun i x v e1 e2 e3=>?_⟩
  have hik:k<=i:=by
   by_cases z:k<=i
   ·exact z
   ·rw [List.getElem?_append_left (by simp; omega),List.getElem?_replicate] at e2
    rw [if_pos (by omega)] at e2
    cases e2
  obtain ⟨j',rfl⟩:∃j',i=k+j':=⟨i - k,by omega⟩
  rw [List.getElem?_append_right (by simp),List.length_replicate,Nat.add_sub_cancel_left,List.getElem?_map] at e2
  have hx:caps[j']? = some x:=by rw [← hN,List.getElem?_drop]; exact e1
  have:∀{l:List Nat} {l':List Str} {i:Nat},Paired (fun j x=>X.N[j]? = some x) l l'->l'[i]? = some x->∃j,l[i]? = some j/\X.N[j]? = some x:=by
   intro l l' i p
   induction p generalizing i with
   |nil=>intro z; simp at z
   |cons a _ ih=>
    intro z
    cases i with
    |zero=>simp at z; subst z; exact ⟨_,rfl,a⟩
    |succ i=>exact ih (by simpa using z)
  obtain ⟨j,hj,hNj⟩:=this hcap hx
  rw [hj] at e2
  have e2':σ[j]? = some (some v):=by
   cases q:σ[j]? with
   |none=>rw [Option.map_some,q] at e2; cases e2
   |some o=>
    rw [Option.map_some,q] at e2
    have:o=some v:=Option.some.inj e2
    rw [this]
  obtain ⟨hxf,hxo⟩:=S.caps x (List.mem_of_getElem? hx)
  rw [← hsc] at hxo
  obtain ⟨m0,_,hl⟩:=I.loc
  obtain ⟨u,r,L⟩:=hl j x v hNj e2' (hxo.elim (fun z=>.inr (.inl z)) fun z=>.inr (.inr z))
  refine ⟨u,r,.inr ⟨uV hxf,?_⟩⟩
  rcases L with ⟨z,_⟩ | ⟨_,c,hc,hcell⟩
  ·have z':X.env.scope.names.lookup x=some .local:=z
   rcases hxo with q | q <;> rw [z'] at q <;> cases q
  ·obtain ⟨c',hc'⟩:=hc2 (x,.free) (mem_of_lookup hxf) rfl
   have e:=hc1 x c' hc'
   rw [hc] at e
   cases e
   obtain ⟨o,ho,hd⟩:=hcell
   exact ⟨c,hc',o,kp c o ho,hd⟩
 cell:=fun x c e=>by
  obtain ⟨v,o,ho,hd⟩:=I.cell x c (hc1 x c e)
  exact ⟨v,o,kp c o ho,hd⟩
 free:=I.hok.fresh (Nat.le_refl _)
 freeC:=fun x c e=>I.freeC x c (hc1 x c e)
 pin:=fun p hp=>by
  rw [List.append_nil] at hp
  obtain ⟨e,n,ne,nf,d⟩:=I.pin p hp
  refine ⟨kp _ _ e,n,Nat.ne_of_lt (Heap.lt_size e),fun z=>?_,d⟩
  rcases List.mem_cons.mp (I.Dk p.1 z) with q | q
  ·exact ne q
  ·exact nf q
 hok:=I.hok.kept kp
 len:=by
  show (List.replicate k none++cap.map fun j=>(σ[j]?).join).length=N'.length
  have:=hcap.length
  rw [← hN,List.length_drop] at this
  simp
  omega
theorem comp_back {σ':St}{H':Hp}{s':Shared}{p':List (Addr×Obj)}(I:Inv X pins σ HE sE)(hfp:∀b∈fp,wg X pins HE b/\b<sE.heap.objs.size)
  (I':Inv (cO X N' scope cl sE.heap.objs.size sE HE fp pins) p' σ' H' s'):Inv X pins σ H' s':=
 I.call' (ch:=fp) I'.os I'.base I'.hok I'.bare fun b hb=>⟨(hfp b hb).1.2.2.2.1,(hfp b hb).1.2.1,(hfp b hb).1.2.2.2.2.1,(hfp b hb).1.2.2.2.2.2⟩
end
theorem DR {X:Cx}{pins:List (Addr×Obj)}{σ σ':St}{HE H':Hp}{sE s':Shared}{h':Heap}(I:Inv X pins σ HE sE)(I':Inv X pins σ' H' s')(hn:H' sE.heap.objs.size=none)
  (hs:Heap.SameBut sE.heap.objs.size s'.heap h'):Inv X pins σ' H' { s' with heap:=h' }:=by
 refine I'.turned (t':=s'.toks) (fun b o hb e=>(hs.2 b hb).trans e) hn (Nat.ne_of_gt I.lt) (.inr I.sz) (fun x c e z=>?_) (fun p hp z=>?_)
 ·obtain ⟨v,q⟩:=I.cell x c e
  exact absurd q.lt (by rw [z]; exact Nat.lt_irrefl _)
 ·exact absurd (Heap.lt_size (I.pin p hp).1) (by rw [z]; exact Nat.lt_irrefl _)
noncomputable def Lk (X:Cx)(ifs:List Expr)(t:TT):Prop:=
 ∀(pins:List (Addr×Obj)) (s:Shared) (σ:St) (H:Hp) (Q:Bool->Hp->Prop),Inv X pins σ H s->t σ H Q->
  wpAny (model X.prog X.w) X.A (forIn ifs true fun c r=>if r=true then do let ok ← isTrue c X.env (eval c X.env); pure (ForInStep.yield ok) else pure (ForInStep.yield r)) (TP X pins σ Q) X.xe s
noncomputable def Zv:TT:=fun _ H Q=>Q true H
theorem Sh {X:Cx}:Lk X [] Zv:=fun _ _ _ H _ I q=>wpAny_tests_nil ⟨H,I,q⟩
theorem Rb {X:Cx}{c:Expr}{t:TT}(h:PT X c t):Lk X [c] t:=fun pins s σ H Q I q=>wpAny_tests_one (h pins s σ H Q I q)
noncomputable def cSt (k:Nat)(cap:List Nat)(σ:St):St:=List.replicate k none++cap.map fun j=>(σ[j]?).join
noncomputable def Yi (J:It)(k:Nat)(cap:List Nat)(g:TG)(tt:TT)(te:TE)(σ:St)(H1:Hp)(l:Addr)(Q:VK):Prop:=
 ∃W:Nat->Nat->List V->Hp->Prop,(∃m,W 0 m [] (upd H1 l (.lst [])))/\∀i m ys H,W i m ys H->
  (J.stop i H/\Q (.ref l) H)\/(J.go i H/\∀x H',J.yld i H x H'->g x (cSt k cap σ) H' fun σ2 H3=>σ2.drop k=(cSt k cap σ).drop k/\tt σ2 H3 fun b H4=>
   if b=true then te σ2 H4 fun y H5=>H5 l=some (.lst ys)/\ys.length<sizeLine/\∃m',m'<m/\W (i+1) m' (ys++[y]) (upd H5 l (.lst (ys++[y])))
   else ∃m',m'<m/\W (i+1) m' ys H4)
noncomputable def JS (k:Nat)(cap:List Nat)(wi:TI)(g:TG)(tt:TT)(te:TE):TE:=fun σ H Q=>wi σ H fun J H1=>∀l,H1 l=none->Yi J k cap g tt te σ H1 l Q
section
variable {X:Cx}{tg iter elt:Expr}{ifs:List Expr}{sc scope:Scope}{caps N':List Str}{cap:List Nat}{k:Nat}{wi:TI}{g:TG}{tt:TT}{te:TE}{pos:Pos}
theorem Ey {pins:List (Addr×Obj)}{s:Shared}{σ:St}{H:Hp}{Q:VK}(hcalm:X.calm=true)(S:CSc sc scope caps)(hsc:X.env.scope=sc)(hN:N'.drop k=caps)(hk:k<=N'.length)(hcap:Paired (fun j x=>X.N[j]? = some x) cap caps)
  (hi:PI X tg iter wi) (hg:∀cl C sE HE fp pins,PG (cO X N' scope cl C sE HE fp pins) tg g) (ht:∀cl C sE HE fp pins,Lk (cO X N' scope cl C sE HE fp pins) ifs tt) (he:∀cl C sE HE fp pins,PE (cO X N' scope cl C sE HE fp pins) elt te)
  (I:Inv X pins σ H s) (h:JS k cap wi g tt te σ H Q) {cl:List (Str×Addr)} (hc1:∀x c,cl.lookup x=some c->X.env.cells.lookup x=some c) (hc2:∀y∈scope.names,y.2=.free->∃c,cl.lookup y.1=some c)
  {RR:Value->Addr->Result->Shared->Prop}
  (hRR:∀l sE HE H' s' m,Inv X pins σ HE sE->Inv X pins σ H' s'->H' sE.heap.objs.size=none->s'.heap.Ns sE.heap.objs.size m->Q (.ref l) H'->RR (.ref l) sE.heap.objs.size (.ok .next) s'):
  wpAny (model X.prog X.w) X.A (eval iter X.env) (fun xv s₁=>wpAny (model X.prog X.w) X.A (pyIter xv) (fun it s₂=>wpAny (model X.prog X.w) X.A (newList []) (fun acc s₃=>
   wpAny (model X.prog X.w) X.A (newFunctionEnv scope X.env.globals cl [] X.env.qual none .none (some X.env)) (fun cenv s₄=>
    codeAny (model X.prog X.w) X.A (.compStart (.ListComp elt [⟨tg,iter,ifs,0⟩] scope pos) 0 it acc { cenv with scope:=relabel scope X.env }) (RR acc cenv.locals) s₄) X.xe s₃) X.xe s₂) X.xe s₁) X.xe s:=by
 refine thn (hi pins s σ H _ I h) fun v s1 h1=>thn h1 fun itv s2 h2=>?_
 obtain ⟨it,fp,tn,J,H1,e,I1,T,st1,f1,q1⟩:=h2
 subst e
 refine wpAny_newList ?_
 have hfree:H1 s2.heap.objs.size=none:=I1.hok.fresh (Nat.le_refl _)
 have fpl:∀b∈fp,b<s2.heap.objs.size:=fun b hb=>by
  obtain ⟨o,e,_⟩:=T.obj _ _ st1 b hb
  exact Heap.lt_size e
 generalize hE:({ s2 with heap:=s2.heap.push { cls:=.type "list",data:=.seq ([]:List Value).toArray } }:Shared)=sE
 have k2:∀b o,s2.heap.get? b=some o->sE.heap.get? b=some o:=fun b o e=>by rw [← hE]; exact Heap.get?_push_of_some _ e
 have szE:s2.heap.objs.size<sE.heap.objs.size:=by rw [← hE]; show _<(s2.heap.push _).objs.size; rw [Heap.size_push]; exact Nat.lt_succ_self _
 have IE:Inv X pins σ (upd H1 s2.heap.objs.size (.lst [])) sE:=by
  rw [← hE]
  refine I1.laid (t':=s2.toks) (fun b o e=>Heap.get?_push_of_some _ e) (Nat.le_refl _) ?_
  exact ⟨Nat.zero_le _,[],0,.nil,Heap.get?_push_size _ rfl⟩
 have fE:∀b∈fp,wg X pins (upd H1 s2.heap.objs.size (.lst [])) b/\b<sE.heap.objs.size:=fun b hb=>
  ⟨⟨by rw [cL (Nat.ne_of_lt (fpl b hb))]; exact (f1 b hb).1,(f1 b hb).2⟩,Nat.lt_trans (fpl b hb) szE⟩
 obtain ⟨W,⟨m0,w0⟩,turn⟩:=q1 _ hfree
 generalize hl:s2.heap.objs.size=l at *
 clear hl
 generalize hHE:upd H1 l (.lst [])=HE at *
 refine wpAny_newFunctionEnv S.nocell (by intro y hy; simp at hy) (fun h₁ hns₁ hsb₁=>?_) S.kind
 have kE:∀b o,sE.heap.get? b=some o->h₁.get? b=some o:=fun b o e=>(hsb₁.2 b (Nat.ne_of_lt (Heap.lt_size e))).trans (Heap.get?_push_of_some _ e)
 have I0:=M4 (k:=k) (cap:=cap) (N':=N') IE S hsc fE hc1 hc2 hN hk hcap kE hns₁ (sE.toks+([]:List (Str×Value)).length)
 have st0:tn 0 h₁:=T.keep _ _ _ st1 fun b hb o e=>kE b o (k2 b o e)
 have hX:∀{H':Hp},(∀b∈fp,H' b=none)->∀b∈fp,wg (cO X N' scope cl sE.heap.objs.size sE HE fp pins) [] H' b:=fun hn b hb=>
  ⟨hn b hb,(I0.ok.exf b hb).1,I0.ok.exfs b hb,.inl hb,(I0.ok.exf b hb).2,fun p hp=>by
   rw [List.append_nil] at hp
   exact (fE b hb).1.2.2.2.2.2 p hp⟩
 have loop:∀s₃:Shared,s₃={ sE with heap:=h₁,toks:=sE.toks+([]:List (Str×Value)).length }->
   codeAny (model X.prog X.w) X.A (.compLoop (.ListComp elt [⟨tg,iter,ifs,0⟩] scope pos) 0 (.ref it) (.ref l) (compEnvC scope cl sE.heap.objs.size X.env)) (RR (.ref l) sE.heap.objs.size) s₃:=by
  rintro s₃ rfl
  refine codeAny_loop rfl (fun n s'=>∃i ys H',Inv (cO X N' scope cl sE.heap.objs.size sE HE fp pins) [] (cSt k cap σ) H' s'/\tn i s'.heap/\(∀b∈fp,H' b=none)/\W i n ys H') (fun n s3 hI=>?_) m0
   ⟨0,[],HE,I0,st0,fun b hb=>(fE b hb).1.1,w0⟩
  obtain ⟨i,ys,H3,I3,st3,fr3,w3⟩:=hI
  show wpAny _ X.A ((compTurn (.ListComp elt [⟨tg,iter,ifs,0⟩] scope pos) 0 (.ref it) (.ref l) (compEnvC scope cl sE.heap.objs.size X.env)).onRaise (fun x=>do noteFrame x (compEnvC scope cl sE.heap.objs.size X.env); theTreesLotGoes x)) _ _ s3
  refine wpAny_noted ?_
  rw [compTurn_list]
  refine wpAny_bind (wpAny_standAt (wpAny_bind ?_))
  rcases turn i n ys H3 w3 with ⟨stop,qn⟩ | ⟨go,step⟩
  ·refine wpAny_mono (T.done (cO X N' scope cl sE.heap.objs.size sE HE fp pins) rfl rfl rfl hcalm i [] s3 _ H3 (fun _ _=>False) I3 (hX fr3) st3 stop) (fun r s4 ⟨hr,I4⟩=>?_) fun _ _ z=>z.elim
   subst hr
   obtain ⟨m4,hn4,_⟩:=I4.loc
   exact wpAny_pure (hRR l sE HE H3 s4 m4 IE (comp_back IE fE I4) I4.free hn4 qn)
  ·refine wpAny_mono (T.item (cO X N' scope cl sE.heap.objs.size sE HE fp pins) rfl rfl rfl hcalm i [] s3 _ H3 (fun _ _=>False) I3 (hX fr3) st3 go) (fun r s4 ⟨u,hr,h4⟩=>?_) fun _ _ z=>z.elim
   subst hr
   refine wpAny_bind (wpAny_mono h4 (fun _ s5 ⟨x,H5,I5,r5,y5,st5,fr5⟩=>?_) fun _ _ z=>z.elim)
   have I5':=I5.pinned (hX fr5) (T.obj _ _ st5)
   refine wpAny_bind (wpAny_mono (hg _ _ _ _ _ _ _ s5 _ H5 x u _ I5' r5 (step x H5 y5)) (fun _ s6 ⟨σ6,H6,I6,q6⟩=>?_) fun _ _ z=>z.elim)
   obtain ⟨d6,q6⟩:=q6
   have weak:∀{H7 s7},Inv (cO X N' scope cl sE.heap.objs.size sE HE fp pins) ([]++tD fp s5.heap) σ6 H7 s7->Inv (cO X N' scope cl sE.heap.objs.size sE HE fp pins) ([]++tD fp s5.heap) (cSt k cap σ) H7 s7:=fun {H7 s7} I7=>by
    refine I7.weak (I0.len.trans I7.len.symm) fun j v e=>?_
    by_cases z:k<=j
    ·obtain ⟨j',rfl⟩:∃j',j=k+j':=⟨j - k,by omega⟩
     rw [← List.getElem?_drop] at e ⊢
     rw [d6]
     exact e
    ·unfold cSt at e
     rw [List.getElem?_append_left (by simp; omega),List.getElem?_replicate,if_pos (by omega)] at e
     cases e
   have again:∀{H7:Hp} {s7:Shared} {zs:List V},Inv (cO X N' scope cl sE.heap.objs.size sE HE fp pins) ([]++tD fp s5.heap) σ6 H7 s7->(∃m',m'<n/\W (i+1) m' zs H7)->
     ∃m,m<n/\∃i ys H',Inv (cO X N' scope cl sE.heap.objs.size sE HE fp pins) [] (cSt k cap σ) H' s7/\tn i s7.heap/\(∀b∈fp,H' b=none)/\W i m ys H':=fun {H7 s7 zs} I7 ⟨m',hm,w7⟩=>by
    refine ⟨m',hm,i+1,zs,H7,(weak I7).vz,T.keep _ _ _ st5 fun b hb o e=>(I7.pin (b,o) (List.mem_append_right _ (List.mem_append_right _ (pX hb e)))).1,fun b hb=>?_,w7⟩
    obtain ⟨o,e,d⟩:=T.obj _ _ st5 b hb
    exact (I7.pin (b,o) (List.mem_append_right _ (List.mem_append_right _ (pX hb e)))).2.1
   refine wpAny_bind (wpAny_mono (ht _ _ _ _ _ _ _ s6 σ6 H6 _ I6 q6) (fun b s7 ⟨H7,I7,q7⟩=>?_) fun _ _ z=>z.elim)
   cases b with
   |false=>
    rw [if_neg Bool.false_ne_true] at q7
    exact wpAny_pure ⟨rfl,again I7 q7⟩
   |true=>
    rw [if_pos rfl] at q7
    refine wpAny_bind (wpAny_bind (wpAny_mono (he _ _ _ _ _ _ _ s7 σ6 H7 _ I7 q7) (fun yv s8 ⟨y,H8,I8,r8,hl8,hz8,q8⟩=>?_) fun _ _ z=>z.elim))
    refine wpAny_bind (wpAny_mono (vH (X:=cO X N' scope cl sE.heap.objs.size sE HE fp pins) _ s8 σ6 H8 (.ref l) [y] (.ref l) [yv] (fun _ H9=>H9=upd H8 l (.lst (ys++[y]))) I8 rfl (.cons r8 .nil) ⟨l,ys,y,rfl,rfl,hl8,hz8,rfl⟩)
     (fun _ s9 ⟨_,H9,I9,_,e9⟩=>?_) fun _ _ z=>z.elim)
    subst e9
    exact wpAny_pure (wpAny_pure ⟨rfl,again I9 q8⟩)
 exact codeAny_compStart_list (loop _ rfl) (T.self _ 0 _ _ _ st0 (loop _ rfl))
theorem Rr (sc:Scope)(N' caps:List Str)(k:Nat)(cap:List Nat)(hcalm:X.calm=true)(S:CSc sc scope caps)(hcap:Paired (fun j x=>X.N[j]? = some x) cap caps)
  (hi:PI X tg iter wi) (hg:∀cl C sE HE fp pins,PG (cO X N' scope cl C sE HE fp pins) tg g) (ht:∀cl C sE HE fp pins,Lk (cO X N' scope cl C sE HE fp pins) ifs tt) (he:∀cl C sE HE fp pins,PE (cO X N' scope cl C sE HE fp pins) elt te)
  (hsc:X.env.scope=sc:=by rfl) (hN:N'.drop k=caps:=by rfl) (hk:k<=N'.length:=by decide) (hs:∀x,foldedSetIterable iter X.env x=pure x:=by intro _; rfl):
  PE X (.ListComp elt [⟨tg,iter,ifs,0⟩] scope pos) (JS k cap wi g tt te):=by
 intro pins s σ H Q I h
 obtain ⟨cl,hcl,hc1,hc2⟩:=wJ (scope:=scope) (env:=X.env) fun y hy e=>I.ok.has y.1 (by
  have z:=S.free y hy e
  rw [← hsc] at z
  exact z)
 rw [eval_ListComp]
 refine wpAny_comprehension_free (use:=none) rfl hs hcl S.kind S.loc (Ey (RR:=fun acc C=>compPost (model X.prog X.w) X.A X.xe none (EP X pins σ Q) acc C) hcalm S hsc hN hk hcap hi hg ht he I h hc1 hc2 ?_)
 intro l sE HE H' s' m IE I' hn hns q
 exact ⟨m,hns,fun h' hs'=>⟨.ref l,H',DR IE I' hn hs',rfl,q⟩⟩
theorem yR {i:Nat}{y:Str}{py spos:Pos}(sc:Scope)(N' caps:List Str)(k:Nat)(cap:List Nat)(hnd:X.N.Nodup)(hi':X.N[i]? = some y)(hy:Loc X.env.scope y)(hcalm:X.calm=true)(S:CSc sc scope caps)(hcap:Paired (fun j x=>X.N[j]? = some x) cap caps)
  (hi:PI X tg iter wi) (hg:∀cl C sE HE fp pins,PG (cO X N' scope cl C sE HE fp pins) tg g) (ht:∀cl C sE HE fp pins,Lk (cO X N' scope cl C sE HE fp pins) ifs tt) (he:∀cl C sE HE fp pins,PE (cO X N' scope cl C sE HE fp pins) elt te)
  (hsw:swapsWith (.ListComp elt [⟨tg,iter,ifs,0⟩] scope pos) (some (.Name y py)) spos.line X.env=pure true:=by rfl)
  (hsc:X.env.scope=sc:=by rfl) (hN:N'.drop k=caps:=by rfl) (hk:k<=N'.length:=by decide) (hs:∀x,foldedSetIterable iter X.env x=pure x:=by intro _; rfl)
  (hf:X.fn y=true\/X.env.scope.names.lookup y=some .local:=by first | exact .inl rfl | exact .inr rfl | assumption):
  PS X (.Assign [.Name y py] (.ListComp elt [⟨tg,iter,ifs,0⟩] scope pos) spos) (O8 (JS k cap wi g tt te) (yo i)):=by
 intro pins s σ H D I h
 obtain ⟨cl,hcl,hc1,hc2⟩:=wJ (scope:=scope) (env:=X.env) fun y hy e=>I.ok.has y.1 (by
  have z:=S.free y hy e
  rw [← hsc] at z
  exact z)
 rw [exec_Assign_Name_used _ _ _ _ hsw]
 refine wpAny_bind (wpAny_standAt (wpAny_bind ?_))
 show wpAny _ X.A (do let _ ← comprehension (.ListComp elt [⟨tg,iter,ifs,0⟩] scope pos) scope X.env _ (newList []) false (eval iter X.env) (some (assign (.Name y py) X.env))) _ _ s
 refine wpAny_bind (wpAny_mono (wpAny_comprehension_free (use:=some (assign (.Name y py) X.env)) (Q:=fun _ s'=>SP X pins D .next s') rfl hs hcl S.kind S.loc
  (Ey (RR:=fun acc C=>compPost (model X.prog X.w) X.A X.xe (some (assign (.Name y py) X.env)) (fun _ s'=>SP X pins D .next s') acc C) hcalm S hsc hN hk hcap hi hg ht he I h hc1 hc2 ?_)) (fun _ s' hq=>wpAny_pure (wpAny_pure hq)) fun _ _ e=>e)
 intro l sE HE H' s' m IE I' hn hns q
 show wpAny _ X.A (assign (.Name y py) X.env (.ref l)) _ _ _
 refine wpAny_assign_Name (zW I' hnd hi' hy (v:=.ref l) rfl (fun s2 I2 hb=>?_) hf)
 obtain ⟨a,hsb,ha⟩:=hb
 have hne:sE.heap.objs.size≠a:=fun z=>by
  rcases ha with e | e
  ·exact absurd IE.lt (by rw [← e,← z]; exact Nat.lt_irrefl _)
  ·obtain ⟨v,q⟩:=IE.cell y a e
   exact absurd q.lt (by rw [z]; exact Nat.lt_irrefl _)
 exact ⟨m,hns.sameBut hsb hne,fun h' hs'=>⟨_,H',DR IE I2 hn hs',q⟩⟩
end
open PySem PySem.Spec PyProof.Rows L2
inductive TyK (K:W.Frag)(H:Hp):V->Value->Prop where
 |of {v:V} {t:Value}:vK K H v t->TyK K H v t
 |tup {a:Addr} {xs:List V}:SqT K H a xs->TyK K H (.ref a) (.type "tuple")
 |lst {a:Addr} {xs:List V}:SqL K H a xs->TyK K H (.ref a) (.type "list")
section
variable {X:Cx}
noncomputable def YC (K:W.Frag):List V->Hp->VK->Prop:=fun xs H Q=>∃x c t cv b,xs=[x,c]/\Xk c=some cv/\TyK K H x t/\PySem.W.kitOne K t cv=some b/\Q (.bl b) H
theorem K7:jD X (.builtin "isinstance") (YC X.K):=by
 intro pins s σ H xs us Q I r h
 obtain ⟨x,c,t,cv,b,rfl,rc,ty,e,q⟩:=h
 obtain ⟨u,w',rfl,ru,rw'⟩:=vals2 r
 have z:=N5 rc rw'
 subst z
 cases ty with
 |of ty=>exact KJ I ru ty e fun tk=>⟨.bl b,H,I.tok _,rfl,q⟩
 | @tup a xs hs=>
  cases (show u=Value.ref a from ru)
  obtain ⟨its,_,⟨o,h1,h2,_⟩,_⟩:=I.tuple hs
  exact PySem.W.kia_one PySem.W.kitx_tuple I.kIn ⟨o,h1,h2⟩ e (fun z=>nomatch z) fun tk=>⟨.bl b,H,I.tok _,rfl,q⟩
 | @lst a xs hs=>
  cases (show u=Value.ref a from ru)
  obtain ⟨its,_,⟨o,n,h1,h2,_⟩,_⟩:=I.list hs
  exact PySem.W.kia_one PySem.W.kitx_list I.kIn ⟨o,h1,h2⟩ e (fun z=>nomatch z) fun tk=>⟨.bl b,H,I.tok _,rfl,q⟩
end
theorem Rd.mono {H H':Hp}{a:Addr}{u:HO}(h:Rd H a u)(g:aK H H'):Rd H' a u:=h.elim (fun e=>.inl (g _ _ e)) fun ⟨o,e⟩=>.inr ⟨o,g _ _ e⟩
theorem Ga {K:W.Frag}{H H':Hp}{a:Addr}{xs:List V}(h:SqL K H a xs)(g:aK H H'):SqL K H' a xs:=h.elim (fun e=>.inl (Rd.mono e g)) .inr
noncomputable def SameBut (l:Addr)(H H':Hp):Prop:=∀b u,b≠l->H b=some u->H' b=some u
theorem Uz {l:Addr}{H H':Hp}(g:aK H H'):SameBut l H H':=fun b u _ e=>g b u e
theorem Oz {l:Addr}{H:Hp}{o:HO}:SameBut l H (upd H l o):=fun b u n e=>by rw [cL n]; exact e
theorem SameBut.trans {l:Addr}{H H1 H2:Hp}(a:SameBut l H H1)(b:SameBut l H1 H2):SameBut l H H2:=fun c u n e=>b c u n (a c u n e)
theorem J3 {l:Addr}{H H':Hp}(g:SameBut l H H')(n:H l=none):aK H H':=fun b u e=>g b u (fun z=>by rw [z,n] at e; cases e) e
noncomputable def CW (n:Nat)(l:Addr)(H1:Hp)(R:Nat->List V->Hp->Prop):Nat->Nat->List V->Hp->Prop:=fun i m ys H=>m=n - i/\i<=n/\ys.length=i/\aK H1 H/\H l=some (.lst ys)/\R i ys H
noncomputable def CN (n:Nat)(l:Addr)(H1:Hp)(R:Nat->List V->Hp->Prop)(i:Nat)(ys:List V):VK:=fun y H5=>H5 l=some (.lst ys)/\ys.length<sizeLine/\∃m',m'<n - i/\CW n l H1 R (i+1) m' (ys++[y]) (upd H5 l (.lst (ys++[y])))
theorem CN.mk {n:Nat}{l:Addr}{H1 H H5:Hp}{R:Nat->List V->Hp->Prop}{i:Nat}{ys:List V}{y:V}(hn:n<=sizeLine)(hl1:H1 l=none)(hi:i<n)(hlen:ys.length=i)(s1:aK H1 H)(hl:H l=some (.lst ys))(g:aK H H5)
  (r:R (i+1) (ys++[y]) (upd H5 l (.lst (ys++[y])))):CN n l H1 R i ys y H5:=
 ⟨g _ _ hl,by omega,n - (i+1),by omega,rfl,hi,by rw [List.length_append,List.length_singleton,hlen],J3 ((Uz (fun b u e=>g b u (s1 b u e))).trans Oz) hl1,aZ,r⟩
section
variable {k:Nat}{cap:List Nat}{g:TG}{te:TE}{σ:St}{H1:Hp}{Q:VK}{l:Addr}
end
section
variable {X:Cx}{tg:Expr}
end
open PySem PySem.Spec PyProof.Rows L2
section
variable {X:Cx}
noncomputable def rJoin (K:W.Frag):V->List V->Hp->VK->Prop:=fun x vs H Q=>∃z l zs,x=.str z/\vs=[.ref l]/\SqL K H l (zs.map V.str)/\JoinOk z zs=true/\Q (.str (Txt.join z zs)) H
theorem Fy:∀{zs:List Str} {us:List Value},Vals (zs.map V.str) us->∃l:List (Str×Tok),us=strValues l/\l.map (·.1)=zs
 |[],_,.nil=>⟨[],rfl,rfl⟩
 |z::zs,_,.cons r t=>by
  obtain ⟨tk,rfl⟩:=r
  obtain ⟨l,rfl,e⟩:=Fy t
  exact ⟨(z,tk)::l,rfl,by rw [List.map_cons,e]⟩
theorem S5 (K:W.Frag)(hK:X.K=K:=by rfl):MtM X "str.join" (rJoin K):=by
 subst hK
 intro pins s σ H x vs v us Q I rx rv h
 obtain ⟨z,l,zs,rfl,rfl,hL,ok,q⟩:=h
 obtain ⟨t,rfl⟩:=rx
 obtain ⟨u,rfl,ru⟩:=rv.one
 cases ru
 obtain ⟨its,r,hp,_⟩:=I.list hL
 obtain ⟨ls,rfl,e⟩:=Fy r
 exact SC.join hp.isList e ok fun t' k=>⟨.str _,H,I.tok _,⟨t',rfl⟩,q⟩
end
end Hd
namespace F
open PySem PySem.Spec PyProof.Rows L2 Hd
inductive D where
 |non | bl (b:Bool) | int (i:Int) | str (x:Str) | exc (c:Str)
 |tup (xs:List D) | lst (xs:List D)
 |dct (ks:List Key) (vs:List D) | dcu (ks:List (List Kt)) (vs:List D)
  |dcf (ks:List (List Kt)) (vs:List D)
  |adr (a:Addr)
inductive Res (α:Type) where
 |ok (a:α) | exc (c:Str) | stuck
noncomputable def Res.bind {α β:Type}(r:Res α)(f:α->Res β):Res β:=match r with
 | .ok a=>f a
 | .exc c=>.exc c
 | .stuck=>.stuck
@[simp] theorem Res.rK {α β:Type}(a:α)(f:α->Res β):(Res.ok a).bind f=f a:=rfl
@[simp] theorem Res.Ym {α β:Type}(c:Str)(f:α->Res β):(Res.exc c:Res α).bind f=.exc c:=rfl
@[simp] theorem Res.Wk {α β:Type}(f:α->Res β):(Res.stuck:Res α).bind f=.stuck:=rfl
noncomputable def ofO {α:Type}:Option α->Res α
 |some a=>.ok a
 |none=>.stuck
@[simp] theorem pO {α:Type}(a:α):ofO (some a)=.ok a:=rfl
@[simp] theorem Xc {α:Type}:ofO (none:Option α)=.stuck:=rfl
structure Gx where
 K:W.Frag
 mg:Str->Option Value
noncomputable abbrev gx (X:Cx):Gx:=⟨X.K,X.mg⟩
noncomputable def YT (K:W.Frag)(a:Addr)(xs:List V):Prop:=
 ∃(o:Obj) (its:Array Value) (n:Nat),K.lookup a=some o/\o.cls=.type "list"/\o.dict=none/\o.data=.seq its n/\its.size<=sizeLine/\Vals xs its.toList
noncomputable def LstAt (K:W.Frag)(O:Addr->Prop)(H:Hp)(a:Addr)(xs:List V):Prop:=(¬O a/\Rd H a (.lst xs))\/YT K a xs
mutual
inductive DV (G:Gx)(O:Addr->Prop)(H:Hp):V->D->Prop where
 |non:DV G O H .non .non
 |bl (b:Bool):DV G O H (.bl b) (.bl b)
 |int (i:Int):DV G O H (.int i) (.int i)
 |str (x:Str):DV G O H (.str x) (.str x)
 |adr (a:Addr):DV G O H (.ref a) (.adr a)
 |exc {a C:Addr} {c:Str}:G.mg c=some (.ref C)->H a=some (.ext (XM a (.ref C)))->DV G O H (.ref a) (.exc c)
 |tup {a:Addr} {xs:List V} {ds:List D}:SqU G.K H a xs->DVs G O H xs ds->DV G O H (.ref a) (.tup ds)
 |lst {a:Addr} {xs:List V} {ds:List D}:LstAt G.K O H a xs->DVs G O H xs ds->DV G O H (.ref a) (.lst ds)
 |dct {a:Addr} {kvs:List (Key×V)} {ks:List Key} {vs:List V} {ds:List D}:¬O a->H a=some (.dK kvs)->kvs.map (·.1)=ks->kvs.map (·.2)=vs->DVs G O H vs ds->DV G O H (.ref a) (.dct ks ds)
 |dcu {a:Addr} {kvs:List (List Kt×V)} {ks:List (List Kt)} {vs:List V} {ds:List D}:¬O a->H a=some (.dT (KTp G.K) kvs)->kvs.map (·.1)=ks->kvs.map (·.2)=vs->DVs G O H vs ds->DV G O H (.ref a) (.dcu ks ds)
 |dcf {a:Addr} {o:Obj} {kvs:List (List Kt×V)} {ks:List (List Kt)} {vs:List V} {ds:List D}:H a=some (.frz o (.dT (KTp G.K) kvs))->kvs.map (·.1)=ks->kvs.map (·.2)=vs->DVs G O H vs ds->DV G O H (.ref a) (.dcf ks ds)
inductive DVs (G:Gx)(O:Addr->Prop)(H:Hp):List V->List D->Prop where
 |nil:DVs G O H [] []
 |cons {v:V} {vs:List V} {d:D} {ds:List D}:DV G O H v d->DVs G O H vs ds->DVs G O H (v::vs) (d::ds)
end
noncomputable def OV (G:Gx)(O:Addr->Prop)(H:Hp)(a:Addr):D->Prop
 | .lst ds=>∃xs,H a=some (.lst xs)/\DVs G O H xs ds
 | .dct ks ds=>∃kvs vs,H a=some (.dK kvs)/\kvs.map (·.1)=ks/\kvs.map (·.2)=vs/\DVs G O H vs ds
 | .dcu ks ds=>∃kvs vs,H a=some (.dT (KTp G.K) kvs)/\kvs.map (·.1)=ks/\kvs.map (·.2)=vs/\DVs G O H vs ds
 |_=>False
noncomputable def DW (G:Gx)(O:Addr->Prop)(H:Hp)(v:V)(d:D):Prop:=DV G O H v d\/∃a,v=.ref a/\O a/\OV G O H a d
inductive DWs (G:Gx)(O:Addr->Prop)(H:Hp):List V->List D->Prop where
 |nil:DWs G O H [] []
 |cons {v:V} {vs:List V} {d:D} {ds:List D}:DW G O H v d->DWs G O H vs ds->DWs G O H (v::vs) (d::ds)
noncomputable def fO (o:Option HO):Prop:=(∃xs,o=some (.lst xs))\/(∃k,o=some (.dK k))\/∃k:(Addr->List V->Prop)×List (List Kt×V),o=some (.dT k.1 k.2)
noncomputable def Kp (O:Addr->Prop)(H H':Hp):Prop:=∀b o,H b=some o->¬O b->H' b=some o
theorem Kp.of {O:Addr->Prop}{H H':Hp}(g:aK H H'):Kp O H H':=fun b o e _=>g b o e
theorem ql {O:Addr->Prop}{H:Hp}(m:∀b,O b->fO (H b)){a:Addr}{o:HO}(e:H a=some o)(n:¬fO (some o)):¬O a:=fun z=>n (e ▸ m a z)
theorem Iu {xs:List V}:¬fO (some (.tup xs)):=by rintro (⟨_,e⟩ | ⟨_,e⟩ | ⟨_,e⟩) <;> cases e
theorem Bv {o:Obj}{u:HO}:¬fO (some (.frz o u)):=by rintro (⟨_,e⟩ | ⟨_,e⟩ | ⟨_,e⟩) <;> cases e
theorem J9 {φ:Heap->Prop}:¬fO (some (.ext φ)):=by rintro (⟨_,e⟩ | ⟨_,e⟩ | ⟨_,e⟩) <;> cases e
theorem V1 {K:W.Frag}{O:Addr->Prop}{H H':Hp}{a:Addr}{xs:List V}(m:∀b,O b->fO (H b))(g:Kp O H H')(h:SqT K H a xs):SqT K H' a xs:=by
 rcases h with (e | ⟨o,e⟩) | h
 ·exact .inl (.inl (g a _ e (ql m e Iu)))
 ·exact .inl (.inr ⟨o,g a _ e (ql m e Bv)⟩)
 ·exact .inr h
theorem O4 {K:W.Frag}{O:Addr->Prop}{H H':Hp}{a:Addr}{xs:List V}(m:∀b,O b->fO (H b))(g:Kp O H H')(h:SqU K H a xs):SqU K H' a xs:=by
 rcases h with e | h
 ·exact .inl (g a _ e (ql m e Iu))
 ·exact .inr h
theorem Mu {K:W.Frag}{H H':Hp}{a:Addr}{xs:List V}(h:SqU K H a xs)(g:aK H H'):SqU K H' a xs:=h.imp (g _ _) id
theorem uM {K:W.Frag}{O:Addr->Prop}{H H':Hp}{a:Addr}{xs:List V}(g:Kp O H H')(h:LstAt K O H a xs):LstAt K O H' a xs:=by
 rcases h with ⟨n,e | ⟨o,e⟩⟩ | h
 ·exact .inl ⟨n,.inl (g a _ e n)⟩
 ·exact .inl ⟨n,.inr ⟨o,g a _ e n⟩⟩
 ·exact .inr h
theorem LstAt.sq {K:W.Frag}{O:Addr->Prop}{H:Hp}{a:Addr}{xs:List V}(h:LstAt K O H a xs):SqL K H a xs:=h.elim (fun z=>.inl z.2) .inr
section
variable {G:Gx}{O O':Addr->Prop}{H H':Hp}
mutual
theorem DV.kp (m:∀b,O b->fO (H b))(g:Kp O H H'):∀{v:V} {d:D},DV G O H v d->DV G O H' v d
 |_,_,.non=>.non
 |_,_,.bl b=>.bl b
 |_,_,.int i=>.int i
 |_,_,.str x=>.str x
 |_,_,.adr a=>.adr a
 |_,_,.exc h e=>.exc h (g _ _ e (ql m e J9))
 |_,_,.tup h hs=>.tup (O4 m g h) (DVs.kp m g hs)
 |_,_,.lst h hs=>.lst (uM g h) (DVs.kp m g hs)
 |_,_,.dct n e a b hs=>.dct n (g _ _ e n) a b (DVs.kp m g hs)
 |_,_,.dcu n e a b hs=>.dcu n (g _ _ e n) a b (DVs.kp m g hs)
 |_,_,.dcf e a b hs=>.dcf (g _ _ e (ql m e Bv)) a b (DVs.kp m g hs)
theorem DVs.kp (m:∀b,O b->fO (H b))(g:Kp O H H'):∀{vs:List V} {ds:List D},DVs G O H vs ds->DVs G O H' vs ds
 |_,_,.nil=>.nil
 |_,_,.cons h hs=>.cons (DV.kp m g h) (DVs.kp m g hs)
end
mutual
theorem DV.mono (g:aK H H'):∀{v:V} {d:D},DV G O H v d->DV G O H' v d
 |_,_,.non=>.non
 |_,_,.bl b=>.bl b
 |_,_,.int i=>.int i
 |_,_,.str x=>.str x
 |_,_,.adr a=>.adr a
 |_,_,.exc h e=>.exc h (g _ _ e)
 |_,_,.tup h hs=>.tup (Mu h g) (DVs.mono g hs)
 |_,_,.lst h hs=>.lst (uM (.of g) h) (DVs.mono g hs)
 |_,_,.dct n e a b hs=>.dct n (g _ _ e) a b (DVs.mono g hs)
 |_,_,.dcu n e a b hs=>.dcu n (g _ _ e) a b (DVs.mono g hs)
 |_,_,.dcf e a b hs=>.dcf (g _ _ e) a b (DVs.mono g hs)
theorem DVs.mono (g:aK H H'):∀{vs:List V} {ds:List D},DVs G O H vs ds->DVs G O H' vs ds
 |_,_,.nil=>.nil
 |_,_,.cons h hs=>.cons (DV.mono g h) (DVs.mono g hs)
end
mutual
theorem DV.bT (s:∀b,O' b->O b\/H b=none):∀{v:V} {d:D},DV G O H v d->DV G O' H v d
 |_,_,.non=>.non
 |_,_,.bl b=>.bl b
 |_,_,.int i=>.int i
 |_,_,.str x=>.str x
 |_,_,.adr a=>.adr a
 |_,_,.exc h e=>.exc h e
 |_,_,.tup h hs=>.tup h (DVs.bT s hs)
 |_,_,.lst h hs=>.lst (h.elim (fun z=>.inl ⟨fun o=>(s _ o).elim z.1 fun n=>by rcases z.2 with e | ⟨_,e⟩ <;> (rw [n] at e; cases e),z.2⟩) .inr) (DVs.bT s hs)
 |_,_,.dct n e a b hs=>.dct (fun o=>(s _ o).elim n fun z=>by rw [z] at e; cases e) e a b (DVs.bT s hs)
 |_,_,.dcu n e a b hs=>.dcu (fun o=>(s _ o).elim n fun z=>by rw [z] at e; cases e) e a b (DVs.bT s hs)
 |_,_,.dcf e a b hs=>.dcf e a b (DVs.bT s hs)
theorem DVs.bT (s:∀b,O' b->O b\/H b=none):∀{vs:List V} {ds:List D},DVs G O H vs ds->DVs G O' H vs ds
 |_,_,.nil=>.nil
 |_,_,.cons h hs=>.cons (DV.bT s h) (DVs.bT s hs)
end
noncomputable def Ev (O:Addr->Prop)(H:Hp)(O':Addr->Prop)(H':Hp):Prop:=(∀b,O' b->O b\/H b=none)/\Kp O H H'
mutual
theorem DV.go (m:∀b,O b->fO (H b))(g:Ev O H O' H'):∀{v:V} {d:D},DV G O H v d->DV G O' H' v d
 |_,_,.non=>.non
 |_,_,.bl b=>.bl b
 |_,_,.int i=>.int i
 |_,_,.str x=>.str x
 |_,_,.adr a=>.adr a
 |_,_,.exc h e=>.exc h (g.2 _ _ e (ql m e J9))
 |_,_,.tup h hs=>.tup (O4 m g.2 h) (DVs.go m g hs)
 |_,_,.lst h hs=>.lst (h.elim (fun z=>.inl ⟨fun o=>(g.1 _ o).elim z.1 fun n=>by rcases z.2 with e | ⟨_,e⟩ <;> (rw [n] at e; cases e),(uM g.2 (.inl z):LstAt G.K O H' _ _).elim (fun y=>y.2) fun y=>z.2.elim (fun e=>.inl (g.2 _ _ e z.1)) fun ⟨o,e⟩=>.inr ⟨o,g.2 _ _ e z.1⟩⟩) .inr) (DVs.go m g hs)
 |_,_,.dct n e a b hs=>.dct (fun o=>(g.1 _ o).elim n fun z=>by rw [z] at e; cases e) (g.2 _ _ e n) a b (DVs.go m g hs)
 |_,_,.dcu n e a b hs=>.dcu (fun o=>(g.1 _ o).elim n fun z=>by rw [z] at e; cases e) (g.2 _ _ e n) a b (DVs.go m g hs)
 |_,_,.dcf e a b hs=>.dcf (g.2 _ _ e (ql m e Bv)) a b (DVs.go m g hs)
theorem DVs.go (m:∀b,O b->fO (H b))(g:Ev O H O' H'):∀{vs:List V} {ds:List D},DVs G O H vs ds->DVs G O' H' vs ds
 |_,_,.nil=>.nil
 |_,_,.cons h hs=>.cons (DV.go m g h) (DVs.go m g hs)
end
theorem OV.bT {a:Addr}{d:D}(s:∀b,O' b->O b\/H b=none)(h:OV G O H a d):OV G O' H a d:=by
 cases d with
 |lst ds=>obtain ⟨xs,e,hs⟩:=h; exact ⟨xs,e,hs.bT s⟩
 |dct ks ds=>obtain ⟨k,v,e,a1,a2,hs⟩:=h; exact ⟨k,v,e,a1,a2,hs.bT s⟩
 |dcu ks ds=>obtain ⟨k,v,e,a1,a2,hs⟩:=h; exact ⟨k,v,e,a1,a2,hs.bT s⟩
 |_=>exact h.elim
theorem OV.mono {a:Addr}{d:D}(g:aK H H')(h:OV G O H a d):OV G O H' a d:=by
 cases d with
 |lst ds=>obtain ⟨xs,e,hs⟩:=h; exact ⟨xs,g _ _ e,hs.mono g⟩
 |dct ks ds=>obtain ⟨k,v,e,a1,a2,hs⟩:=h; exact ⟨k,v,g _ _ e,a1,a2,hs.mono g⟩
 |dcu ks ds=>obtain ⟨k,v,e,a1,a2,hs⟩:=h; exact ⟨k,v,g _ _ e,a1,a2,hs.mono g⟩
 |_=>exact h.elim
theorem OV.kp {a:Addr}{d:D}(m:∀b,O b->fO (H b))(g:Kp O H H')(e':H' a=H a)(h:OV G O H a d):OV G O H' a d:=by
 cases d with
 |lst ds=>obtain ⟨xs,e,hs⟩:=h; exact ⟨xs,e'.trans e,hs.kp m g⟩
 |dct ks ds=>obtain ⟨k,v,e,a1,a2,hs⟩:=h; exact ⟨k,v,e'.trans e,a1,a2,hs.kp m g⟩
 |dcu ks ds=>obtain ⟨k,v,e,a1,a2,hs⟩:=h; exact ⟨k,v,e'.trans e,a1,a2,hs.kp m g⟩
 |_=>exact h.elim
theorem OV.mut {a:Addr}{d:D}(h:OV G O H a d):fO (H a):=by
 cases d with
 |lst ds=>obtain ⟨xs,e,hs⟩:=h; exact .inl ⟨xs,e⟩
 |dct ks ds=>obtain ⟨k,v,e,_⟩:=h; exact .inr (.inl ⟨k,e⟩)
 |dcu ks ds=>obtain ⟨k,v,e,_⟩:=h; exact .inr (.inr ⟨(_,k),e⟩)
 |_=>exact h.elim
theorem OV.dv {a:Addr}{d:D}(n:¬O a)(h:OV G O H a d):DV G O H (.ref a) d:=by
 cases d with
 |lst ds=>obtain ⟨xs,e,hs⟩:=h; exact .lst (.inl ⟨n,.inl e⟩) hs
 |dct ks ds=>obtain ⟨k,v,e,a1,a2,hs⟩:=h; exact .dct n e a1 a2 hs
 |dcu ks ds=>obtain ⟨k,v,e,a1,a2,hs⟩:=h; exact .dcu n e a1 a2 hs
 |_=>exact h.elim
theorem DW.mono {v:V}{d:D}(g:aK H H')(h:DW G O H v d):DW G O H' v d:=h.elim (fun z=>.inl (z.mono g)) fun ⟨a,e,o,z⟩=>.inr ⟨a,e,o,z.mono g⟩
theorem DWs.mono (g:aK H H'):∀{vs:List V} {ds:List D},DWs G O H vs ds->DWs G O H' vs ds
 |_,_,.nil=>.nil
 |_,_,.cons h hs=>.cons (h.mono g) (DWs.mono g hs)
theorem DW.any {v:V}{d:D}(h:DW G O H v d):DV G (fun _=>False) H v d:=by
 rcases h with h | ⟨a,e,_,h⟩
 ·exact h.bT fun _ z=>z.elim
 ·subst e
  exact (h.bT (O':=fun _=>False) fun _ z=>z.elim).dv id
theorem DWs.any:∀{vs:List V} {ds:List D},DWs G O H vs ds->DVs G (fun _=>False) H vs ds
 |_,_,.nil=>.nil
 |_,_,.cons h hs=>.cons h.any (DWs.any hs)
end
section
variable {G:Gx}{O:Addr->Prop}{H:Hp}{v:V}
theorem CP (h:DW G O H v .non):v=.non:=by
 rcases h with h | ⟨_,_,_,h⟩
 ·cases h; rfl
 ·exact h.elim
theorem Ka {b:Bool}(h:DW G O H v (.bl b)):v=.bl b:=by
 rcases h with h | ⟨_,_,_,h⟩
 ·cases h; rfl
 ·exact h.elim
theorem cB {i:Int}(h:DW G O H v (.int i)):v=.int i:=by
 rcases h with h | ⟨_,_,_,h⟩
 ·cases h; rfl
 ·exact h.elim
theorem lC {x:Str}(h:DW G O H v (.str x)):v=.str x:=by
 rcases h with h | ⟨_,_,_,h⟩
 ·cases h; rfl
 ·exact h.elim
theorem sX {ds:List D}(h:DW G O H v (.tup ds)):∃a xs,v=.ref a/\SqT G.K H a xs/\DVs G O H xs ds:=by
 rcases h with h | ⟨_,_,_,h⟩
 ·cases h with
  |tup h hs=>exact ⟨_,_,rfl,h.sq,hs⟩
 ·exact h.elim
theorem xK {ds:List D}(h:DW G O H v (.tup ds)):∃a xs,v=.ref a/\SqU G.K H a xs/\DVs G O H xs ds:=by
 rcases h with h | ⟨_,_,_,h⟩
 ·cases h with
  |tup h hs=>exact ⟨_,_,rfl,h,hs⟩
 ·exact h.elim
theorem iY {ds:List D}(h:DW G O H v (.lst ds)):∃a xs,v=.ref a/\SqL G.K H a xs/\DVs G O H xs ds:=by
 rcases h with h | ⟨a,e,_,h⟩
 ·cases h with
  |lst h hs=>exact ⟨_,_,rfl,h.sq,hs⟩
 ·obtain ⟨xs,e',hs⟩:=h
  exact ⟨a,xs,e,.inl (.inl e'),hs⟩
theorem Gk {ks:List Key}{ds:List D}(h:DW G O H v (.dct ks ds)):∃a kvs vs,v=.ref a/\H a=some (.dK kvs)/\kvs.map (·.1)=ks/\kvs.map (·.2)=vs/\DVs G O H vs ds:=by
 rcases h with h | ⟨a,e,_,h⟩
 ·cases h with
  |dct n e a b hs=>exact ⟨_,_,_,rfl,e,a,b,hs⟩
 ·obtain ⟨k,w,e',a1,a2,hs⟩:=h
  exact ⟨a,k,w,e,e',a1,a2,hs⟩
theorem Oi {ks:List (List Kt)}{ds:List D}(h:DW G O H v (.dcu ks ds)):∃a kvs vs,v=.ref a/\H a=some (.dT (KTp G.K) kvs)/\kvs.map (·.1)=ks/\kvs.map (·.2)=vs/\DVs G O H vs ds:=by
 rcases h with h | ⟨a,e,_,h⟩
 ·cases h with
  |dcu n e a b hs=>exact ⟨_,_,_,rfl,e,a,b,hs⟩
 ·obtain ⟨k,w,e',a1,a2,hs⟩:=h
  exact ⟨a,k,w,e,e',a1,a2,hs⟩
theorem bN:∀{vs:List V} {ds:List D},DVs G O H vs ds->vs.length=ds.length
 |_,_,.nil=>rfl
 |_,_,.cons _ hs=>by rw [List.length_cons,List.length_cons,bN hs]
theorem jh:∀{vs us:List V} {ds es:List D},DVs G O H vs ds->DVs G O H us es->DVs G O H (vs++us) (ds++es)
 |_,_,_,_,.nil,h=>h
 |_,_,_,_,.cons a t,h=>.cons a (jh t h)
theorem uH:∀{vs:List V} {ds:List D} {i:Nat} {x:V},DVs G O H vs ds->vs[i]? = some x->∃d,ds[i]? = some d/\DV G O H x d
 |_,_,_,_,.nil,e=>by simp at e
 |_,_,0,_,.cons a _,e=>by simp at e; subst e; exact ⟨_,rfl,a⟩
 |_,_,i+1,x,.cons _ t,e=>by
  obtain ⟨d,h1,h2⟩:=uH (i:=i) (x:=x) t (by simpa using e)
  exact ⟨d,by simpa using h1,h2⟩
theorem ud:∀{vs:List V} {ds:List D} {i:Nat} {d:D},DVs G O H vs ds->ds[i]? = some d->∃x,vs[i]? = some x/\DV G O H x d
 |_,_,_,_,.nil,e=>by simp at e
 |_,_,0,_,.cons a _,e=>by simp at e; subst e; exact ⟨_,rfl,a⟩
 |_,_,i+1,d,.cons _ t,e=>by
  obtain ⟨x,h1,h2⟩:=ud (i:=i) (d:=d) t (by simpa using e)
  exact ⟨x,by simpa using h1,h2⟩
theorem zr:∀{vs:List V} {ds:List D} (n:Nat),DVs G O H vs ds->DVs G O H (vs.take n) (ds.take n)
 |_,_,0,_=>by simp only [List.take_zero]; exact .nil
 |_,_,_+1,.nil=>.nil
 |_,_,n+1,.cons a t=>.cons a (zr n t)
theorem Er:∀{vs:List V} {ds:List D} (n:Nat),DVs G O H vs ds->DVs G O H (vs.drop n) (ds.drop n)
 |_,_,0,h=>h
 |_,_,_+1,.nil=>.nil
 |_,_,n+1,.cons _ t=>Er n t
theorem Ay:∀{vs:List V} {ds:List D},DVs G O H vs ds->DVs G O H vs.reverse ds.reverse
 |_,_,.nil=>.nil
 |_,_,.cons a t=>by rw [List.reverse_cons,List.reverse_cons]; exact jh (Ay t) (.cons a .nil)
noncomputable def flat:D->Bool
 | .non | .bl _ | .int _ | .str _=>true
 |_=>false
theorem DV.flat {O':Addr->Prop}{H':Hp}{d:D}(f:flat d=true)(h:DV G O H v d):DV G O' H' v d:=by
 cases h with
 |non=>exact .non
 |bl b=>exact .bl b
 |int i=>exact .int i
 |str x=>exact .str x
 |_=>cases f
end
inductive Sl where
  |un | fz (d:D) | ow (d:D) | io (d:D) | bw (d:D)
  |hd (w:Bool) (a:Addr) (d:D)
noncomputable abbrev Me:=List Sl
noncomputable abbrev Os:=Nat->Option Addr
noncomputable def Ow (O0:Addr->Prop)(ow:Os):Addr->Prop:=fun b=>O0 b\/∃i,ow i=some b
noncomputable def Op (O:Addr->Prop)(p:Addr):Addr->Prop:=fun b=>O b\/b=p
noncomputable def owS (ow:Os)(i:Nat)(x:Option Addr):Os:=fun j=>if j=i then x else ow j
theorem gn {ow:Os}{i:Nat}{x:Option Addr}:owS ow i x i=x:=by unfold owS; rw [if_pos rfl]
theorem fB {ow:Os}{i j:Nat}{x:Option Addr}(h:j≠i):owS ow i x j=ow j:=by unfold owS; rw [if_neg h]
noncomputable def FQ (G:Gx)(O M0:Addr->Prop)(H0:Hp)(oi:Option Addr)(v:Option (Option V))(H:Hp):Sl->Prop
 | .un=>oi=none
 | .fz d=>oi=none/\∃x,v=some (some x)/\DV G O H x d
 | .ow d=>∃a,oi=some a/\H0 a=none/\v=some (some (.ref a))/\OV G O H a d
 | .io d=>∃a,oi=some a/\M0 a/\v=some (some (.ref a))/\OV G O H a d
 | .bw d=>oi=none/\∃x,v=some (some x)/\DW G O H x d
 | .hd w a d=>oi=some a/\(w=true->H0 a=none)/\(w=false->M0 a)/\OV G O H a d
structure Rel (G:Gx)(O0 M0:Addr->Prop)(H0:Hp)(ow:Os)(σ:L2.St)(H:Hp)(m:Me):Prop where
 len:σ.length=m.length
 keep:Kp M0 H0 H
 m0:∀b,M0 b->H b≠none
 mutk:∀b,Ow O0 ow b->fO (H b)
 no0:∀i a,ow i=some a->¬O0 a
 inj:∀i j a,ow i=some a->ow j=some a->i=j
 out:∀i,m.length<=i->ow i=none
 slot:∀i s,m[i]? = some s->FQ G (Ow O0 ow) M0 H0 (ow i) (σ[i]?) H s
structure cV (G:Gx)(O0 M0:Addr->Prop)(H0:Hp)(ow:Os)(σ:L2.St)(H:Hp)(m:Me):Prop extends Rel G O0 M0 H0 ow σ H m where
 nb:∀(j:Nat) (d:D),m[j]?≠some (Sl.bw d)
structure Go (O0:Addr->Prop)(ow:Os)(H:Hp)(ow':Os)(H':Hp):Prop where
 keep:Kp (Ow O0 ow) H H'
 new:∀i a,ow' i=some a->Ow O0 ow a\/H a=none
 dom:∀b,H b≠none->H' b≠none
theorem Go.refl {O0:Addr->Prop}{ow:Os}{H H':Hp}(g:aK H H'):Go O0 ow H ow H':=
 ⟨.of g,fun i a e=>.inl (.inr ⟨i,e⟩),fun b n z=>by
  cases q:H b with
  |none=>exact n q
  |some o=>rw [g b o q] at z; cases z⟩
theorem Go.trans {O0:Addr->Prop}{ow ow1 ow2:Os}{H H1 H2:Hp}(a:Go O0 ow H ow1 H1)(b:Go O0 ow1 H1 ow2 H2):Go O0 ow H ow2 H2 where
 keep:=fun c o e n=>b.keep c o (a.keep c o e n) fun z=>by
  rcases z with z | ⟨i,z⟩
  ·exact n (.inl z)
  ·rcases a.new i c z with y | y
   ·exact n y
   ·rw [y] at e; cases e
 new:=fun i c e=>by
  rcases b.new i c e with (z | ⟨j,z⟩) | z
  ·exact .inl (.inl z)
  ·exact a.new j c z
  ·refine .inr ?_
   cases q:H c with
   |none=>rfl
   |some o=>exact absurd z (a.dom c (by rw [q]; simp))
 dom:=fun c n=>b.dom c (a.dom c n)
theorem Go.ev {O0:Addr->Prop}{ow ow':Os}{H H':Hp}(g:Go O0 ow H ow' H'):Ev (Ow O0 ow) H (Ow O0 ow') H':=
 ⟨fun b z=>z.elim (fun z=>.inl (.inl z)) fun ⟨i,e⟩=>g.new i b e,g.keep⟩
theorem uE (O:Addr->Prop):Ow O (fun _=>none)=O:=by
 funext b
 exact propext ⟨fun z=>z.elim id fun ⟨_,e⟩=>(by cases e),Or.inl⟩
section
variable {G:Gx}{O0 M0:Addr->Prop}{H0 H H':Hp}{ow:Os}{σ:L2.St}{m:Me}
theorem FQ.mono {O:Addr->Prop}{oi:Option Addr}{v:Option (Option V)}{s:Sl}(g:aK H H')(h:FQ G O M0 H0 oi v H s):FQ G O M0 H0 oi v H' s:=by
 cases s with
 |un=>exact h
 |fz d=>obtain ⟨a,x,e,q⟩:=h; exact ⟨a,x,e,q.mono g⟩
 |ow d=>obtain ⟨a,x,e,f,q⟩:=h; exact ⟨a,x,e,f,q.mono g⟩
 |io d=>obtain ⟨a,x,e,f,q⟩:=h; exact ⟨a,x,e,f,q.mono g⟩
 |bw d=>obtain ⟨a,x,e,q⟩:=h; exact ⟨a,x,e,q.mono g⟩
 |hd w a d=>obtain ⟨x,e,f,q⟩:=h; exact ⟨x,e,f,q.mono g⟩
theorem v9 {b:Addr}(g:aK H H')(h:fO (H b)):fO (H' b):=by
 rcases h with ⟨x,e⟩ | ⟨x,e⟩ | ⟨x,e⟩
 ·exact .inl ⟨x,g _ _ e⟩
 ·exact .inr (.inl ⟨x,g _ _ e⟩)
 ·exact .inr (.inr ⟨x,g _ _ e⟩)
theorem Rel.mono (R:Rel G O0 M0 H0 ow σ H m)(g:aK H H'):Rel G O0 M0 H0 ow σ H' m:=
 ⟨R.len,fun b o e n=>g b o (R.keep b o e n),fun b z q=>R.m0 b z (aK.free g q),fun b z=>v9 g (R.mutk b z),R.no0,R.inj,R.out,fun i s e=>(R.slot i s e).mono g⟩
theorem FQ.bT {O O':Addr->Prop}{oi:Option Addr}{v:Option (Option V)}{s:Sl}(sub:∀b,O' b->O b\/H b=none)(h:FQ G O M0 H0 oi v H s)(hb:∀d,s=.bw d->∀b,O b->O' b\/¬O' b):FQ G O' M0 H0 oi v H s:=by
 cases s with
 |un=>exact h
 |fz d=>obtain ⟨a,x,e,q⟩:=h; exact ⟨a,x,e,q.bT sub⟩
 |ow d=>obtain ⟨a,x,e,f,q⟩:=h; exact ⟨a,x,e,f,q.bT sub⟩
 |io d=>obtain ⟨a,x,e,f,q⟩:=h; exact ⟨a,x,e,f,q.bT sub⟩
 |bw d=>
  obtain ⟨a,x,e,q⟩:=h
  refine ⟨a,x,e,?_⟩
  rcases q with q | ⟨b,e1,o,q⟩
  ·exact .inl (q.bT sub)
  ·rcases hb d rfl b o with w | w
   ·exact .inr ⟨b,e1,w,q.bT sub⟩
   ·subst e1
    exact .inl ((q.bT sub).dv w)
 |hd w a d=>obtain ⟨x,e,f,q⟩:=h; exact ⟨x,e,f,q.bT sub⟩
theorem Ow.sub {i:Nat}{b:Addr}(z:Ow O0 (owS ow i none) b):Ow O0 ow b:=by
 rcases z with z | ⟨j,e⟩
 ·exact .inl z
 ·by_cases q:j=i
  ·subst q; rw [gn] at e; cases e
  ·rw [fB q] at e; exact .inr ⟨j,e⟩
theorem qO {α:Type}{l:List α}{i:Nat}{x:α}(e:l[i]? = some x):i<l.length:=(List.getElem?_eq_some_iff.mp e).1
theorem Rel.set {i:Nat}{v:V}{d:D}(R:Rel G O0 M0 H0 ow σ H m)(h:DV G (Ow O0 ow) H v d):
  Rel G O0 M0 H0 (owS ow i none) (σ.set i (some v)) H (m.set i (.fz d)):=by
 have sub:∀b,Ow O0 (owS ow i none) b->Ow O0 ow b\/H b=none:=fun b z=>.inl z.sub
 refine ⟨by simp [R.len],R.keep,R.m0,fun b z=>R.mutk b z.sub,fun j a e=>?_,fun j k a e1 e2=>?_,fun j hj=>?_,fun j s e=>?_⟩
 ·by_cases q:j=i
  ·subst q; rw [gn] at e; cases e
  ·rw [fB q] at e; exact R.no0 j a e
 ·by_cases q:j=i
  ·subst q; rw [gn] at e1; cases e1
  ·by_cases q':k=i
   ·subst q'; rw [gn] at e2; cases e2
   ·rw [fB q] at e1; rw [fB q'] at e2; exact R.inj j k a e1 e2
 ·by_cases q:j=i
  ·subst q; exact gn
  ·rw [fB q]; exact R.out j (by simpa using hj)
 ·by_cases q:j=i
  ·subst q
   have hj:j<m.length:=by simpa using qO e
   rw [List.getElem?_set_self hj] at e
   cases e
   rw [gn,List.getElem?_set_self (by rw [R.len]; exact hj)]
   exact ⟨rfl,v,rfl,h.bT sub⟩
  ·rw [List.getElem?_set_ne (Ne.symm q)] at e
   rw [fB q,List.getElem?_set_ne (Ne.symm q)]
   exact (R.slot j s e).bT sub fun _ _ b _=>Classical.em _
theorem Go.set {i:Nat}:Go O0 ow H (owS ow i none) H:=
 ⟨fun _ _ e _=>e,fun j a e=>.inl (by
  by_cases q:j=i
  ·subst q; rw [gn] at e; cases e
  ·rw [fB q] at e; exact .inr ⟨j,e⟩),fun _ n=>n⟩
theorem Rel.Ef (R:Rel G O0 M0 H0 ow σ H m){p:Addr}(n:H p=none):H0 p=none:=by
 cases q:H0 p with
 |none=>rfl
 |some o=>
  by_cases z:M0 p
  ·exact absurd n (R.m0 p z)
  ·rw [R.keep p o q z] at n; cases n
theorem Rel.Ek (R:Rel G O0 M0 H0 ow σ H m){p:Addr}(n:H p=none):¬Ow O0 ow p:=fun z=>by
 have:=R.mutk p z
 rw [n] at this
 rcases this with ⟨_,e⟩ | ⟨_,e⟩ | ⟨_,e⟩ <;> cases e
theorem Ow.new {i:Nat}{b p:Addr}(z:Ow O0 (owS ow i (some p)) b):Ow O0 ow b\/b=p:=by
 rcases z with z | ⟨j,e⟩
 ·exact .inl (.inl z)
 ·by_cases q:j=i
  ·subst q; rw [gn] at e; cases e; exact .inr rfl
  ·rw [fB q] at e; exact .inl (.inr ⟨j,e⟩)
theorem Rel.own {i:Nat}{p:Addr}{d:D}(R:Rel G O0 M0 H0 ow σ H m)(g:aK H H')(n:H p=none)(n0:H0 p=none)(h:OV G (Op (Ow O0 ow) p) H' p d)(hi:i<m.length):
  Rel G O0 M0 H0 (owS ow i (some p)) (σ.set i (some (.ref p))) H' (m.set i (.ow d)):=by
 have np:=R.Ek n
 have sub:∀b,Ow O0 (owS ow i (some p)) b->Ow O0 ow b\/H b=none:=fun b z=>z.new.elim .inl fun e=>.inr (by rw [e]; exact n)
 refine ⟨by simp [R.len],(R.mono g).keep,(R.mono g).m0,fun b z=>?_,fun j a e=>?_,fun j k a e1 e2=>?_,fun j hj=>?_,fun j s e=>?_⟩
 ·rcases z.new with z | z
  ·exact (R.mono g).mutk b z
  ·rw [z]; exact h.mut
 ·by_cases q:j=i
  ·subst q; rw [gn] at e; cases e; exact fun z=>np (.inl z)
  ·rw [fB q] at e; exact R.no0 j a e
 ·by_cases q:j=i
  ·subst q
   rw [gn] at e1
   cases e1
   by_cases q':k=j
   ·exact q'.symm
   ·rw [fB q'] at e2; exact absurd (.inr ⟨k,e2⟩) np
  ·rw [fB q] at e1
   by_cases q':k=i
   ·subst q'; rw [gn] at e2; cases e2; exact absurd (.inr ⟨j,e1⟩) np
   ·rw [fB q'] at e2; exact R.inj j k a e1 e2
 ·have hj':m.length<=j:=by simpa using hj
  rw [fB (by omega)]
  exact R.out j hj'
 ·by_cases q:j=i
  ·subst q
   rw [List.getElem?_set_self hi] at e
   cases e
   rw [gn,List.getElem?_set_self (by rw [R.len]; exact hi)]
   exact ⟨p,rfl,n0,rfl,h.bT fun b z=>.inl (z.new.elim .inl .inr)⟩
  ·rw [List.getElem?_set_ne (Ne.symm q)] at e
   rw [fB q,List.getElem?_set_ne (Ne.symm q)]
   exact ((R.slot j s e).bT sub fun _ _ b _=>Classical.em _).mono g
theorem Go.own {i:Nat}{p:Addr}(g:aK H H')(n:H p=none):Go O0 ow H (owS ow i (some p)) H':=
 ⟨.of g,fun j a e=>by
  by_cases q:j=i
  ·subst q; rw [gn] at e; cases e; exact .inr n
  ·rw [fB q] at e; exact .inl (.inr ⟨j,e⟩),(Go.refl (O0:=O0) (ow:=ow) g).dom⟩
theorem xX {i:Nat}{s:Sl}(nb:∀(j:Nat) (d:D),m[j]?≠some (Sl.bw d))(hs:∀d,s≠.bw d):∀(j:Nat) (d:D),(m.set i s)[j]?≠some (Sl.bw d):=fun j d e=>by
 by_cases q:j=i
 ·subst q
  have hj:j<m.length:=by simpa using qO e
  rw [List.getElem?_set_self hj] at e
  exact hs d (Option.some.inj e)
 ·rw [List.getElem?_set_ne (Ne.symm q)] at e
  exact nb j d e
theorem cV.mono (R:cV G O0 M0 H0 ow σ H m)(g:aK H H'):cV G O0 M0 H0 ow σ H' m:=⟨R.toRel.mono g,R.nb⟩
theorem cV.set {i:Nat}{v:V}{d:D}(R:cV G O0 M0 H0 ow σ H m)(h:DV G (Ow O0 ow) H v d):cV G O0 M0 H0 (owS ow i none) (σ.set i (some v)) H (m.set i (.fz d)):=
 ⟨R.toRel.set h,xX R.nb fun _ z=>by cases z⟩
theorem cV.own {i:Nat}{p:Addr}{d:D}(R:cV G O0 M0 H0 ow σ H m)(g:aK H H')(n:H p=none)(n0:H0 p=none)(h:OV G (Op (Ow O0 ow) p) H' p d)(hi:i<m.length):
  cV G O0 M0 H0 (owS ow i (some p)) (σ.set i (some (.ref p))) H' (m.set i (.ow d)):=⟨R.toRel.own g n n0 h hi,xX R.nb fun _ z=>by cases z⟩
noncomputable def Sl.let:Sl->Sl
 | .ow d=>.fz d
 |s=>s
noncomputable def Me.let (m:Me):Me:=m.map Sl.let
theorem cV.let (R:cV G O0 M0 H0 ow σ H m):∃ow',cV G O0 M0 H0 ow' σ H m.let/\Go O0 ow H ow' H:=by
 let ow':Os:=fun i=>match m[i]? with
  |some (.io _)=>ow i
  |some (.hd _ _ _)=>ow i
  |_=>none
 have le:∀i a,ow' i=some a->ow i=some a/\∀d,m[i]?≠some (.ow d):=fun i a e=>by
  simp only [ow'] at e
  split at e
  ·rename_i d q; exact ⟨e,fun d z=>by rw [q] at z; cases z⟩
  ·rename_i w b d q; exact ⟨e,fun d z=>by rw [q] at z; cases z⟩
  ·cases e
 have sub:∀b,Ow O0 ow' b->Ow O0 ow b\/H b=none:=fun b z=>.inl (z.elim .inl fun ⟨i,e⟩=>.inr ⟨i,(le i b e).1⟩)
 refine ⟨ow',⟨⟨by simp [Me.let,R.len],R.keep,R.m0,fun b z=>?_,fun i a e=>R.no0 i a (le i a e).1,fun i j a e1 e2=>R.inj i j a (le i a e1).1 (le j a e2).1,fun i hi=>?_,fun i s e=>?_⟩,fun j d e=>?_⟩,fun b o e n=>e,fun i a e=>.inl (.inr ⟨i,(le i a e).1⟩),fun _ n=>n⟩
 ·exact R.mutk b (z.elim .inl fun ⟨i,e⟩=>.inr ⟨i,(le i b e).1⟩)
 ·have hi':m.length<=i:=by simpa [Me.let] using hi
  simp only [ow']
  rw [List.getElem?_eq_none hi']
 ·unfold Me.let at e
  rw [List.getElem?_map] at e
  cases q:m[i]? with
  |none=>rw [q] at e; cases e
  |some s0=>
   rw [q] at e
   cases e
   have z:=R.slot i s0 q
   cases s0 with
   |un=>exact (show ow' i=none by simp only [ow',q])
   |fz d=>obtain ⟨_,x,e,h⟩:=z; exact ⟨(show ow' i=none by simp only [ow',q]),x,e,h.bT sub⟩
   |ow d=>
    obtain ⟨a,e1,e2,e3,h⟩:=z
    refine ⟨(show ow' i=none by simp only [ow',q]),.ref a,e3,(h.bT sub).dv fun w=>?_⟩
    rcases w with w | ⟨j,w⟩
    ·exact R.no0 i a e1 w
    ·obtain ⟨w1,w2⟩:=le j a w
     have:=R.inj i j a e1 w1
     subst this
     exact w2 d q
   |io d=>
    obtain ⟨a,e1,e2,e3,h⟩:=z
    exact ⟨a,(show ow' i=some a by simp only [ow',q]; exact e1),e2,e3,h.bT sub⟩
   |bw d=>exact (R.nb i d q).elim
   |hd w a d=>
    obtain ⟨e1,e2,e3,h⟩:=z
    exact ⟨(show ow' i=some a by simp only [ow',q]; exact e1),e2,e3,h.bT sub⟩
 ·unfold Me.let at e
  rw [List.getElem?_map] at e
  cases q:m[j]? with
  |none=>rw [q] at e; cases e
  |some s0=>
   rw [q] at e
   cases s0 with
   |bw d'=>exact R.nb j d' q
   |_=>cases e
end
open PySem PySem.Spec PyProof.Rows L2 Hd
noncomputable def Pu (G:Gx)(E:XK){α:Type}(r:Res α)(H:Hp)(k:α->Prop):Prop:=match r with
 | .ok a=>k a
 | .exc c=>∀C H',G.mg c=some (.ref C)->aK H H'->E (.ref C) none H'
 | .stuck=>False
theorem Pu.bind {G:Gx}{E:XK}{α β:Type}{r:Res α}{f:α->Res β}{H:Hp}{k:β->Prop}(h:Pu G E (r.bind f) H k):Pu G E r H fun a=>Pu G E (f a) H k:=by
 cases r with
 |ok a=>exact h
 |exc c=>exact h
 |stuck=>exact h
theorem Pu.imp {G:Gx}{E:XK}{α:Type}{r:Res α}{H H':Hp}{k k':α->Prop}(h:Pu G E r H k)(g:aK H H')(hk:∀a,k a->k' a):Pu G E r H' k':=by
 cases r with
 |ok a=>exact hk a h
 |exc c=>exact fun C H1 e g1=>h C H1 e (g.trans g1)
 |stuck=>exact h
theorem Pu.ofO {G:Gx}{E:XK}{α:Type}{r:Option α}{H:Hp}{k:α->Prop}(h:Pu G E (ofO r) H k):∃a,r=some a/\k a:=by
 cases r with
 |some a=>exact ⟨a,rfl,h⟩
 |none=>exact h.elim
noncomputable def tE (G:Gx)(E:XK)(f:Me->Res D):TE:=fun σ H Q=>∃O0 M0 H0 ow m,Rel G O0 M0 H0 ow σ H m/\Pu G E (f m) H fun d=>∀v H',aK H H'->DV G (Ow O0 ow) H' v d->Q v H'
noncomputable def tB (G:Gx)(E:XK)(f:Me->Res D):TE:=fun σ H Q=>∃O0 M0 H0 ow m,Rel G O0 M0 H0 ow σ H m/\Pu G E (f m) H fun d=>∀v H',aK H H'->DW G (Ow O0 ow) H' v d->Q v H'
noncomputable def tN (G:Gx)(E:XK)(f:Me->Res D):TE:=fun σ H Q=>∃O0 M0 H0 ow m,Rel G O0 M0 H0 ow σ H m/\Pu G E (f m) H fun d=>∀p H',aK H H'->H p=none->OV G (Op (Ow O0 ow) p) H' p d->Q (.ref p) H'
noncomputable def tT (G:Gx)(E:XK)(f:Me->Res Bool):TT:=fun σ H Q=>∃O0 M0 H0 ow m,Rel G O0 M0 H0 ow σ H m/\Pu G E (f m) H fun b=>∀H',aK H H'->Q b H'
noncomputable def tAE (G:Gx)(E:XK)(f:Me->Res (List D)):TA:=fun σ H Q=>∃O0 M0 H0 ow m,Rel G O0 M0 H0 ow σ H m/\Pu G E (f m) H fun ds=>∀vs H',aK H H'->DVs G (Ow O0 ow) H' vs ds->Q vs H'
noncomputable def tAB (G:Gx)(E:XK)(f:Me->Res (List D)):TA:=fun σ H Q=>∃O0 M0 H0 ow m,Rel G O0 M0 H0 ow σ H m/\Pu G E (f m) H fun ds=>∀vs H',aK H H'->DWs G (Ow O0 ow) H' vs ds->Q vs H'
noncomputable abbrev FE (X:Cx)(E:XK)(e:Expr)(f:Me->Res D):Prop:=PE X e (tE (gx X) E f)
noncomputable abbrev FB (X:Cx)(E:XK)(e:Expr)(f:Me->Res D):Prop:=PE X e (tB (gx X) E f)
noncomputable abbrev FN (X:Cx)(E:XK)(e:Expr)(f:Me->Res D):Prop:=PE X e (tN (gx X) E f)
noncomputable abbrev FT (X:Cx)(E:XK)(e:Expr)(f:Me->Res Bool):Prop:=PT X e (tT (gx X) E f)
noncomputable abbrev FW (X:Cx)(E:XK)(e:Expr)(f:Me->Res Bool):Prop:=PW X e (tT (gx X) E f)
noncomputable abbrev FAE (X:Cx)(E:XK)(es:List Expr)(f:Me->Res (List D)):Prop:=PA X es (tAE (gx X) E f)
noncomputable abbrev FAB (X:Cx)(E:XK)(es:List Expr)(f:Me->Res (List D)):Prop:=PA X es (tAB (gx X) E f)
theorem Dp {X:Cx}{e:Expr}{T T':TT}(h:PT X e T)(k:∀σ H Q,T' σ H Q->T σ H Q):PT X e T':=fun pins s σ H Q I q=>h pins s σ H Q I (k σ H Q q)
theorem Ja {X:Cx}{e:Expr}{T T':TT}(h:PW X e T)(k:∀σ H Q,T' σ H Q->T σ H Q):PW X e T':=fun wh pins s σ H Q I q=>h wh pins s σ H Q I (k σ H Q q)
theorem oM {X:Cx}{es:List Expr}{T T':TA}(h:PA X es T)(k:∀σ H Q,T' σ H Q->T σ H Q):PA X es T':=fun pos pins s σ H Q I q=>h pos pins s σ H Q I (k σ H Q q)
section
variable {X:Cx}{E:XK}{e a b c:Expr}{es:List Expr}{f fa fb fc:Me->Res D}{fs:Me->Res (List D)}{ft fu:Me->Res Bool}{pos:Pos}
theorem aq (h:FE X E e f):FB X E e f:=bx h fun _ _ _ hE=>xq5 hE fun O0 M0 H0 ow m R q=>⟨O0,M0,H0,ow,m,R,q.imp (aK.refl _) fun _ k v H' g d=>k v H' g (.inl d)⟩
theorem lg (h:FN X E e f):FE X E e f:=bx h fun _ _ _ hE=>xq5 hE fun O0 M0 H0 ow m R q=>⟨O0,M0,H0,ow,m,R,q.imp (aK.refl _) fun _ k p H' g n o=>
 k _ H' g ((o.bT fun b z=>.inl (.inl z)).dv (R.Ek n))⟩
noncomputable def aJ (i:Nat):Me->Res D:=fun m=>match m[i]? with
 |some (.fz d)=>.ok d
 |_=>.stuck
noncomputable def aa (i:Nat):Me->Res D:=fun m=>match m[i]? with
 |some (.fz d)=>.ok d
 |some (.ow d)=>.ok d
 |some (.io d)=>.ok d
 |some (.bw d)=>.ok d
 |_=>.stuck
theorem aF (i:Nat){x:Str}(hN:X.N[i]? = some x:=by rfl)(hv:Vis X.env.scope x:=by first | exact Or.inl rfl | exact Or.inr (Or.inl rfl) | exact Or.inr (Or.inr rfl))(hd:(x == ("__debug__" : Str))=false:=by decide)
  (hcd:(x == ("__classdict__" : Str))=false:=by decide):FE X E (.Name x pos) (aJ i):=bx (iZ hN hv hd hcd) fun σ H Q hE=>xq5 hE fun O0 M0 H0 ow m R q=>by
 unfold aJ at q
 cases e:m[i]? with
 |none=>rw [e] at q; exact q.elim
 |some s=>
  rw [e] at q
  cases s with
  |fz d=>
   obtain ⟨_,x,h1,h2⟩:=R.slot i _ e
   exact ⟨x,h1,q x H (aK.refl _) h2⟩
  |_=>exact q.elim
theorem ao (i:Nat){x:Str}(hN:X.N[i]? = some x:=by rfl)(hv:Vis X.env.scope x:=by first | exact Or.inl rfl | exact Or.inr (Or.inl rfl) | exact Or.inr (Or.inr rfl))(hd:(x == ("__debug__" : Str))=false:=by decide)
  (hcd:(x == ("__classdict__" : Str))=false:=by decide):FB X E (.Name x pos) (aa i):=bx (iZ hN hv hd hcd) fun σ H Q hE=>xq5 hE fun O0 M0 H0 ow m R q=>by
 unfold aa at q
 cases e:m[i]? with
 |none=>rw [e] at q; exact q.elim
 |some s=>
  rw [e] at q
  cases s with
  |fz d=>
   obtain ⟨_,x,h1,h2⟩:=R.slot i _ e
   exact ⟨x,h1,q x H (aK.refl _) (.inl h2)⟩
  |bw d=>
   obtain ⟨_,x,h1,h2⟩:=R.slot i _ e
   exact ⟨x,h1,q x H (aK.refl _) h2⟩
  |ow d=>
   obtain ⟨a,h1,h2,h3,h4⟩:=R.slot i _ e
   exact ⟨_,h3,q _ H (aK.refl _) (.inr ⟨a,rfl,.inr ⟨i,h1⟩,h4⟩)⟩
  |io d=>
   obtain ⟨a,h1,h2,h3,h4⟩:=R.slot i _ e
   exact ⟨_,h3,q _ H (aK.refl _) (.inr ⟨a,rfl,.inr ⟨i,h1⟩,h4⟩)⟩
  |un=>exact q.elim
  |hd _ _ _=>exact q.elim
noncomputable def fC (d:D):Me->Res D:=fun _=>.ok d
theorem T4 {d:D}{v:V}(h:PE X e (tC v))(hd:∀O H,DV (gx X) O H v d):FE X E e (fC d):=bx h fun σ H Q hE=>xq5 hE fun O0 M0 H0 ow m R q=>q v H (aK.refl _) (hd _ _)
theorem aC {i j pos}:FE X E (.Constant (.int i) j pos) (fC (.int i)):=T4 U3 fun _ _=>.int i
theorem rB {b j pos}:FE X E (.Constant (.bool b) j pos) (fC (.bl b)):=T4 Yu fun _ _=>.bl b
theorem bF {x j pos}:FE X E (.Constant (.str x) j pos) (fC (.str x)):=T4 VR fun _ _=>.str x
theorem oG {x:Str}{v:V}{u:Value}{d:D}(hg:Gl X x)(hm:X.mg x=some u)(r:RelV v u)(hd:∀O H,DV (gx X) O H v d)(hdb:(x == ("__debug__" : Str))=false:=by decide):FE X E (.Name x pos) (fC d):=T4 (T3 hg hm r hdb) hd
noncomputable def rG (G:Gx)(g:D->D->Option D):R2:=fun x y H Q=>∃O d e r,(∀b,O b->fO (H b))/\DW G O H x d/\DW G O H y e/\g d e=some r/\∀v H',aK H H'->DV G O H' v r->Q v H'
noncomputable def rGB (G:Gx)(g:D->D->Option Bool):R2:=fun x y H Q=>∃O d e r,(∀b,O b->fO (H b))/\DW G O H x d/\DW G O H y e/\g d e=some r/\Q (.bl r) H
noncomputable def rG1 (G:Gx)(g:D->Option D):V->Hp->VK->Prop:=fun x H Q=>∃O d r,(∀b,O b->fO (H b))/\DW G O H x d/\g d=some r/\∀v H',aK H H'->DV G O H' v r->Q v H'
noncomputable def rGC (G:Gx)(g:List D->Option D):List V->Hp->VK->Prop:=fun xs H Q=>∃O ds r,(∀b,O b->fO (H b))/\DWs G O H xs ds/\g ds=some r/\∀v H',aK H H'->DV G O H' v r->Q v H'
noncomputable def Vl (G:Gx)(g:List D->Option D):List V->Hp->VK->Prop:=fun xs H Q=>∃O ds r,(∀b,O b->fO (H b))/\DWs G O H xs ds/\g ds=some r/\∀p H',aK H H'->H p=none->OV G (Op O p) H' p r->Q (.ref p) H'
noncomputable def rGM (G:Gx)(g:D->List D->Option D):V->List V->Hp->VK->Prop:=fun x xs H Q=>∃O d ds r,(∀b,O b->fO (H b))/\DW G O H x d/\DWs G O H xs ds/\g d ds=some r/\∀v H',aK H H'->DV G O H' v r->Q v H'
noncomputable def au (g:D->D->Option D)(fa fb:Me->Res D):Me->Res D:=fun m=>(fa m).bind fun x=>(fb m).bind fun y=>ofO (g x y)
noncomputable def rZ (g:D->D->Option Bool)(fa fb:Me->Res D):Me->Res D:=fun m=>(fa m).bind fun x=>(fb m).bind fun y=>ofO ((g x y).map D.bl)
noncomputable def aM (g:D->D->Option Bool)(fa fb:Me->Res D):Me->Res Bool:=fun m=>(fa m).bind fun x=>(fb m).bind fun y=>ofO (g x y)
noncomputable def fUn (g:D->Option D)(fa:Me->Res D):Me->Res D:=fun m=>(fa m).bind fun x=>ofO (g x)
theorem two {G:Gx}{σ:L2.St}{H:Hp}{Q:VK}{r:R2}{O0 M0:Addr->Prop}{H0:Hp}{ow:Os}{m:Me}{β:Type}{g:D->D->Res β}{K:β->Hp->Prop}(R:Rel G O0 M0 H0 ow σ H m)(h:Pu G E ((fa m).bind fun x=>(fb m).bind fun y=>g x y) H fun z=>K z H)
  (hm:∀z H',K z H->aK H H'->K z H')
  (k:∀x y d e H',aK H H'->DW G (Ow O0 ow) H' x d->DW G (Ow O0 ow) H' y e->Pu G E (g d e) H' (fun z=>K z H')->Rel G O0 M0 H0 ow σ H' m->r x y H' Q):tOp r (tB G E fa) (tB G E fb) σ H Q:=by
 refine ⟨O0,M0,H0,ow,m,R,h.bind.imp (aK.refl _) fun d q x H1 g1 hx=>⟨O0,M0,H0,ow,m,R.mono g1,q.bind.imp g1 fun e q2 y H2 g2 hy=>?_⟩⟩
 exact k x y d e H2 (g1.trans g2) (hx.mono g2) hy (q2.imp (g1.trans g2) fun z kz=>hm z _ kz (g1.trans g2)) (R.mono (g1.trans g2))
theorem aG {g:D->D->Option D}{op:Operator}(ho:OpR X (binaryOp op) (rG (gx X) g))(ha:FB X E a fa)(hb:FB X E b fb):FE X E (.BinOp a op b pos) (au g fa fb):=
 bx (Xy ho ha hb) fun σ H Q hE=>xq5 hE fun O0 M0 H0 ow m R q=>two R (K:=fun z H=>∀v H',aK H H'->DV (gx X) (Ow O0 ow) H' v z->Q v H') q (fun _ _ k g v H' g' d=>k v H' (g.trans g') d) fun x y d e H' g hx hy q' R'=>by
  obtain ⟨r,hr,k⟩:=q'.ofO
  exact ⟨_,d,e,r,R'.mutk,hx,hy,hr,k⟩
theorem iG {g:D->D->Option D}(ho:IxR X (rG (gx X) g))(ha:FB X E a fa)(hb:FB X E b fb)(hs:Jp b):FE X E (.Subscript a b pos) (au g fa fb):=
 bx (Yw ho ha hb hs) fun σ H Q hE=>xq5 hE fun O0 M0 H0 ow m R q=>two R (K:=fun z H=>∀v H',aK H H'->DV (gx X) (Ow O0 ow) H' v z->Q v H') q (fun _ _ k g v H' g' d=>k v H' (g.trans g') d) fun x y d e H' g hx hy q' R'=>by
  obtain ⟨r,hr,k⟩:=q'.ofO
  exact ⟨_,d,e,r,R'.mutk,hx,hy,hr,k⟩
theorem omap {α β:Type}{o:Option α}{f:α->β}{r:β}(h:o.map f=some r):∃a,o=some a/\f a=r:=by
 cases o with
 |none=>cases h
 |some a=>exact ⟨a,rfl,Option.some.inj h⟩
theorem tZ {g:D->D->Option Bool}{op:CmpOp}(ho:OpR X (compareOp op) (rGB (gx X) g))(ha:FB X E a fa)(hb:FB X E b fb)(hm:behindInMarks op b=false):FE X E (.Compare a [op] [b] pos) (rZ g fa fb):=
 bx (TF ho ha hb hm) fun σ H Q hE=>xq5 hE fun O0 M0 H0 ow m R q=>two R (K:=fun z H=>∀v H',aK H H'->DV (gx X) (Ow O0 ow) H' v z->Q v H') q (fun _ _ k g v H' g' d=>k v H' (g.trans g') d) fun x y d e H' g hx hy q' R'=>by
  obtain ⟨r,hr,k⟩:=q'.ofO
  obtain ⟨c,hc,rfl⟩:=omap hr
  exact ⟨_,d,e,c,R'.mutk,hx,hy,hc,k _ _ (aK.refl _) (.bl c)⟩
theorem bO {g:D->D->Option Bool}{op:CmpOp}(ho:OpR X (compareOp op) (rGB (gx X) g))(ha:FB X E a fa)(hb:FB X E b fb)(hm:behindInMarks op b=false):FT X E (.Compare a [op] [b] pos) (aM g fa fb):=
 Dp (Sw ho ha hb hm) fun σ H Q hE=>xq5 hE fun O0 M0 H0 ow m R q=>two R (K:=fun z H=>∀H',aK H H'->Q z H') q (fun _ _ k g H' g'=>k H' (g.trans g')) fun x y d e H' g hx hy q' R'=>by
  obtain ⟨c,hc,k⟩:=q'.ofO
  exact ⟨_,d,e,c,R'.mutk,hx,hy,hc,c,rfl,k _ (aK.refl _)⟩
theorem Ai {g:D->Option D}{op:UnaryOp}(ho:UnR X (unaryOp op) (rG1 (gx X) g))(ha:FB X E a fa):FE X E (.UnaryOp op a pos) (fUn g fa):=
 bx (Xl ho ha) fun σ H Q hE=>xq5 hE fun O0 M0 H0 ow m R q=>⟨O0,M0,H0,ow,m,R,q.bind.imp (aK.refl _) fun d q x H1 g1 hx=>by
  obtain ⟨r,hr,k⟩:=q.ofO
  exact ⟨_,d,r,(R.mono g1).mutk,hx,hr,fun v H' g d=>k v H' (g1.trans g) d⟩⟩
noncomputable def fTv (fa:Me->Res D):Me->Res Bool:=fun m=>(fa m).bind fun x=>match x with
 | .bl b=>.ok b
 |_=>.stuck
theorem iy (h:FE X E e f)(he:∀whole,isTrue e X.env whole=(do let v ← whole; standAt e.pos; holding [v] (truthy v)):=by intro _; rfl):FT X E e (fTv f):=
 Dp (U7 h he) fun σ H Q hE=>xq5 hE fun O0 M0 H0 ow m R q=>⟨O0,M0,H0,ow,m,R,q.bind.imp (aK.refl _) fun d q v H' g hv=>by
  cases d with
  |bl b=>cases hv; exact ⟨b,rfl,q H' g⟩
  |_=>exact q.elim⟩
noncomputable def jE (ft:Me->Res Bool):Me->Res Bool:=fun m=>(ft m).bind fun c=>.ok (!c)
noncomputable def mF (ft fu:Me->Res Bool):Me->Res Bool:=fun m=>(ft m).bind fun c=>if c then fu m else .ok false
noncomputable def nU (ft fu:Me->Res Bool):Me->Res Bool:=fun m=>(ft m).bind fun c=>if c then .ok true else fu m
theorem lD (h:FT X E a ft):FT X E (.UnaryOp .Not a pos) (jE ft):=Dp (U4 h) fun σ H Q hE=>xq5 hE fun O0 M0 H0 ow m R q=>⟨O0,M0,H0,ow,m,R,q.bind.imp (aK.refl _) fun b q H' g=>q H' g⟩
theorem Ck (h:FT X E a ft):FW X E (.BoolOp .And [a] pos) ft:=Sg h
theorem vD (h:FT X E a ft):FW X E (.BoolOp .Or [a] pos) ft:=Vv h
theorem HH (ha:FT X E a ft)(hb:FW X E (.BoolOp .And (b::es) pos) fu):FW X E (.BoolOp .And (a::b::es) pos) (mF ft fu):=
 Ja (Vx ha hb) fun σ H Q hE=>xq5 hE fun O0 M0 H0 ow m R q=>⟨O0,M0,H0,ow,m,R,q.bind.imp (aK.refl _) fun b q H' g=>by
  cases b with
  |true=>rw [if_pos rfl] at q ⊢; exact ⟨O0,M0,H0,ow,m,R.mono g,q.imp g fun _ k H1 g1=>k H1 (g.trans g1)⟩
  |false=>rw [if_neg Bool.false_ne_true] at q ⊢; exact q H' g⟩
theorem qH (ha:FT X E a ft)(hb:FW X E (.BoolOp .Or (b::es) pos) fu):FW X E (.BoolOp .Or (a::b::es) pos) (nU ft fu):=
 Ja (Yx ha hb) fun σ H Q hE=>xq5 hE fun O0 M0 H0 ow m R q=>⟨O0,M0,H0,ow,m,R,q.bind.imp (aK.refl _) fun b q H' g=>by
  cases b with
  |false=>rw [if_neg Bool.false_ne_true] at q ⊢; exact ⟨O0,M0,H0,ow,m,R.mono g,q.imp g fun _ k H1 g1=>k H1 (g.trans g1)⟩
  |true=>rw [if_pos rfl] at q ⊢; exact q H' g⟩
theorem Bj (h:FW X E e ft):FT X E e ft:=L2.PW.pt h
noncomputable def Wx (fa fb:Me->Res D):Me->Res D:=fun m=>(fTv fa m).bind fun c=>if c then fb m else .ok (.bl false)
noncomputable def fOr (fa fb:Me->Res D):Me->Res D:=fun m=>(fTv fa m).bind fun c=>if c then .ok (.bl true) else fb m
theorem Nt {G:Gx}{O:Addr->Prop}{m:Me}{H:Hp}{k:Bool->Prop}(h:Pu G E (fTv fa m) H k):Pu G E (fa m) H fun d=>∃b,d=.bl b/\k b:=by
 refine h.bind.imp (aK.refl _) fun d q=>?_
 cases d with
 |bl b=>exact ⟨b,rfl,q⟩
 |_=>exact q.elim
theorem Mw {op}(h:FE X E a fa):FE X E (.BoolOp op [a] pos) fa:=Wn h
theorem Vs (ha:FE X E a fa)(hb:FE X E (.BoolOp .And (b::es) pos) fb):FE X E (.BoolOp .And (a::b::es) pos) (Wx fa fb):=
 bx (Vk ha hb) fun σ H Q hE=>xq5 hE fun O0 M0 H0 ow m R q=>⟨O0,M0,H0,ow,m,R,(Nt (O:=O0) q.bind).imp (aK.refl _) fun d ⟨b,e,q⟩ v H' g hv=>by
  subst e
  cases hv
  refine ⟨b,rfl,?_⟩
  cases b with
  |true=>rw [if_pos rfl] at q ⊢; exact ⟨O0,M0,H0,ow,m,R.mono g,q.imp g fun _ k v H1 g1=>k v H1 (g.trans g1)⟩
  |false=>rw [if_neg Bool.false_ne_true] at q ⊢; exact q _ H' g (.bl false)⟩
theorem X5 (ha:FE X E a fa)(hb:FE X E (.BoolOp .Or (b::es) pos) fb):FE X E (.BoolOp .Or (a::b::es) pos) (fOr fa fb):=
 bx (XX ha hb) fun σ H Q hE=>xq5 hE fun O0 M0 H0 ow m R q=>⟨O0,M0,H0,ow,m,R,(Nt (O:=O0) q.bind).imp (aK.refl _) fun d ⟨b,e,q⟩ v H' g hv=>by
  subst e
  cases hv
  refine ⟨b,rfl,?_⟩
  cases b with
  |false=>rw [if_neg Bool.false_ne_true] at q ⊢; exact ⟨O0,M0,H0,ow,m,R.mono g,q.imp g fun _ k v H1 g1=>k v H1 (g.trans g1)⟩
  |true=>rw [if_pos rfl] at q ⊢; exact q _ H' g (.bl true)⟩
noncomputable def aB:Me->Res (List D):=fun _=>.ok []
noncomputable def aj (fa:Me->Res D)(fs:Me->Res (List D)):Me->Res (List D):=fun m=>(fa m).bind fun x=>(fs m).bind fun xs=>.ok (x::xs)
theorem aA:FAE X E [] aB:=oM qQ fun σ H Q hE=>xq5 hE fun O0 M0 H0 ow m R q=>q [] H (aK.refl _) .nil
theorem aY:FAB X E [] aB:=oM qQ fun σ H Q hE=>xq5 hE fun O0 M0 H0 ow m R q=>q [] H (aK.refl _) .nil
theorem ak (ha:FE X E e fa)(hr:FAE X E es fs)(hs:starEach (e::es) X.env=(false,eval e X.env)::starEach es X.env:=by rfl):FAE X E (e::es) (aj fa fs):=
 oM (jY ha hr hs) fun σ H Q hE=>xq5 hE fun O0 M0 H0 ow m R q=>⟨O0,M0,H0,ow,m,R,q.bind.imp (aK.refl _) fun d q v H1 g1 hv=>⟨O0,M0,H0,ow,m,R.mono g1,q.bind.imp g1 fun ds q vs H2 g2 hvs=>q _ H2 (g1.trans g2) (.cons (hv.mono g2) hvs)⟩⟩
theorem aO (ha:FB X E e fa)(hr:FAB X E es fs)(hs:starEach (e::es) X.env=(false,eval e X.env)::starEach es X.env:=by rfl):FAB X E (e::es) (aj fa fs):=
 oM (jY ha hr hs) fun σ H Q hE=>xq5 hE fun O0 M0 H0 ow m R q=>⟨O0,M0,H0,ow,m,R,q.bind.imp (aK.refl _) fun d q v H1 g1 hv=>⟨O0,M0,H0,ow,m,R.mono g1,q.bind.imp g1 fun ds q vs H2 g2 hvs=>q _ H2 (g1.trans g2) (.cons (hv.mono g2) hvs)⟩⟩
noncomputable def bz (fs:Me->Res (List D)):Me->Res D:=fun m=>(fs m).bind fun ds=>if ds.length<=sizeLine then .ok (.tup ds) else .stuck
noncomputable def fV (fs:Me->Res (List D)):Me->Res D:=fun m=>(fs m).bind fun ds=>if ds.length<=sizeLine then .ok (.lst ds) else .stuck
theorem yW {G:Gx}{α:Type}{c:Prop}[Decidable c]{r:α}{H:Hp}{k:α->Prop}(h:Pu G E (if c then .ok r else .stuck) H k):c/\k r:=by
 by_cases z:c
 ·rw [if_pos z] at h; exact ⟨z,h⟩
 ·rw [if_neg z] at h; exact h.elim
theorem bj {x1}(h:FAE X E es fs):FE X E (.Tuple es x1 pos) (bz fs):=bx (J6 h) fun σ H Q hE=>xq5 hE fun O0 M0 H0 ow m R q=>⟨O0,M0,H0,ow,m,R,q.bind.imp (aK.refl _) fun ds q vs H1 g1 hv=>by
 obtain ⟨hz,k⟩:=yW q
 exact ⟨by rw [bN hv]; exact hz,fun p H' g e=>k _ H' (g1.trans g) (.tup (SqU.of e) (hv.mono g))⟩⟩
theorem fU (h:FAE X E es fs):FN X E (.List es pos) (fV fs):=bx (Wo (Um h)) fun σ H Q hE=>xq5 hE fun O0 M0 H0 ow m R q=>⟨fun vs H1=>aK H H1/\∃ds,DVs (gx X) (Ow O0 ow) H1 vs ds/\ds.length<=sizeLine/\∀p H',aK H H'->H p=none->OV (gx X) (Op (Ow O0 ow) p) H' p (.lst ds)->Q (.ref p) H',⟨O0,M0,H0,ow,m,R,q.bind.imp (aK.refl _) fun ds q vs H1 g1 hv=>⟨g1,ds,hv,yW q⟩⟩,fun vs H1 ⟨g1,ds,hv,hz,k⟩=>
 ⟨by rw [bN hv]; exact hz,fun p hp=>k p _ (g1.trans (bJ hp _)) (g1.free hp) ⟨vs,aZ,(hv.bT fun b z=>z.elim .inl fun e=>.inr (by rw [e]; exact hp)).mono (bJ hp _)⟩⟩⟩
noncomputable def aQ (g:List D->Option D)(fs:Me->Res (List D)):Me->Res D:=fun m=>(fs m).bind fun ds=>ofO (g ds)
theorem Il {g:List D->Option D}{σ:L2.St}{H:Hp}{Q:VK}(h:tE (gx X) E (aQ g fs) σ H Q):tCB (rGC (gx X) g) (tAB (gx X) E fs) σ H Q:=by
 obtain ⟨O0,M0,H0,ow,m,R,q⟩:=h
 refine ⟨O0,M0,H0,ow,m,R,q.bind.imp (aK.refl _) fun ds q vs H1 g1 hv=>?_⟩
 obtain ⟨r,hr,k⟩:=q.ofO
 exact ⟨_,ds,r,(R.mono g1).mutk,hv,hr,fun v H' g d=>k v H' (g1.trans g) d⟩
theorem Nv {g:List D->Option D}{σ:L2.St}{H:Hp}{Q:VK}(h:tN (gx X) E (aQ g fs) σ H Q):tCB (Vl (gx X) g) (tAB (gx X) E fs) σ H Q:=by
 obtain ⟨O0,M0,H0,ow,m,R,q⟩:=h
 refine ⟨O0,M0,H0,ow,m,R,q.bind.imp (aK.refl _) fun ds q vs H1 g1 hv=>?_⟩
 obtain ⟨r,hr,k⟩:=q.ofO
 exact ⟨_,ds,r,(R.mono g1).mutk,hv,hr,fun p H' g n d=>k p H' (g1.trans g) (g1.free n) d⟩
section
variable {x:Str}{p:Pos}{id T:String}{g:List D->Option D}
theorem cu (hc:jD X (.builtin id) (rGC (gx X) g))(hg:Gl X x)(hm:X.mg x=none)(hv:bootBuiltins x=some (.builtin id))(ha:FAB X E (e::es) fs)(hn:x≠"__name__":=by decide)(hdb:(x == ("__debug__" : Str))=false:=by decide)
  (he:starEach (e::es) X.env=(false,eval e X.env)::starEach es X.env:=by rfl) (hpl:(backTo pos (starEach es X.env)).any (·.1)=false:=by rfl):FE X E (.Call (.Name x p) (e::es) [] pos) (aQ g fs):=
 bx (DN hc hg hm hv ha hn hdb he hpl) fun _ _ _ h=>Il h
theorem pR (hc:jD X (.type T) (rGC (gx X) g))(hg:Gl X x)(hm:X.mg x=none)(hv:bootBuiltins x=some (.type T))(ha:FAB X E (e::es) fs)(hn:x≠"__name__":=by decide)(hdb:(x == ("__debug__" : Str))=false:=by decide)
  (he:starEach (e::es) X.env=(false,eval e X.env)::starEach es X.env:=by rfl) (hpl:(backTo pos (starEach es X.env)).any (·.1)=false:=by rfl):FE X E (.Call (.Name x p) (e::es) [] pos) (aQ g fs):=
 bx (vG hc hg hm hv ha hn hdb he hpl) fun _ _ _ h=>Il h
theorem zZ (hc:jD X (.type T) (Vl (gx X) g))(hg:Gl X x)(hm:X.mg x=none)(hv:bootBuiltins x=some (.type T))(ha:FAB X E (e::es) fs)(hn:x≠"__name__":=by decide)(hdb:(x == ("__debug__" : Str))=false:=by decide)
  (he:starEach (e::es) X.env=(false,eval e X.env)::starEach es X.env:=by rfl) (hpl:(backTo pos (starEach es X.env)).any (·.1)=false:=by rfl):FN X E (.Call (.Name x p) (e::es) [] pos) (aQ g fs):=
 bx (vG hc hg hm hv ha hn hdb he hpl) fun _ _ _ h=>Nv h
end
noncomputable def tyD:String->D->Bool
 | "str",.str _=>true
 | "list",.lst _=>true
 | "dict",.dct _ _=>true
 | "dict",.dcu _ _=>true
 |_,_=>false
theorem XS {G:Gx}{O:Addr->Prop}{H:Hp}{v:V}{d:D}{T:String}(h:DW G O H v d)(t:tyD T d=true):tyV G.K T v H:=by
 unfold tyD at t
 split at t
 ·cases lC h; rfl
 ·obtain ⟨a,xs,rfl,hx,_⟩:=iY h; exact .inl ⟨rfl,xs,hx⟩
 ·obtain ⟨a,kvs,vs,rfl,hx,_⟩:=Gk h; exact .inr (.inr (.inl ⟨rfl,.inl ⟨kvs,hx⟩⟩))
 ·obtain ⟨a,kvs,vs,rfl,hx,_⟩:=Oi h; exact .inr (.inr (.inl ⟨rfl,.inr ⟨_,kvs,.inl hx⟩⟩))
 ·cases t
noncomputable def J0 (T:String)(g:D->List D->Option D)(fo:Me->Res D)(fs:Me->Res (List D)):Me->Res D:=fun m=>(fo m).bind fun d=>if tyD T d=true then (fs m).bind fun ds=>ofO (g d ds) else .stuck
theorem Cq {G:Gx}{α:Type}{c:Prop}[Decidable c]{r:Res α}{H:Hp}{k:α->Prop}(h:Pu G E (if c then r else .stuck) H k):c/\Pu G E r H k:=by
 by_cases z:c
 ·rw [if_pos z] at h; exact ⟨z,h⟩
 ·rw [if_neg z] at h; exact h.elim
section
variable {o:Expr}{name:Str}{apos cpos:Pos}{T id:String}{g:D->List D->Option D}
theorem Xe (pa:PlainAttrs T)(slot:Slot T name id)(hty:typeOf (.builtin id)=pure (.type "method_descriptor"))(hm:MtR X id (rGM (gx X) g))(ho:FB X E o fa)(ha:FAB X E (e::es) fs)
  (hbase:attributeBase o name X.env (eval o X.env)=eval o X.env:=by rfl)
  (hfew:((backTo cpos (starEach (e::es) X.env)).all (fun x=>!x.1) && (backToKw cpos (keywordEach [] X.env)).all (fun x=>x.1.isSome)
   && decide ((e::es).length+([]:List Keyword).length+(if ([]:List Keyword).isEmpty then 0 else 1)<30))=true:=by rfl)
  (hline:(apos.endLine == cpos.line)=true:=by rfl) (hs:starEach (e::es) X.env=(false,eval e X.env)::starEach es X.env:=by rfl) (hplain:(backTo cpos (starEach es X.env)).any (·.1)=false:=by rfl):
  FE X E (.Call (.Attribute o name apos) (e::es) [] cpos) (J0 T g fa fs):=
 bx (Jr pa slot hty hm ho ha hbase hfew hline hs hplain) fun σ H Q hE=>xq5 hE fun O0 M0 H0 ow m R q=>⟨O0,M0,H0,ow,m,R,q.bind.imp (aK.refl _) fun d q v H1 g1 hv=>by
  obtain ⟨t,q⟩:=Cq q
  refine ⟨XS hv t,O0,M0,H0,ow,m,R.mono g1,q.bind.imp g1 fun ds q vs H2 g2 hvs=>?_⟩
  obtain ⟨r,hr,k⟩:=q.ofO
  exact ⟨_,d,ds,r,(R.mono (g1.trans g2)).mutk,hv.mono g2,hvs,hr,fun v H' g d=>k v H' ((g1.trans g2).trans g) d⟩⟩
end
end
open PySem PySem.Spec PyProof.Rows L2 Hd
inductive Fl where
 |nx | bk | ct | rt (fr:Bool) (d:D)
noncomputable def Fr (G:Gx)(O:Addr->Prop)(H0:Hp)(v:V)(H':Hp)(d:D):Prop:=∃p,v=.ref p/\H0 p=none/\OV G (Op O p) H' p d
noncomputable def Ss (G:Gx)(E:XK)(O0 M0:Addr->Prop)(H0:Hp)(ow:Os)(H:Hp)(W:Ends)(r:Res (Fl×Me)):Prop:=match r with
 | .ok (.nx,m')=>∀ow' σ' H',cV G O0 M0 H0 ow' σ' H' m'->Go O0 ow H ow' H'->W.nx σ' H'
 | .ok (.bk,m')=>∀ow' σ' H',cV G O0 M0 H0 ow' σ' H' m'->Go O0 ow H ow' H'->W.bk σ' H'
 | .ok (.ct,m')=>∀ow' σ' H',cV G O0 M0 H0 ow' σ' H' m'->Go O0 ow H ow' H'->W.ct σ' H'
 | .ok (.rt fr d,m')=>∀v ow' σ' H',cV G O0 M0 H0 ow' σ' H' m'->Go O0 ow H ow' H'->DV G (Ow O0 ow') H' v d->(fr=true->Fr G (Ow O0 ow') H0 v H' d)->W.rt v H'
 | .exc c=>∀C H',G.mg c=some (.ref C)->Kp M0 H0 H'->E (.ref C) none H'
 | .stuck=>False
noncomputable def tS (G:Gx)(E:XK)(g:Me->Res (Fl×Me)):TS:=fun W σ H=>∃O0 M0 H0 ow m,cV G O0 M0 H0 ow σ H m/\Ss G E O0 M0 H0 ow H W (g m)
noncomputable abbrev FS (X:Cx)(E:XK)(st:Stmt)(g:Me->Res (Fl×Me)):Prop:=PS X st (tS (gx X) E g)
noncomputable abbrev FSs (X:Cx)(E:XK)(st:List Stmt)(g:Me->Res (Fl×Me)):Prop:=PSs X st (tS (gx X) E g)
theorem cF {X:Cx}{st:Stmt}{T T':TS}(h:PS X st T)(k:∀W σ H,T' W σ H->T W σ H):PS X st T':=fun pins s σ H W I q=>h pins s σ H W I (k W σ H q)
theorem uF {X:Cx}{st:List Stmt}{T T':TS}(h:PSs X st T)(k:∀W σ H,T' W σ H->T W σ H):PSs X st T':=fun pins s σ H W I q=>h pins s σ H W I (k W σ H q)
section
variable {G:Gx}{E:XK}{O0 M0:Addr->Prop}{H0 H H':Hp}{ow ow':Os}{σ:L2.St}{m:Me}{W:Ends}{r:Res (Fl×Me)}
theorem Ss.pu {α:Type}{x:Res α}{k:α->Res (Fl×Me)}(R:Rel G O0 M0 H0 ow σ H m)(h:Ss G E O0 M0 H0 ow H W (x.bind k)):Pu G E x H fun a=>Ss G E O0 M0 H0 ow H W (k a):=by
 cases x with
 |ok a=>exact h
 |exc c=>exact fun C H' e g=>h C H' e fun b o e n=>g b o (R.keep b o e n)
 |stuck=>exact h
theorem Ss.go (h:Ss G E O0 M0 H0 ow H W r)(g:Go O0 ow H ow' H'):Ss G E O0 M0 H0 ow' H' W r:=by
 cases r with
 |ok a=>
  obtain ⟨f,m'⟩:=a
  cases f with
  |nx=>exact fun ow1 σ1 H1 R g1=>h ow1 σ1 H1 R (g.trans g1)
  |bk=>exact fun ow1 σ1 H1 R g1=>h ow1 σ1 H1 R (g.trans g1)
  |ct=>exact fun ow1 σ1 H1 R g1=>h ow1 σ1 H1 R (g.trans g1)
  |rt fr d=>exact fun v ow1 σ1 H1 R g1=>h v ow1 σ1 H1 R (g.trans g1)
 |exc c=>exact h
 |stuck=>exact h
theorem Ss.ofO {α:Type}{x:Option α}{k:α->Res (Fl×Me)}(h:Ss G E O0 M0 H0 ow H W ((ofO x).bind k)):∃a,x=some a/\Ss G E O0 M0 H0 ow H W (k a):=by
 cases x with
 |some a=>exact ⟨a,rfl,h⟩
 |none=>exact h.elim
end
noncomputable def gNx:Me->Res (Fl×Me):=fun m=>.ok (.nx,m)
noncomputable def aL (g k:Me->Res (Fl×Me)):Me->Res (Fl×Me):=fun m=>match g m with
 | .ok (.nx,m')=>k m'
 |r=>r
noncomputable def bC (i:Nat)(f:Me->Res D):Me->Res (Fl×Me):=fun m=>(f m).bind fun d=>.ok (.nx,m.set i (.fz d))
noncomputable def eX (i:Nat)(f:Me->Res D):Me->Res (Fl×Me):=fun m=>(f m).bind fun d=>if i<m.length then .ok (.nx,m.set i (.ow d)) else .stuck
noncomputable def gEx (f:Me->Res D):Me->Res (Fl×Me):=fun m=>(f m).bind fun _=>.ok (.nx,m)
noncomputable def bU (f:Me->Res D):Me->Res (Fl×Me):=fun m=>(f m.let).bind fun d=>.ok (.rt false d,m.let)
noncomputable def iV (f:Me->Res D):Me->Res (Fl×Me):=fun m=>(f m.let).bind fun d=>.ok (.rt true d,m.let)
noncomputable def qF (i:Nat):Me->Res (Fl×Me):=fun m=>match m[i]? with
 |some (.ow d)=>.ok (.rt true d,m.let)
 |some (.fz d)=>.ok (.rt false d,m.let)
 |_=>.stuck
noncomputable def gIf (t:Me->Res Bool)(g k:Me->Res (Fl×Me)):Me->Res (Fl×Me):=fun m=>(t m).bind fun c=>if c then g m else k m
noncomputable def Ni (i:Nat)(k:Me->Res (Fl×Me)):Me->Res (Fl×Me):=fun m=>match m[i]? with
 |some (.ow d)=>k (m.set i (.fz d))
 |_=>k m
section
variable {X:Cx}{E:XK}{e c:Expr}{es:List Expr}{st:Stmt}{rest sa sb:List Stmt}{f:Me->Res D}{ft:Me->Res Bool}{g k ga gb:Me->Res (Fl×Me)}{pos pos':Pos}{i:Nat}{x:Str}
theorem bA:FSs X E [] gNx:=uF SN fun W σ H hE=>xq5 hE fun O0 M0 H0 ow m R q=>q ow σ H R (Go.refl (aK.refl _))
theorem WR {G:Gx}{W:Ends}{σ:L2.St}{H:Hp}(h:tS G E (aL g k) W σ H):Yd (tS G E g) (tS G E k) W σ H:=by
 obtain ⟨O0,M0,H0,ow,m,R,q⟩:=h
 refine ⟨O0,M0,H0,ow,m,R,?_⟩
 unfold aL at q
 cases z:g m with
 |ok a=>
  obtain ⟨f,m'⟩:=a
  rw [z] at q
  cases f with
  |nx=>exact fun ow' σ' H' R' g'=>⟨O0,M0,H0,ow',m',R',Ss.go q g'⟩
  |bk=>exact q
  |ct=>exact q
  |rt fr d=>exact q
 |exc c=>rw [z] at q; exact q
 |stuck=>rw [z] at q; exact q
theorem az (h1:FS X E st g)(h2:FSs X E rest k):FSs X E (st::rest) (aL g k):=uF (DX h1 h2) fun W σ H h=>WR h
theorem aD (h1:FS X E st g):FSs X E [st] g:=RQ h1
theorem Rf (i:Nat)(h:FSs X E rest k):FSs X E rest (Ni i k):=uF h fun W σ H hE=>xq5 hE fun O0 M0 H0 ow m R q=>by
 unfold Ni at q
 cases z:m[i]? with
 |none=>rw [z] at q; exact ⟨O0,M0,H0,ow,m,R,q⟩
 |some s=>
  rw [z] at q
  cases s with
  |ow d=>
   obtain ⟨a,h1,h2,h3,h4⟩:=R.slot i _ z
   have na:¬Ow O0 (owS ow i none) a:=fun w=>by
    rcases w with w | ⟨j,w⟩
    ·exact R.no0 i a h1 w
    ·by_cases e:j=i
     ·subst e; rw [gn] at w; cases w
     ·rw [fB e] at w; exact e (R.inj j i a w h1)
   have sub:∀b,Ow O0 (owS ow i none) b->Ow O0 ow b\/H b=none:=fun b z=>.inl z.sub
   have hi:=qO z
   have R2:cV (gx X) O0 M0 H0 (owS ow i none) σ H (m.set i (.fz d)):=by
    refine ⟨⟨by simp [R.len],R.keep,R.m0,fun b z=>R.mutk b z.sub,fun j b e=>?_,fun j k b e1 e2=>?_,fun j hj=>?_,fun j s e=>?_⟩,xX R.nb fun _ z=>by cases z⟩
    ·by_cases q:j=i
     ·subst q; rw [gn] at e; cases e
     ·rw [fB q] at e; exact R.no0 j b e
    ·by_cases q:j=i
     ·subst q; rw [gn] at e1; cases e1
     ·by_cases q':k=i
      ·subst q'; rw [gn] at e2; cases e2
      ·rw [fB q] at e1; rw [fB q'] at e2; exact R.inj j k b e1 e2
    ·by_cases q:j=i
     ·subst q; exact gn
     ·rw [fB q]; exact R.out j (by simpa using hj)
    ·by_cases q:j=i
     ·subst q
      rw [List.getElem?_set_self hi] at e
      cases e
      rw [gn]
      exact ⟨rfl,.ref a,h3,(h4.bT sub).dv na⟩
     ·rw [List.getElem?_set_ne (Ne.symm q)] at e
      rw [fB q]
      exact (R.slot j s e).bT sub fun _ _ b _=>Classical.em _
   exact ⟨O0,M0,H0,_,_,R2,Ss.go q Go.set⟩
  |_=>exact ⟨O0,M0,H0,ow,m,R,q⟩
theorem Mm {G:Gx}{W:Ends}{σ:L2.St}{H:Hp}(h:tS G E (bC i f) W σ H):O8 (tE G E f) (yo i) W σ H:=by
 obtain ⟨O0,M0,H0,ow,m,R,q⟩:=h
 refine ⟨O0,M0,H0,ow,m,R.toRel,(Ss.pu R.toRel q).imp (aK.refl _) fun d q v H' g' hv=>?_⟩
 exact q _ _ _ ((R.mono g').set hv) ((Go.refl g').trans Go.set)
theorem OD {G:Gx}{W:Ends}{σ:L2.St}{H:Hp}(h:tS G E (eX i f) W σ H):O8 (tN G E f) (yo i) W σ H:=by
 obtain ⟨O0,M0,H0,ow,m,R,q⟩:=h
 refine ⟨O0,M0,H0,ow,m,R.toRel,(Ss.pu R.toRel q).imp (aK.refl _) fun d q p H' g' n hv=>?_⟩
 by_cases hi:i<m.length
 ·rw [if_pos hi] at q
  exact q _ _ _ (R.own g' n (R.toRel.Ef n) hv hi) (Go.own g' n)
 ·rw [if_neg hi] at q
  exact q.elim
theorem bK (hN:X.N.Nodup)(hi:X.N[i]? = some x)(hx:Loc X.env.scope x)(he:FE X E e f)(hs:swapsWith e (some (.Name x pos')) pos.line X.env=pure false:=by rfl)
  (hf:X.fn x=true\/X.env.scope.names.lookup x=some .local:=by first | exact .inl rfl | exact .inr rfl | assumption):FS X E (.Assign [.Name x pos'] e pos) (bC i f):=cF (zx hN hi hx he hs hf) fun _ _ _ h=>Mm h
theorem gR (hN:X.N.Nodup)(hi:X.N[i]? = some x)(hx:Loc X.env.scope x)(he:FN X E e f)(hs:swapsWith e (some (.Name x pos')) pos.line X.env=pure false:=by rfl)
  (hf:X.fn x=true\/X.env.scope.names.lookup x=some .local:=by first | exact .inl rfl | exact .inr rfl | assumption):FS X E (.Assign [.Name x pos'] e pos) (eX i f):=cF (zx hN hi hx he hs hf) fun _ _ _ h=>OD h
theorem rY (he:FE X E e f)(hs:swapsWith e none pos.line X.env=pure false:=by rfl):FS X E (.Expr e pos) (gEx f):=cF (rF he hs) fun W σ H hE=>xq5 hE fun O0 M0 H0 ow m R q=>
 ⟨O0,M0,H0,ow,m,R.toRel,(Ss.pu R.toRel q).imp (aK.refl _) fun d q v H' g' hv=>q _ _ _ (R.mono g') (Go.refl g')⟩
theorem bW (he:FE X E e f):FS X E (.Return (some e) pos) (bU f):=cF (Cu he) fun W σ H hE=>xq5 hE fun O0 M0 H0 ow m R q=>by
 obtain ⟨ow',R',g1⟩:=R.let
 exact ⟨O0,M0,H0,ow',m.let,R'.toRel,(Ss.pu R'.toRel (Ss.go q g1)).imp (aK.refl _) fun d q v H' g' hv=>q v ow' σ H' (R'.mono g') (Go.refl g') hv (fun z=>by cases z)⟩
theorem lH (he:FN X E e f):FS X E (.Return (some e) pos) (iV f):=cF (Cu he) fun W σ H hE=>xq5 hE fun O0 M0 H0 ow m R q=>by
 obtain ⟨ow',R',g1⟩:=R.let
 exact ⟨O0,M0,H0,ow',m.let,R'.toRel,(Ss.pu R'.toRel (Ss.go q g1)).imp (aK.refl _) fun d q p H' g' n hv=>
  q _ ow' σ H' (R'.mono g') (Go.refl g') ((hv.bT fun b z=>.inl (.inl z)).dv (R'.toRel.Ek n)) fun _=>⟨p,rfl,R'.toRel.Ef n,hv⟩⟩
theorem uA (i:Nat)(hN:X.N[i]? = some x:=by rfl)(hv:Vis X.env.scope x:=by first | exact Or.inl rfl | exact Or.inr (Or.inl rfl) | exact Or.inr (Or.inr rfl))(hd:(x == ("__debug__" : Str))=false:=by decide)
  (hcd:(x == ("__classdict__" : Str))=false:=by decide):FS X E (.Return (some (.Name x pos')) pos) (qF i):=cF (Cu (iZ hN hv hd hcd)) fun W σ H hE=>xq5 hE fun O0 M0 H0 ow m R q=>by
 obtain ⟨ow',R',g1⟩:=R.let
 unfold qF at q
 cases z:m[i]? with
 |none=>rw [z] at q; exact q.elim
 |some s=>
  rw [z] at q
  have zl:m.let[i]? = some s.let:=by unfold Me.let; rw [List.getElem?_map,z]; rfl
  cases s with
  |fz d=>
   obtain ⟨_,v,e,hv⟩:=R'.slot i _ zl
   exact ⟨v,e,q v ow' σ H R' g1 hv fun z=>by cases z⟩
  |ow d=>
   obtain ⟨_,v,e,hv⟩:=R'.slot i _ zl
   obtain ⟨a,h1,h2,h3,h4⟩:=R.slot i _ z
   rw [h3] at e
   cases e
   refine ⟨_,h3,q _ ow' σ H R' g1 hv fun _=>⟨a,rfl,h2,h4.bT fun b w=>.inl ?_⟩⟩
   rcases w with w | w
   ·rcases w with w | ⟨j,w⟩
    ·exact .inl w
    ·rcases g1.new j b w with w' | w'
     ·exact w'
     ·have:=R'.mutk b (.inr ⟨j,w⟩)
      rw [w'] at this
      rcases this with ⟨_,e⟩ | ⟨_,e⟩ | ⟨_,e⟩ <;> cases e
   ·rw [w]; exact .inr ⟨i,h1⟩
  |_=>exact q.elim
theorem dg (hc:FT X E c ft)(ha:FSs X E sa ga)(hb:FSs X E sb gb):FS X E (.If c sa sb pos) (gIf ft ga gb):=cF (Xp hc ha hb) fun W σ H hE=>xq5 hE fun O0 M0 H0 ow m R q=>
 ⟨O0,M0,H0,ow,m,R.toRel,(Ss.pu R.toRel q).imp (aK.refl _) fun b q H' g'=>by
  cases b with
  |true=>rw [if_pos rfl] at q ⊢; exact ⟨O0,M0,H0,ow,m,R.mono g',Ss.go q (Go.refl g')⟩
  |false=>rw [if_neg Bool.false_ne_true] at q ⊢; exact ⟨O0,M0,H0,ow,m,R.mono g',Ss.go q (Go.refl g')⟩⟩
noncomputable def wh (t:Me->Res Bool)(b:Me->Res (Fl×Me)):Nat->Me->Option (Res (Fl×Me))
 |0,_=>none
 |n+1,m=>match t m with
  | .ok true=>match b m with
   | .ok (.nx,m')=>wh t b n m'
   | .ok (.ct,m')=>wh t b n m'
   | .ok (.bk,m')=>some (.ok (.nx,m'))
   | .ok (.rt fr d,m')=>some (.ok (.rt fr d,m'))
   | .exc c=>some (.exc c)
   | .stuck=>some .stuck
  | .ok false=>some (.ok (.nx,m))
  | .exc c=>some (.exc c)
  | .stuck=>some .stuck
theorem Ia {t:Me->Res Bool}{b:Me->Res (Fl×Me)}:∀{n:Nat} {m:Me} {r:Res (Fl×Me)},wh t b n m=some r->wh t b (n+1) m=some r
 |0,_,_,h=>by cases h
 |n+1,m,r,h=>by
  have ih:=@Ia t b n
  unfold wh at h ⊢
  split
  ·rename_i e
   rw [e] at h
   split
   ·rename_i m' e2; rw [e2] at h; exact ih h
   ·rename_i m' e2; rw [e2] at h; exact ih h
   ·rename_i m' e2; rw [e2] at h; exact h
   ·rename_i fr d m' e2; rw [e2] at h; exact h
   ·rename_i c e2; rw [e2] at h; exact h
   ·rename_i e2; rw [e2] at h; exact h
  ·rename_i e; rw [e] at h; exact h
  ·rename_i e; rw [e] at h; exact h
  ·rename_i e; rw [e] at h; exact h
theorem Hn {t:Me->Res Bool}{b:Me->Res (Fl×Me)}{n:Nat}{m:Me}{r:Res (Fl×Me)}(h:wh t b n m=some r):∀k,wh t b (n+k) m=some r
 |0=>h
 |k+1=>Ia (Hn h k)
open Classical in
noncomputable def ou (t:Me->Res Bool)(b:Me->Res (Fl×Me)):Me->Res (Fl×Me):=fun m=>
 if h:∃n r,wh t b n m=some r then Classical.choose (Classical.choose_spec h) else .stuck
theorem Lg {t:Me->Res Bool}{b:Me->Res (Fl×Me)}{m:Me}(h:ou t b m≠.stuck):∃n,wh t b n m=some (ou t b m):=by
 unfold ou at h ⊢
 split at h
 ·rename_i q
  rw [dif_pos q]
  exact ⟨_,Classical.choose_spec (Classical.choose_spec q)⟩
 ·exact absurd rfl h
theorem rO {t:Me->Res Bool}{b:Me->Res (Fl×Me)}{m:Me}{r:Res (Fl×Me)}(n:Nat)(h:wh t b n m=some r):ou t b m=r:=by
 unfold ou
 have q:∃n r,wh t b n m=some r:=⟨n,r,h⟩
 rw [dif_pos q]
 have z:=Classical.choose_spec (Classical.choose_spec q)
 have a:=Hn z n
 have b':=Hn h (Classical.choose q)
 rw [Nat.add_comm] at b'
 rw [a] at b'
 exact Option.some.inj b'
theorem uO {body:List Stmt}(hp:PassesOwn (model X.prog X.w) X.A X.env X.xe)(hc:FT X E c ft)(hb:FSs X E body g):FS X E (.While c body [] pos) (ou ft g):=cF (Nz hp hc hb) fun W σ H hE=>xq5 hE fun O0 M0 H0 ow m R q=>by
 obtain ⟨n,hn⟩:=Lg (t:=ft) (b:=g) (m:=m) (fun z=>by rw [z] at q; exact q)
 generalize ou ft g m=r at *
 refine ⟨fun n σ' H'=>∃ow' m',cV (gx X) O0 M0 H0 ow' σ' H' m'/\Go O0 ow H ow' H'/\wh ft g n m'=some r,⟨n,ow,m,R,Go.refl (aK.refl _),hn⟩,?_⟩
 rintro n σ1 H1 ⟨ow1,m1,R1,g1,h1⟩
 cases n with
 |zero=>cases h1
 |succ n=>
  refine ⟨O0,M0,H0,ow1,m1,R1.toRel,?_⟩
  unfold wh at h1
  cases e:ft m1 with
  |exc c=>
   rw [e] at h1
   cases h1
   exact fun C H' e g'=>q C H' e fun b o e n=>g' b o (R1.keep b o e n)
  |stuck=>rw [e] at h1; cases h1; exact q.elim
  |ok t=>
   rw [e] at h1
   intro H2 g2
   have R2:=R1.mono g2
   have G2:=g1.trans (Go.refl g2)
   cases t with
   |false=>
    cases h1
    rw [if_neg Bool.false_ne_true]
    exact q _ _ _ R2 G2
   |true=>
    rw [if_pos rfl]
    have h1:(match g m1 with
     | .ok (.nx,m')=>wh ft g n m'
     | .ok (.ct,m')=>wh ft g n m'
     | .ok (.bk,m')=>some (.ok (.nx,m'))
     | .ok (.rt fr d,m')=>some (.ok (.rt fr d,m'))
     | .exc c=>some (.exc c)
     | .stuck=>some .stuck)=some r:=h1
    refine ⟨fun σ' H'=>∃ow' m',cV (gx X) O0 M0 H0 ow' σ' H' m'/\Go O0 ow H ow' H'/\wh ft g n m'=some r,fun σ' H' z=>⟨n,Nat.lt_succ_self _,z⟩,O0,M0,H0,ow1,m1,R2,?_⟩
    cases e2:g m1 with
    |exc c=>rw [e2] at h1; cases h1; exact q
    |stuck=>rw [e2] at h1; cases h1; exact q
    |ok a=>
     obtain ⟨f2,m2⟩:=a
     rw [e2] at h1
     cases f2 with
     |nx=>exact fun ow' σ' H' R' g'=>⟨ow',m2,R',G2.trans g',h1⟩
     |ct=>exact fun ow' σ' H' R' g'=>⟨ow',m2,R',G2.trans g',h1⟩
     |bk=>cases h1; exact fun ow' σ' H' R' g'=>q ow' σ' H' R' (G2.trans g')
     |rt fr d=>cases h1; exact fun v ow' σ' H' R' g'=>q v ow' σ' H' R' (G2.trans g')
end
open PySem PySem.Spec PyProof.Rows L2 Hd
noncomputable def NbP (m m':Me):Prop:=(∀(j:Nat) (d:D),m[j]?≠some (Sl.bw d))->∀(j:Nat) (d:D),m'[j]?≠some (Sl.bw d)
noncomputable def tG (G:Gx)(k:Nat)(h:D->Me->Option Me):TG:=fun v σ H Q=>∃O0 M0 H0 ow m d m',Rel G O0 M0 H0 ow σ H m/\DV G (Ow O0 ow) H v d/\h d m=some m'/\
 ∀ow' σ',Rel G O0 M0 H0 ow' σ' H m'->Go O0 ow H ow' H->NbP m m'->σ'.drop k=σ.drop k->Q σ' H
noncomputable def tGs (G:Gx)(k:Nat)(h:List D->Me->Option Me):TGs:=fun vs σ H Q=>∃O0 M0 H0 ow m ds m',Rel G O0 M0 H0 ow σ H m/\DVs G (Ow O0 ow) H vs ds/\h ds m=some m'/\
 ∀ow' σ',Rel G O0 M0 H0 ow' σ' H m'->Go O0 ow H ow' H->NbP m m'->σ'.drop k=σ.drop k->Q σ' H
noncomputable abbrev FG (X:Cx)(k:Nat)(tg:Expr)(h:D->Me->Option Me):Prop:=PG X tg (tG (gx X) k h)
noncomputable abbrev FGs (X:Cx)(k:Nat)(tgs:List Expr)(h:List D->Me->Option Me):Prop:=PGs X tgs (tGs (gx X) k h)
theorem JH {X:Cx}{e:Expr}{T T':TG}(h:PG X e T)(k:∀v σ H Q,T' v σ H Q->T v σ H Q):PG X e T':=fun pins s σ H v u Q I r q=>h pins s σ H v u Q I r (k v σ H Q q)
theorem FZ {X:Cx}{es:List Expr}{T T':TGs}(h:PGs X es T)(k:∀v σ H Q,T' v σ H Q->T v σ H Q):PGs X es T':=fun pins s σ H v u Q I r q=>h pins s σ H v u Q I r (k v σ H Q q)
noncomputable def hName (i:Nat):D->Me->Option Me:=fun d m=>some (m.set i (.fz d))
noncomputable def iH:List D->Me->Option Me
 |[],m=>some m
 |_,_=>none
noncomputable def aX (h:D->Me->Option Me)(hs:List D->Me->Option Me):List D->Me->Option Me
 |d::ds,m=>(h d m).bind fun m'=>hs ds m'
 |_,_=>none
noncomputable def iw (n:Nat)(hs:List D->Me->Option Me):D->Me->Option Me
 | .tup ds,m=>if ds.length=n then hs ds m else none
 |_,_=>none
section
variable {X:Cx}{pos:Pos}{k:Nat}{e:Expr}{es:List Expr}{h:D->Me->Option Me}{hs:List D->Me->Option Me}
theorem aP {i:Nat}{x:Str}(hN:X.N.Nodup)(hi:X.N[i]? = some x)(hx:Loc X.env.scope x)(hk:i<k:=by decide)(hf:X.fn x=true\/X.env.scope.names.lookup x=some .local:=by first | exact .inl rfl | exact .inr rfl | assumption):FG X k (.Name x pos) (hName i):=
 JH (T8 hN hi hx hf) fun v σ H Q hE=>xq7 hE fun O0 M0 H0 ow m d m' R hv e q=>by
  cases e
  refine q _ _ (R.set hv) Go.set (fun nb=>xX nb fun _ z=>by cases z) ?_
  rw [List.drop_set,if_pos (by omega)]
theorem gZ:FGs X k [] iH:=FZ Ub fun vs σ H Q hE=>xq7 hE fun O0 M0 H0 ow m ds m' R hv e q=>by
 cases hv with
 |nil=>cases e; exact ⟨rfl,q _ _ R (Go.refl (aK.refl _)) id rfl⟩
 |cons a t=>cases e
theorem bc (h1:FG X k e h)(h2:FGs X k es hs)(hst:(assignEach (e::es) X.env).map (·.2)=assign e X.env::(assignEach es X.env).map (·.2):=by rfl):FGs X k (e::es) (aX h hs):=
 FZ (Mp h1 h2 hst) fun vs σ H Q hE=>xq7 hE fun O0 M0 H0 ow m ds m' R hv e q=>by
  cases hv with
  |nil=>cases e
  | @cons v vs' d ds' a t=>
   have e':(h d m).bind (fun m'=>hs ds' m')=some m':=e
   cases e1:h d m with
   |none=>rw [e1] at e'; cases e'
   |some m1=>
    rw [e1] at e'
    exact ⟨v,vs',rfl,O0,M0,H0,ow,m,d,m1,R,a,e1,fun ow' σ' R' g' nb hd=>⟨O0,M0,H0,ow',m1,ds',m',R',t.go R.mutk g'.ev,e',fun ow2 σ2 R2 g2 nb2 hd2=>q ow2 σ2 R2 (g'.trans g2) (fun z=>nb2 (nb z)) (hd2.trans hd)⟩⟩
theorem jP {j n:Nat}(hc:X.calm=true)(h:FGs X k es hs)(hn:(assignEach es X.env).length=n:=by rfl)(hst:(assignEach es X.env).findIdx? (·.1)=none:=by rfl):FG X k (.Tuple es j pos) (iw n hs):=
 JH (Wc hc h hn hst) fun v σ H Q hE=>xq7 hE fun O0 M0 H0 ow m d m' R hv e q=>by
  cases d with
  |tup ds=>
   obtain ⟨a,xs,rfl,hx,hd⟩:=sX (.inl hv)
   have e':(if ds.length=n then hs ds m else none)=some m':=e
   by_cases z:ds.length=n
   ·rw [if_pos z] at e'
    exact ⟨a,xs,rfl,hx,by rw [bN hd]; exact z,O0,M0,H0,ow,m,ds,m',R,hd,e',q⟩
   ·rw [if_neg z] at e'; cases e'
  |_=>cases e
end
noncomputable def yw (G:Gx)(J:It)(ds:List D)(P:(Addr->Prop)->Hp->Prop):Prop:=∀O H,P O H->
 (∀i,i<ds.length->J.go i H)/\(∀i x H',i<ds.length->J.yld i H x H'->aK H H'/\∃d,ds[i]? = some d/\DV G O H' x d)/\J.stop ds.length H
noncomputable def tI (G:Gx)(E:XK)(f:Me->Res (List D)):TI:=fun σ H R=>∃O0 M0 H0 ow m,Rel G O0 M0 H0 ow σ H m/\Pu G E (f m) H fun ds=>∀J H',aK H H'->yw G J ds (fun O H2=>Ev (Ow O0 ow) H' O H2)->R J H'
noncomputable def tIw (G:Gx)(E:XK)(f:Me->Res (List D)):TI:=fun σ H R=>∃O0 M0 H0 ow m,Rel G O0 M0 H0 ow σ H m/\Pu G E (f m) H fun ds=>∀J H',aK H H'->yw G J ds (fun O H2=>(∀b,O b->Ow O0 ow b\/H' b=none)/\aK H' H2)->R J H'
noncomputable abbrev FI (X:Cx)(E:XK)(tg e:Expr)(f:Me->Res (List D)):Prop:=PI X tg e (tI (gx X) E f)
noncomputable abbrev FIw (X:Cx)(E:XK)(tg e:Expr)(f:Me->Res (List D)):Prop:=PI X tg e (tIw (gx X) E f)
theorem oK {X:Cx}{tg e:Expr}{T T':TI}(h:PI X tg e T)(k:∀σ H R,T' σ H R->T σ H R):PI X tg e T':=fun pins s σ H R I q=>h pins s σ H R I (k σ H R q)
noncomputable def gH (f:Me->Res D):Me->Res (List D):=fun m=>(f m).bind fun d=>match d with
 | .lst ds=>.ok ds
 |_=>.stuck
noncomputable def pK (f:Me->Res D):Me->Res (List D):=fun m=>(f m).bind fun d=>match d with
 | .tup ds=>.ok ds
 |_=>.stuck
noncomputable def wB (f:Me->Res (List D)):Me->Res (List D):=fun m=>(f m).bind fun d=>match d with
 |[.int j]=>if -(2 ^ 62)<=j/\j<2 ^ 62 then .ok ((List.range j.toNat).map fun (i:Nat)=>D.int i) else .stuck
 |_=>.stuck
noncomputable def JV (f:Me->Res (List D)):Me->Res (List D):=fun m=>(f m).bind fun d=>match d with
 |[.int i,.int j]=>if -(2 ^ 62)<=i/\i<2 ^ 62/\-(2 ^ 62)<=j/\j<2 ^ 62 then .ok ((List.range (j - i).toNat).map fun (k:Nat)=>D.int (i+k)) else .stuck
 |_=>.stuck
theorem Sy {G:Gx}{O:Addr->Prop}{H:Hp}{a:Addr}{xs:List V}{ds:List D}(m:∀b,O b->fO (H b))(hl:LstAt G.K O H a xs)(hd:DVs G O H xs ds):yw G (Itl G.K a) ds (fun O' H2=>Ev O H O' H2):=by
 intro O' H2 ev
 have hq:SqL G.K H2 a xs:=(uM ev.2 hl).sq
 have hd2:=hd.go m ev
 have hlen:=bN hd
 refine ⟨fun i hi=>⟨xs,xs[i]'(by omega),hq,by simp⟩,fun i x H' hi y=>?_,xs,hq,by omega⟩
 obtain ⟨e,y⟩:=y
 subst e
 obtain ⟨d,h1,h2⟩:=uH hd2 (y xs hq)
 exact ⟨aK.refl _,d,h1,h2⟩
theorem Pb {G:Gx}{O:Addr->Prop}{H:Hp}{a:Addr}{xs:List V}{ds:List D}(m:∀b,O b->fO (H b))(hl:SqL G.K H a xs)(hd:DVs G O H xs ds):yw G (Itl G.K a) ds (fun O' H2=>(∀b,O' b->O b\/H b=none)/\aK H H2):=by
 intro O' H2 ⟨sub,g⟩
 have hq:SqL G.K H2 a xs:=Ga hl g
 have hd2:=hd.go m ⟨sub,.of g⟩
 have hlen:=bN hd
 refine ⟨fun i hi=>⟨xs,xs[i]'(by omega),hq,by simp⟩,fun i x H' hi y=>?_,xs,hq,by omega⟩
 obtain ⟨e,y⟩:=y
 subst e
 obtain ⟨d,h1,h2⟩:=uH hd2 (y xs hq)
 exact ⟨aK.refl _,d,h1,h2⟩
theorem Wy {G:Gx}{O:Addr->Prop}{H:Hp}{a:Addr}{xs:List V}{ds:List D}(m:∀b,O b->fO (H b))(hl:SqT G.K H a xs)(hd:DVs G O H xs ds):yw G (Itt G.K a) ds (fun O' H2=>Ev O H O' H2):=by
 intro O' H2 ev
 have hq:SqT G.K H2 a xs:=V1 m ev.2 hl
 have hd2:=hd.go m ev
 have hlen:=bN hd
 refine ⟨fun i hi=>⟨xs,xs[i]'(by omega),hq,by simp⟩,fun i x H' hi y=>?_,xs,hq,by omega⟩
 obtain ⟨e,y⟩:=y
 subst e
 obtain ⟨d,h1,h2⟩:=uH hd2 (y xs hq)
 exact ⟨aK.refl _,d,h1,h2⟩
theorem yw.weak {G:Gx}{J:It}{ds:List D}{O:Addr->Prop}{H:Hp}(h:yw G J ds (fun O' H2=>Ev O H O' H2)):yw G J ds (fun O' H2=>(∀b,O' b->O b\/H b=none)/\aK H H2):=
 fun O' H2 ⟨s,g⟩=>h O' H2 ⟨s,.of g⟩
theorem Eo {G:Gx}{lo:Int}{n:Nat}{P:(Addr->Prop)->Hp->Prop}:yw G (Itr lo n) ((List.range n).map fun (k:Nat)=>D.int (lo+k)) P:=by
 intro O H _
 refine ⟨fun i hi=>(show i<n by simpa using hi),fun i x H' hi y=>?_,by show n<=_; simp⟩
 obtain ⟨e,y⟩:=y
 subst e y
 have hi':i<n:=by simpa using hi
 exact ⟨aK.refl _,_,by simp [List.getElem?_map,List.getElem?_range hi'],.int _⟩
section
variable {X:Cx}{E:XK}{tg e a b:Expr}{f:Me->Res D}{fs:Me->Res (List D)}{p pos:Pos}
theorem oO (h:FE X E e f):FI X E tg e (gH f):=oK (Ii h) fun σ H R hE=>xq5 hE fun O0 M0 H0 ow m Re q=>⟨O0,M0,H0,ow,m,Re,q.bind.imp (aK.refl _) fun d q v H' g hv=>by
 cases d with
 |lst ds=>
  cases hv with
  |lst hl hd=>exact ⟨_,rfl,⟨_,hl.sq⟩,q _ H' g (Sy (Re.mono g).mutk hl hd)⟩
 |_=>exact q.elim⟩
theorem qb (h:FE X E e f):FI X E tg e (pK f):=oK (VM h) fun σ H R hE=>xq5 hE fun O0 M0 H0 ow m Re q=>⟨O0,M0,H0,ow,m,Re,q.bind.imp (aK.refl _) fun d q v H' g hv=>by
 cases d with
 |tup ds=>
  cases hv with
  |tup hl hd=>exact ⟨_,rfl,⟨_,hl.sq⟩,q _ H' g (Wy (Re.mono g).mutk hl.sq hd)⟩
 |_=>exact q.elim⟩
theorem nC (h:FB X E e f):FIw X E tg e (gH f):=oK (Ii h) fun σ H R hE=>xq5 hE fun O0 M0 H0 ow m Re q=>⟨O0,M0,H0,ow,m,Re,q.bind.imp (aK.refl _) fun d q v H' g hv=>by
 cases d with
 |lst ds=>
  obtain ⟨a,xs,rfl,hl,hd⟩:=iY hv
  exact ⟨a,rfl,⟨_,hl⟩,q _ H' g (Pb (Re.mono g).mutk hl hd)⟩
 |_=>exact q.elim⟩
theorem um {fl:Me->Res (List D)}(h:FI X E tg e fl):FIw X E tg e fl:=oK h fun σ H R hE=>xq5 hE fun O0 M0 H0 ow m Re q=>⟨O0,M0,H0,ow,m,Re,q.imp (aK.refl _) fun ds q J H' g hi=>q J H' g hi.weak⟩
theorem pW (hg:Gl X "range")(hm:X.mg "range" = none)(ha:FAB X E [a] fs)(hs:starEach [a] X.env=[(false,eval a X.env)]:=by rfl):FI X E tg (.Call (.Name "range" p) [a] [] pos) (wB fs):=
 oK (Lr hg hm ha hs) fun σ H R hE=>xq5 hE fun O0 M0 H0 ow m Re q=>⟨O0,M0,H0,ow,m,Re,q.bind.imp (aK.refl _) fun ds q vs H' g hv=>by
  cases hv with
  |nil=>exact q.elim
  | @cons v vs d ds h1 h2=>
   cases h2 with
   |cons _ _=>cases d <;> exact q.elim
   |nil=>
    cases d with
    |int j=>
     cases cB h1
     obtain ⟨⟨z1,z2⟩,k⟩:=yW q
     refine ⟨j,rfl,z1,z2,k _ H' g ?_⟩
     have:=Eo (G:=gx X) (lo:=0) (n:=j.toNat) (P:=fun O H2=>Ev (Ow O0 ow) H' O H2)
     simpa using this
    |_=>exact q.elim⟩
theorem K3 (hg:Gl X "range")(hm:X.mg "range" = none)(ha:FAB X E [a,b] fs)(hs:starEach [a,b] X.env=[(false,eval a X.env),(false,eval b X.env)]:=by rfl)(hs2:starEach [b] X.env=[(false,eval b X.env)]:=by rfl):FI X E tg (.Call (.Name "range" p) [a,b] [] pos) (JV fs):=
 oK (K8 hg hm ha hs hs2) fun σ H R hE=>xq5 hE fun O0 M0 H0 ow m Re q=>⟨O0,M0,H0,ow,m,Re,q.bind.imp (aK.refl _) fun ds q vs H' g hv=>by
  match ds,vs,hv,q with
  |[.int i,.int j],_,.cons h1 (.cons h2 .nil),q=>
   cases cB h1
   cases cB h2
   obtain ⟨⟨z1,z2,z3,z4⟩,k⟩:=yW q
   exact ⟨i,j,rfl,⟨z1,z2,z3,z4⟩,k _ H' g Eo⟩⟩
end
noncomputable def bL (h:D->Me->Option Me)(g:Me->Res (Fl×Me)):List D->Me->Res (Fl×Me)
 |[],m=>.ok (.nx,m)
 |d::ds,m=>match h d m with
  |none=>.stuck
  |some m1=>match g m1 with
   | .ok (.nx,m2)=>bL h g ds m2
   | .ok (.ct,m2)=>bL h g ds m2
   | .ok (.bk,m2)=>.ok (.nx,m2)
   | .ok (.rt fr v,m2)=>.ok (.rt fr v,m2)
   | .exc c=>.exc c
   | .stuck=>.stuck
noncomputable def iQ (fi:Me->Res (List D))(h:D->Me->Option Me)(g:Me->Res (Fl×Me)):Me->Res (Fl×Me):=fun m=>(fi m).bind fun ds=>bL h g ds m
theorem iJ {X:Cx}{E:XK}{tg iter:Expr}{body:List Stmt}{fi:Me->Res (List D)}{k:Nat}{h:D->Me->Option Me}{g:Me->Res (Fl×Me)}{pos:Pos}(hp:PassesOwn (model X.prog X.w) X.A X.env X.xe)(hc:X.calm=true)(hi:FI X E tg iter fi)(hg:FG X k tg h)(hb:FSs X E body g)
  (hs:∀x,foldedSetIterable iter X.env x=pure x:=by intro _; rfl):FS X E (.For tg iter body [] pos) (iQ fi h g):=cF (Wq hp hc hi hg hb hs) fun W σ H hE=>xq5 hE fun O0 M0 H0 ow m R q=>
 ⟨O0,M0,H0,ow,m,R.toRel,(Ss.pu R.toRel q).imp (aK.refl _) fun ds q J H1 g1 it=>by
  have R1:=R.mono g1
  have q1:=Ss.go q (Go.refl g1)
  generalize hr:bL h g ds m=r at *
  refine ⟨fun i n σ' H'=>∃ow' m',cV (gx X) O0 M0 H0 ow' σ' H' m'/\Go O0 ow H1 ow' H'/\n=ds.length - i/\i<=ds.length/\bL h g (ds.drop i) m'=r,⟨_,ow,m,R1,Go.refl (aK.refl _),rfl,Nat.zero_le _,hr⟩,?_⟩
  rintro i n σ2 H2 ⟨ow2,m2,R2,g2,rfl,hi,e2⟩
  obtain ⟨i1,i2,i3⟩:=it _ H2 g2.ev
  by_cases hlt:i<ds.length
  ·refine .inr ⟨i1 i hlt,fun σ' H'=>∃ow' m',cV (gx X) O0 M0 H0 ow' σ' H' m'/\Go O0 ow H1 ow' H'/\bL h g (ds.drop (i+1)) m'=r,fun σ' H' ⟨ow',m',R',g',e'⟩=>⟨ds.length - (i+1),by omega,ow',m',R',g',rfl,hlt,e'⟩,fun x H3 y=>?_⟩
   obtain ⟨s3,d,hd,dv⟩:=i2 i x H3 hlt y
   have ed:ds.drop i=d::ds.drop (i+1):=by
    rw [List.drop_eq_getElem_cons hlt]
    rw [List.getElem?_eq_getElem hlt] at hd
    cases hd
    rfl
   rw [ed] at e2
   unfold bL at e2
   cases eh:h d m2 with
   |none=>rw [eh] at e2; subst e2; exact q1.elim
   |some m3=>
    rw [eh] at e2
    refine ⟨O0,M0,H0,ow2,m2,d,m3,(R2.mono s3).toRel,dv,eh,fun ow' σ' R' g' nb _=>?_⟩
    have G3:=(g2.trans (Go.refl s3)).trans g'
    refine ⟨O0,M0,H0,ow',m3,⟨R',nb R2.nb⟩,?_⟩
    cases eg:g m3 with
    |exc c=>simp only [eg] at e2; subst e2; exact q1
    |stuck=>simp only [eg] at e2; subst e2; exact q1
    |ok a=>
     obtain ⟨f4,m4⟩:=a
     simp only [eg] at e2
     cases f4 with
     |nx=>exact fun ow4 σ4 H4 R4 g4=>⟨ow4,m4,R4,G3.trans g4,e2⟩
     |ct=>exact fun ow4 σ4 H4 R4 g4=>⟨ow4,m4,R4,G3.trans g4,e2⟩
     |bk=>subst e2; exact fun ow4 σ4 H4 R4 g4=>q1 ow4 σ4 H4 R4 (G3.trans g4)
     |rt fr v=>subst e2; exact fun v ow4 σ4 H4 R4 g4=>q1 v ow4 σ4 H4 R4 (G3.trans g4)
  ·have e:i=ds.length:=by omega
   subst e
   rw [List.drop_length] at e2
   unfold bL at e2
   subst e2
   exact .inl ⟨i3,q1 ow2 σ2 H2 R2 g2⟩⟩
open PySem PySem.Spec PyProof.Rows L2 Hd
noncomputable def Sl.bor:Sl->Sl
 | .ow d=>.bw d
 | .io d=>.bw d
 | .hd _ _ _=>.un
 |s=>s
noncomputable def cMe (k:Nat)(cap:List Nat)(m:Me):Me:=List.replicate k .un++cap.map fun j=>(m.getD j .un).bor
noncomputable def fM (h:D->Me->Option Me)(ft:Me->Res Bool)(fe:Me->Res D)(m0:Me):List D->Res (List D)
 |[]=>.ok []
 |d::ds=>match h d m0 with
  |none=>.stuck
  |some m1=>match ft m1 with
   | .ok true=>match fe m1 with
    | .ok y=>match fM h ft fe m0 ds with
     | .ok ys=>.ok (y::ys)
     |_=>.stuck
    |_=>.stuck
   | .ok false=>fM h ft fe m0 ds
   |_=>.stuck
noncomputable def du (k:Nat)(cap:List Nat)(fi:Me->Res (List D))(h:D->Me->Option Me)(ft:Me->Res Bool)(fe:Me->Res D):Me->Res D:=fun m=>(fi m).bind fun ds=>
 if ds.length<=sizeLine then match fM h ft fe (cMe k cap m) ds with
  | .ok ys=>.ok (.lst ys)
  |_=>.stuck
 else .stuck
noncomputable abbrev Nh (X:Cx)(E:XK)(ifs:List Expr)(f:Me->Res Bool):Prop:=Lk X ifs (tT (gx X) E f)
noncomputable def jq:Me->Res Bool:=fun _=>.ok true
theorem fj {X:Cx}{E:XK}:Nh X E [] jq:=fun pins s σ H Q I hE=>xq5 hE fun O0 M0 H0 ow m R q=>Sh pins s σ H Q I (q H (aK.refl _))
theorem Qz {X:Cx}{E:XK}{c:Expr}{f:Me->Res Bool}(h:FT X E c f):Nh X E [c] f:=Rb h
section
variable {X:Cx}{E:XK}{k:Nat}{cap:List Nat}{fi:Me->Res (List D)}{h:D->Me->Option Me}{ft:Me->Res Bool}{fe:Me->Res D}
theorem PK {G:Gx}{O0 M0:Addr->Prop}{H0 H H2:Hp}{ow:Os}{σ:L2.St}{m:Me}{l:Addr}{zs:List V}(R:Rel G O0 M0 H0 ow σ H m)(g:aK H H2)(hl:H l=none)(hz:H2 l=some (.lst zs)):
  Rel G (Op (Ow O0 ow) l) (fun _=>False) (fun _=>none) (fun _=>none) (cSt k cap σ) H2 (cMe k cap m):=by
 have sub:∀b,Ow (Op (Ow O0 ow) l) (fun _=>none) b->Ow O0 ow b\/H b=none:=fun b z=>by
  rw [uE] at z
  exact z.elim .inl fun e=>.inr (by rw [e]; exact hl)
 have sup:∀b,Ow O0 ow b->Ow (Op (Ow O0 ow) l) (fun _=>none) b:=fun b z=>.inl (.inl z)
 refine ⟨by simp [cSt,cMe],fun b o e _=>(by cases e),fun b z=>z.elim,fun b z=>?_,fun i a e=>(by cases e),fun i j a e=>(by cases e),fun _ _=>rfl,fun i s e=>?_⟩
 ·rw [uE] at z
  rcases z with z | z
  ·exact v9 g (R.mutk b z)
  ·rw [z,hz]; exact .inl ⟨zs,rfl⟩
 ·unfold cMe at e
  by_cases hi:i<k
  ·rw [List.getElem?_append_left (by simpa using hi),List.getElem?_replicate,if_pos hi] at e
   cases e
   rfl
  ·rw [List.getElem?_append_right (by simp; omega),List.length_replicate,List.getElem?_map] at e
   have eσ:(cSt k cap σ)[i]? = (cap[i - k]?).map fun j=>(σ[j]?).join:=by
    unfold cSt
    rw [List.getElem?_append_right (by simp; omega),List.length_replicate,List.getElem?_map]
   cases ec:cap[i - k]? with
   |none=>rw [ec] at e; cases e
   |some j=>
    rw [ec] at e eσ
    rw [eσ]
    cases ej:m[j]? with
    |none=>
     have:m.getD j .un=.un:=by simp [List.getD,ej]
     rw [Option.map_some,this] at e
     cases e
     rfl
    |some s0=>
     have:m.getD j .un=s0:=by simp [List.getD,ej]
     rw [Option.map_some,this] at e
     cases e
     have z:=R.slot j s0 ej
     cases s0 with
     |un=>rfl
     |fz d=>
      obtain ⟨_,x,e1,hv⟩:=z
      exact ⟨rfl,x,by rw [Option.map_some,e1]; rfl,(hv.bT sub).mono g⟩
     |ow d=>
      obtain ⟨a,h1,h2,h3,h4⟩:=z
      exact ⟨rfl,.ref a,by rw [Option.map_some,h3]; rfl,.inr ⟨a,rfl,sup a (.inr ⟨j,h1⟩),(h4.bT sub).mono g⟩⟩
     |io d=>
      obtain ⟨a,h1,h2,h3,h4⟩:=z
      exact ⟨rfl,.ref a,by rw [Option.map_some,h3]; rfl,.inr ⟨a,rfl,sup a (.inr ⟨j,h1⟩),(h4.bT sub).mono g⟩⟩
     |bw d=>
      obtain ⟨_,x,e1,hv⟩:=z
      refine ⟨rfl,x,by rw [Option.map_some,e1]; rfl,?_⟩
      rcases hv with hv | ⟨a,e2,o,hv⟩
      ·exact .inl ((hv.bT sub).mono g)
      ·exact .inr ⟨a,e2,sup a o,(hv.bT sub).mono g⟩
     |hd w a d=>rfl
theorem BL {σ:L2.St}{H:Hp}{Q:VK}(hq:tN (gx X) E (du k cap fi h ft fe) σ H Q):JS k cap (tIw (gx X) E fi) (tG (gx X) k h) (tT (gx X) E0 ft) (tE (gx X) E0 fe) σ H Q:=by
 obtain ⟨O0,M0,H0,ow,m,R,q⟩:=hq
 refine ⟨O0,M0,H0,ow,m,R,q.bind.imp (aK.refl _) fun ds q J H1 g1 it l hl=>?_⟩
 obtain ⟨hz,q⟩:=Cq q
 cases hc:fM h ft fe (cMe k cap m) ds with
 |exc c=>rw [hc] at q; exact q.elim
 |stuck=>rw [hc] at q; exact q.elim
 |ok ys=>
  rw [hc] at q
  have hlH:H l=none:=g1.free hl
  have mk1:∀b,Op (Ow O0 ow) l b->Ow O0 ow b\/H1 b=none:=fun b z=>z.elim .inl fun e=>.inr (by rw [e]; exact hl)
  refine ⟨fun i n zs H'=>n=ds.length - i/\i<=ds.length/\zs.length<=i/\aK H1 H'/\H' l=some (.lst zs)/\∃es rest,DVs (gx X) (Op (Ow O0 ow) l) H' zs es/\fM h ft fe (cMe k cap m) (ds.drop i)=.ok rest/\es++rest=ys,
   ⟨ds.length,by simp,Nat.zero_le _,Nat.le_refl _,bJ hl _,aZ,[],ys,.nil,hc,rfl⟩,?_⟩
  rintro i n zs H' ⟨rfl,hi,hzi,g2,hH,es,rest,hes,hcr,hys⟩
  obtain ⟨i1,i2,i3⟩:=it (Op (Ow O0 ow) l) H' ⟨mk1,g2⟩
  by_cases hlt:i<ds.length
  ·refine .inr ⟨i1 i hlt,fun x H2 y=>?_⟩
   obtain ⟨g3,d,hd,dv⟩:=i2 i x H2 hlt y
   have ed:ds.drop i=d::ds.drop (i+1):=by
    rw [List.drop_eq_getElem_cons hlt]
    rw [List.getElem?_eq_getElem hlt] at hd
    cases hd
    rfl
   rw [ed] at hcr
   unfold fM at hcr
   cases eh:h d (cMe k cap m) with
   |none=>rw [eh] at hcr; cases hcr
   |some m1=>
    rw [eh] at hcr
    have G2:aK H H2:=(g1.trans g2).trans g3
    have R2:=PK (k:=k) (cap:=cap) (l:=l) (zs:=zs) R G2 hlH (g3 _ _ hH)
    refine ⟨_,_,_,_,_,d,m1,R2,by rw [uE]; exact dv,eh,fun ow' σ' R' g' nb hdr=>⟨hdr,_,_,_,ow',m1,R',?_⟩⟩
    simp only [] at hcr
    cases et:ft m1 with
    |exc c=>rw [et] at hcr; cases hcr
    |stuck=>rw [et] at hcr; cases hcr
    |ok t=>
     rw [et] at hcr
     intro H3 g4
     cases t with
     |false=>
      rw [if_neg Bool.false_ne_true]
      exact ⟨ds.length - (i+1),by omega,rfl,hlt,by omega,(g2.trans g3).trans g4,g4 _ _ (g3 _ _ hH),es,rest,hes.mono (g3.trans g4),hcr,hys⟩
     |true=>
      rw [if_pos rfl]
      refine ⟨_,_,_,ow',m1,R'.mono g4,?_⟩
      simp only [] at hcr
      cases ee:fe m1 with
      |exc c=>rw [ee] at hcr; cases hcr
      |stuck=>rw [ee] at hcr; cases hcr
      |ok y'=>
       rw [ee] at hcr
       intro v H5 g5 hv
       simp only [] at hcr
       cases er:fM h ft fe (cMe k cap m) (ds.drop (i+1)) with
       |exc c=>rw [er] at hcr; cases hcr
       |stuck=>rw [er] at hcr; cases hcr
       |ok rest'=>
        rw [er] at hcr
        cases hcr
        have G5:aK H' H5:=(g3.trans g4).trans g5
        have mk5:∀b,Op (Ow O0 ow) l b->fO (H5 b):=fun b z=>by
         rcases z with z | z
         ·exact v9 (((g1.trans g2).trans G5)) (R.mutk b z)
         ·rw [z,G5 _ _ hH]; exact .inl ⟨zs,rfl⟩
        have kp5:Kp (Op (Ow O0 ow) l) H5 (upd H5 l (.lst (zs++[v]))):=fun b o e n=>by
         rw [cL (show b≠l from fun z=>n (.inr z))]
         exact e
        refine ⟨G5 _ _ hH,by omega,ds.length - (i+1),by omega,rfl,hlt,by rw [List.length_append,List.length_singleton]; omega,?_,aZ,es++[y'],rest',?_,er,by rw [List.append_assoc]; exact hys⟩
        ·exact J3 ((Uz (g2.trans G5)).trans Oz) hl
        ·exact jh ((hes.mono G5).kp mk5 kp5) (.cons ((hv.bT fun b z=>.inl (.inl z)).kp mk5 kp5) .nil)
  ·have e:i=ds.length:=by omega
   subst e
   rw [List.drop_length] at hcr
   cases hcr
   rw [List.append_nil] at hys
   subst hys
   exact .inl ⟨i3,q l H' (g1.trans g2) hlH ⟨zs,hH,hes⟩⟩
section
variable {tg iter elt:Expr}{ifs:List Expr}{scope:Scope}{pos:Pos}
theorem iT (sc:Scope)(N' caps:List Str)(k:Nat)(cap:List Nat)(hcalm:X.calm=true)(S:CSc sc scope caps)(hcap:Paired (fun j x=>X.N[j]? = some x) cap caps)
  (hi:FIw X E tg iter fi) (hg:∀cl C sE HE fp pins,FG (cO X N' scope cl C sE HE fp pins) k tg h) (ht:∀cl C sE HE fp pins,Nh (cO X N' scope cl C sE HE fp pins) E0 ifs ft) (he:∀cl C sE HE fp pins,FE (cO X N' scope cl C sE HE fp pins) E0 elt fe)
  (hsc:X.env.scope=sc:=by rfl) (hN:N'.drop k=caps:=by rfl) (hk:k<=N'.length:=by decide) (hs:∀x,foldedSetIterable iter X.env x=pure x:=by intro _; rfl):
  FN X E (.ListComp elt [⟨tg,iter,ifs,0⟩] scope pos) (du k cap fi h ft fe):=bx (Rr sc N' caps k cap hcalm S hcap hi hg ht he hsc hN hk hs) fun _ _ _ q=>BL q
variable {i:Nat}{y:Str}{py spos:Pos}
theorem GD (sc:Scope)(N' caps:List Str)(k:Nat)(cap:List Nat)(hnd:X.N.Nodup)(hi':X.N[i]? = some y)(hy:Loc X.env.scope y)(hcalm:X.calm=true)(S:CSc sc scope caps)(hcap:Paired (fun j x=>X.N[j]? = some x) cap caps)
  (hi:FIw X E tg iter fi) (hg:∀cl C sE HE fp pins,FG (cO X N' scope cl C sE HE fp pins) k tg h) (ht:∀cl C sE HE fp pins,Nh (cO X N' scope cl C sE HE fp pins) E0 ifs ft) (he:∀cl C sE HE fp pins,FE (cO X N' scope cl C sE HE fp pins) E0 elt fe)
  (hsw:swapsWith (.ListComp elt [⟨tg,iter,ifs,0⟩] scope pos) (some (.Name y py)) spos.line X.env=pure true:=by rfl)
  (hsc:X.env.scope=sc:=by rfl) (hN:N'.drop k=caps:=by rfl) (hk:k<=N'.length:=by decide) (hs:∀x,foldedSetIterable iter X.env x=pure x:=by intro _; rfl)
  (hf:X.fn y=true\/X.env.scope.names.lookup y=some .local:=by first | exact .inl rfl | exact .inr rfl | assumption):
  FS X E (.Assign [.Name y py] (.ListComp elt [⟨tg,iter,ifs,0⟩] scope pos) spos) (bC i (du k cap fi h ft fe)):=
 cF (yR sc N' caps k cap hnd hi' hy hcalm S hcap hi hg ht he hsw hsc hN hk hs hf) fun W σ H q=>by
  refine BL (h:=h) (ft:=ft) (fe:=fe) (Q:=fun x H1=>yo i x σ H1 W.nx) ?_
  obtain ⟨O0,M0,H0,ow,m,R,q⟩:=Mm q
  exact ⟨O0,M0,H0,ow,m,R,q.imp (aK.refl _) fun _ k p H' g n o=>k _ H' g ((o.bT fun b z=>.inl (.inl z)).dv (R.Ek n))⟩
theorem Gn (sc:Scope)(N' caps:List Str)(k:Nat)(cap:List Nat)(hnd:X.N.Nodup)(hi':X.N[i]? = some y)(hy:Loc X.env.scope y)(hcalm:X.calm=true)(S:CSc sc scope caps)(hcap:Paired (fun j x=>X.N[j]? = some x) cap caps)
  (hi:FIw X E tg iter fi) (hg:∀cl C sE HE fp pins,FG (cO X N' scope cl C sE HE fp pins) k tg h) (ht:∀cl C sE HE fp pins,Nh (cO X N' scope cl C sE HE fp pins) E0 ifs ft) (he:∀cl C sE HE fp pins,FE (cO X N' scope cl C sE HE fp pins) E0 elt fe)
  (hsw:swapsWith (.ListComp elt [⟨tg,iter,ifs,0⟩] scope pos) (some (.Name y py)) spos.line X.env=pure true:=by rfl)
  (hsc:X.env.scope=sc:=by rfl) (hN:N'.drop k=caps:=by rfl) (hk:k<=N'.length:=by decide) (hs:∀x,foldedSetIterable iter X.env x=pure x:=by intro _; rfl)
  (hf:X.fn y=true\/X.env.scope.names.lookup y=some .local:=by first | exact .inl rfl | exact .inr rfl | assumption):
  FS X E (.Assign [.Name y py] (.ListComp elt [⟨tg,iter,ifs,0⟩] scope pos) spos) (eX i (du k cap fi h ft fe)):=
 cF (yR sc N' caps k cap hnd hi' hy hcalm S hcap hi hg ht he hsw hsc hN hk hs hf) fun W σ H q=>BL (Q:=fun x H1=>yo i x σ H1 W.nx) (OD q)
end
end
noncomputable def spF (G:Gx)(Φ:List D->Res (Bool×D)):Sp:=fun vs H Q E=>∃O ds,(∀b,O b->fO (H b))/\DVs G O H vs ds/\Pu G E (Φ ds) H fun r=>∀v H',aK H H'->DV G O H' v r.2->(r.1=true->Fr G O H v H' r.2)->Q v H'
noncomputable def bf (N n:Nat)(g:Me->Res (Fl×Me)):List D->Res (Bool×D):=fun ds=>if ds.length=n then match g (ds.map Sl.fz++List.replicate (N - n) Sl.un) with
  | .ok (.rt fr d,_)=>.ok (fr,d)
  | .ok (.nx,_)=>.ok (false,.non)
  | .exc c=>.exc c
  |_=>.stuck
 else .stuck
noncomputable abbrev FF (P:Program)(w:World)(K:W.Frag)(mg:Str->Option Value)(base:Heap)(k:Nat)(x:Str)(ps:List Str)(Φ:List D->Res (Bool×D)):Prop:=Hd.Fn P w K mg base k x ps (spF ⟨K,mg⟩ Φ)
theorem Lf {G:Gx}{O:Addr->Prop}{H:Hp}{N:List Str}{vs:List V}{ds:List D}{n:Nat}(hm:∀b,O b->fO (H b))(hd:DVs G O H vs ds)(hn:ds.length=n):
  cV G O (fun _=>False) H (fun _=>none) (L2.start N vs) H (ds.map Sl.fz++List.replicate (N.length - n) Sl.un):=by
 have hl:=bN hd
 refine ⟨⟨by simp [L2.start,hl,hn],fun b o e _=>e,fun b z=>z.elim,fun b z=>by rw [uE] at z; exact hm b z,fun i a e=>(by cases e),fun i j a e=>(by cases e),fun _ _=>rfl,fun i s e=>?_⟩,fun j d e=>?_⟩
 ·by_cases hi:i<ds.length
  ·rw [List.getElem?_append_left (by simpa using hi),List.getElem?_map] at e
   cases ed:ds[i]? with
   |none=>rw [ed] at e; cases e
   |some d=>
    rw [ed] at e
    cases e
    obtain ⟨x,hx,dx⟩:=ud hd ed
    refine ⟨rfl,x,?_,by rw [uE]; exact dx⟩
    unfold L2.start
    rw [List.getElem?_append_left (by simpa [hl] using hi),List.getElem?_map,hx]
    rfl
  ·rw [List.getElem?_append_right (by simp; omega),List.getElem?_replicate] at e
   split at e
   ·cases e; rfl
   ·cases e
 ·by_cases hi:j<ds.length
  ·rw [List.getElem?_append_left (by simpa using hi),List.getElem?_map] at e
   cases ed:ds[j]? with
   |none=>rw [ed] at e; cases e
   |some d=>rw [ed] at e; cases e
  ·rw [List.getElem?_append_right (by simp; omega),List.getElem?_replicate] at e
   split at e <;> cases e
section
variable {P:Program}{w:World}{K:W.Frag}{mg:Str->Option Value}{base:Heap}
theorem bu {x qual:Str}{st:Stmt}{f:Addr}{fd:FuncData}{N ps:List Str}{k:Nat}{g:Me->Res (Fl×Me)}(Fu:Fun K x qual st f fd)(S:aV N ps (aH st))
  (hbody:∀(cdv:Value) (A:Around) (outer:List Env) (s:Shared) (H:Hp) (E:XK),ig k (A.deeper (envOfC qual (aH st) s.heap.objs.size f cdv))->
   FSs (xW (CX1 P w) P w K mg base N qual (aH st) f cdv A outer s H E) E (iU st) g):cT P w K mg base (CX1 P w) (k+1) f fd ps (spF ⟨K,mg⟩ (bf N.length ps.length g)):=by
 refine JC Fu S (fun vs H Q E h=>?_) (fun cdv A outer s H vs Q E hr h=>?_)
 ·obtain ⟨O,ds,_,hd,q⟩:=h
  rw [bN hd]
  unfold bf at q
  exact (Cq q).1
 ·obtain ⟨O,ds,hm,hd,q⟩:=h
  unfold bf at q
  obtain ⟨hn,q⟩:=Cq q
  refine ⟨_,hbody cdv A outer s H E hr,O,fun _=>False,H,fun _=>none,_,Lf hm hd hn,?_⟩
  have sm:∀{ow' σ' H' m'},cV (⟨K,mg⟩:Gx) O (fun _=>False) H ow' σ' H' m'->aK H H':=fun R b o e=>R.keep b o e id
  cases z:g (ds.map Sl.fz++List.replicate (N.length - ps.length) Sl.un) with
  |exc c=>rw [z] at q; exact fun C H' e kp=>q C H' e fun b o e=>kp b o e id
  |stuck=>rw [z] at q; exact q.elim
  |ok a=>
   obtain ⟨fl,m'⟩:=a
   rw [z] at q
   cases fl with
   |bk=>exact q.elim
   |ct=>exact q.elim
   |nx=>exact fun ow' σ' H' R' _=>q _ H' (sm R') .non fun z=>by cases z
   |rt fr d=>
    intro v ow' σ' H' R' _ hv hf
    refine q v H' (sm R') (hv.bT fun b z=>.inl (.inl z)) fun z=>?_
    obtain ⟨p,e1,e2,e3⟩:=hf z
    exact ⟨p,e1,e2,e3.bT fun b z=>.inl (z.elim (fun y=>.inl (.inl y)) .inr)⟩
end
noncomputable def fFn (Φ:List D->Res (Bool×D))(fs:Me->Res (List D)):Me->Res D:=fun m=>(fs m).bind fun ds=>(Φ ds).bind fun r=>.ok r.2
noncomputable def Vi (Φ:List D->Res (Bool×D))(fs:Me->Res (List D)):Me->Res D:=fun m=>(fs m).bind fun ds=>(Φ ds).bind fun r=>if flat r.2=true then .ok r.2 else .stuck
noncomputable def O3 (Φ:List D->Res (Bool×D))(fs:Me->Res (List D)):Me->Res D:=fun m=>(fs m).bind fun ds=>(Φ ds).bind fun r=>if r.1=true then .ok r.2 else .stuck
section
variable {X:Cx}{E:XK}{j k:Nat}{x:Str}{ps:List Str}{Φ:List D->Res (Bool×D)}{p pos:Pos}{e:Expr}{es:List Expr}{fs:Me->Res (List D)}
theorem bD (Fh:FF X.prog X.w X.K X.mg X.base k x ps Φ)(hr:ig j X.A)(hx:Passes (CX1 X.prog X.w) X E)(ha:FAE X E (e::es) fs)(hk:k<=j:=by decide)(hg:Gl X x:=by rfl)
  (hdb:(x == ("__debug__" : Str))=false:=by decide) (he:starEach (e::es) X.env=(false,eval e X.env)::starEach es X.env:=by rfl) (hpl:(backTo pos (starEach es X.env)).any (·.1)=false:=by rfl):
  FE X E (.Call (.Name x p) (e::es) [] pos) (fFn Φ fs):=by
 obtain ⟨f,fd,G,b,kp,m⟩:=Fh.ex
 refine bx (xR G (hr.mono hk) hg m kp b .nil hx ha hdb he hpl) fun σ H Q hE=>xq5 hE fun O0 M0 H0 ow m R q=>⟨O0,M0,H0,ow,m,R,q.bind.imp (aK.refl _) fun ds q vs H1 g1 hv=>?_⟩
 show spF _ _ (vs++[]) _ _ _
 rw [List.append_nil]
 exact ⟨_,ds,(R.mono g1).mutk,hv,q.bind.imp g1 fun r q v H' g2 hv' _=>q v H' (g1.trans g2) hv'⟩
theorem Vz (Fh:FF X.prog X.w X.K X.mg X.base k x ps Φ)(hr:ig j X.A)(hx:Passes (CX1 X.prog X.w) X E)(ha:FAB X E (e::es) fs)(hk:k<=j:=by decide)(hg:Gl X x:=by rfl)
  (hdb:(x == ("__debug__" : Str))=false:=by decide) (he:starEach (e::es) X.env=(false,eval e X.env)::starEach es X.env:=by rfl) (hpl:(backTo pos (starEach es X.env)).any (·.1)=false:=by rfl):
  FE X E (.Call (.Name x p) (e::es) [] pos) (Vi Φ fs):=by
 obtain ⟨f,fd,G,b,kp,m⟩:=Fh.ex
 refine bx (xR G (hr.mono hk) hg m kp b .nil hx ha hdb he hpl) fun σ H Q hE=>xq5 hE fun O0 M0 H0 ow m R q=>⟨O0,M0,H0,ow,m,R,q.bind.imp (aK.refl _) fun ds q vs H1 g1 hv=>?_⟩
 show spF _ _ (vs++[]) _ _ _
 rw [List.append_nil]
 refine ⟨_,ds,fun _ z=>z.elim,hv.any,q.bind.imp g1 fun r q v H' g2 hv' _=>?_⟩
 obtain ⟨hf,q⟩:=yW q
 exact q v H' (g1.trans g2) (hv'.flat hf)
theorem Uk (Fh:FF X.prog X.w X.K X.mg X.base k x ps Φ)(hr:ig j X.A)(hx:Passes (CX1 X.prog X.w) X E)(ha:FAE X E (e::es) fs)(hk:k<=j:=by decide)(hg:Gl X x:=by rfl)
  (hdb:(x == ("__debug__" : Str))=false:=by decide) (he:starEach (e::es) X.env=(false,eval e X.env)::starEach es X.env:=by rfl) (hpl:(backTo pos (starEach es X.env)).any (·.1)=false:=by rfl):
  FN X E (.Call (.Name x p) (e::es) [] pos) (O3 Φ fs):=by
 obtain ⟨f,fd,G,b,kp,m⟩:=Fh.ex
 refine bx (xR G (hr.mono hk) hg m kp b .nil hx ha hdb he hpl) fun σ H Q hE=>xq5 hE fun O0 M0 H0 ow m R q=>⟨O0,M0,H0,ow,m,R,q.bind.imp (aK.refl _) fun ds q vs H1 g1 hv=>?_⟩
 show spF _ _ (vs++[]) _ _ _
 rw [List.append_nil]
 refine ⟨_,ds,(R.mono g1).mutk,hv,q.bind.imp g1 fun r q v H' g2 hv' fr=>?_⟩
 obtain ⟨hf,q⟩:=yW q
 obtain ⟨p,rfl,n,o⟩:=fr hf
 exact q p H' (g1.trans g2) (g1.free n) o
end
open PySem PySem.Spec PyProof.Rows L2 Hd
noncomputable def Bg (i:Int):Prop:=i.natAbs<2 ^ 4000
noncomputable instance (i:Int):Decidable (Bg i):=inferInstanceAs (Decidable (_<_))
noncomputable def dvI (i j:Int):Int:=if 0<j then i / j else i.fdiv j
noncomputable def mdI (i j:Int):Int:=if 0<j then i % j else i.fmod j
noncomputable def cC:D->D->Option D
 | .int i,.int j=>some (.int (i+j))
 | .str a,.str b=>if a.length+b.length<=sizeLine then some (.str (a++b)) else none
 | .lst a,.lst b=>if a.length+b.length<=sizeLine then some (.lst (a++b)) else none
 | .tup a,.tup b=>if a.length+b.length<=sizeLine then some (.tup (a++b)) else none
 |_,_=>none
noncomputable def eN:D->D->Option D
 | .int i,.int j=>some (.int (i - j))
 |_,_=>none
noncomputable def mV:D->D->Option D
 | .int i,.int j=>if Bg i/\Bg j then some (.int (i * j)) else none
 |_,_=>none
noncomputable def eY:D->D->Option D
 | .int i,.int j=>if j≠0/\Bg j then some (.int (dvI i j)) else none
 |_,_=>none
noncomputable def bQ:D->D->Option D
 | .int i,.int j=>if j≠0 then some (.int (mdI i j)) else none
 |_,_=>none
noncomputable def rE:D->Option D
 | .int i=>some (.int (-i))
 |_=>none
section
variable {X:Cx}
theorem oif {c:Prop}[Decidable c]{α:Type}{a r:α}(h:(if c then some a else none)=some r):c/\a=r:=by
 by_cases z:c
 ·rw [if_pos z] at h; exact ⟨z,Option.some.inj h⟩
 ·rw [if_neg z] at h; cases h
theorem Kg {pins:List (Addr×Obj)}{σ:L2.St}{H:Hp}{s:Shared}{Q:VK}{O:Addr->Prop}{i:Str}{t:Tok}{tk:Nat}(I:Inv X pins σ H s)(q:∀v H',aK H H'->DV (gx X) O H' v (.str i)->Q v H'):EP X pins σ Q (.str i t) { s with toks:=tk }:=
 ⟨.str i,H,I.tok _,⟨t,rfl⟩,q _ _ (aK.refl _) (.str i)⟩
theorem QR {pins:List (Addr×Obj)}{σ:L2.St}{H:Hp}{s:Shared}{Q:VK}{O:Addr->Prop}{xs:List V}{ds:List D}{its:List Value}{h':Heap}{tk:Nat}(I:Inv X pins σ H s)(m:∀b,O b->fO (H b))(hd:DVs (gx X) O H xs ds)(r:Vals xs its)(hz:xs.length<=sizeLine)
  (kp:∀b o,s.heap.get? b=some o->h'.get? b=some o) (e:∃n,h'.get? s.heap.objs.size=some { cls:=.type "list",data:=.seq its.toArray n }) (q:∀p H',aK H H'->H p=none->OV (gx X) (Op O p) H' p (.lst ds)->Q (.ref p) H'):EP X pins σ Q (.ref s.heap.objs.size) { s with heap:=h',toks:=tk }:=by
 have hf:H s.heap.objs.size=none:=I.hok.fresh (Nat.le_refl _)
 obtain ⟨n,e⟩:=e
 refine ⟨.ref s.heap.objs.size,upd H s.heap.objs.size (.lst xs),I.laid kp (Nat.le_refl _) ⟨hz,its,n,r,e⟩,rfl,q _ _ (bJ hf _) hf ⟨xs,aZ,?_⟩⟩
 exact (hd.bT fun b z=>z.elim .inl fun e=>.inr (by rw [e]; exact hf)).mono (bJ hf _)
theorem Nq {G:Gx}{O:Addr->Prop}{H:Hp}{r:D}{Q:VK}(m:∀b,O b->fO (H b))(q:∀v H',aK H H'->DV G O H' v r->Q v H'):∀p H',aK H H'->H p=none->OV G (Op O p) H' p r->Q (.ref p) H':=fun p H' g n o=>
 q _ H' g ((o.bT fun b z=>.inl (.inl z)).dv fun z=>by
  have:=m p z
  rw [n] at this
  rcases this with ⟨_,e⟩ | ⟨_,e⟩ | ⟨_,e⟩ <;> cases e)
noncomputable def Yg (G:Gx):R2:=fun x y H Q=>∃O ds es,(∀b,O b->fO (H b))/\DW G O H x (.lst ds)/\DW G O H y (.lst es)/\ds.length+es.length<=sizeLine/\∀p H',aK H H'->H p=none->OV G (Op O p) H' p (.lst (ds++es))->Q (.ref p) H'
theorem Q8:OpR X (binaryOp .Add) (Yg (gx X)):=by
 intro pins s σ H x y v u Q I rx ry h
 obtain ⟨O,ds,es,m,hx,hy,hz,q⟩:=h
 obtain ⟨a,xs,rfl,ha,hd⟩:=iY hx
 obtain ⟨b,ys,rfl,hb,he⟩:=iY hy
 cases rx
 cases ry
 obtain ⟨its,r1,p1,_⟩:=I.list ha
 obtain ⟨its2,r2,p2,_⟩:=I.list hb
 have l1:=bN hd
 have l2:=bN he
 have k1:=r1.length
 have k2:=r2.length
 obtain ⟨⟨cls,dd,data,sl⟩,ho,hc,n,hdt⟩:=id p1.isList
 obtain ⟨⟨cls2,dd2,data2,sl2⟩,ho2,hc2,n2,hd2⟩:=id p2.isList
 simp only at hc hdt hc2 hd2
 subst hc hdt hc2 hd2
 refine concat_meets ⟨_,ho,rfl⟩ ⟨_,ho2,rfl⟩ noFill_list_add seq_list_add PySem.F.slot_list_add PySem.F.entry_list_add (PySem.F.args_list_add_2 _ _) (list_addW a b its.toArray its2.toArray n n2 dd dd2 sl sl2 (by simp; omega)) ⟨ho,ho2,?_⟩
 rw [show its.toArray++its2.toArray=(its++its2).toArray by simp]
 exact QR (tk:=s.toks) I m (jh hd he) (r1.append r2) (by rw [List.length_append]; omega) (fun b o e=>Heap.get?_push_of_some _ e) ⟨0,Heap.get?_push_size _ rfl⟩ q
theorem MN:OpR X (binaryOp .Add) (fun x y H Q=>∃O ds es,DW (gx X) O H x (.tup ds)/\DW (gx X) O H y (.tup es)/\ds.length+es.length<=sizeLine/\∀v H',aK H H'->DV (gx X) O H' v (.tup (ds++es))->Q v H'):=by
 intro pins s σ H x y v u Q I rx ry h
 obtain ⟨O,ds,es,hx,hy,hz,q⟩:=h
 obtain ⟨a,xs,rfl,ha,hd⟩:=xK hx
 obtain ⟨b,ys,rfl,hb,he⟩:=xK hy
 have l1:=bN hd
 have l2:=bN he
 by_cases hx0:xs=[]
 ·subst hx0
  cases hd
  cases rx
  cases ry
  obtain ⟨its,r1,p1,_⟩:=I.tuple ha.sq
  obtain ⟨its2,r2,p2,_⟩:=I.tuple hb.sq
  cases r1
  obtain ⟨⟨cls,dd,data,sl⟩,ho,hc,n,hdt⟩:=id p1
  obtain ⟨⟨cls2,dd2,data2,sl2⟩,ho2,hc2,n2,hd2⟩:=id p2
  simp only at hc hdt hc2 hd2
  subst hc hdt hc2 hd2
  exact concat_meets ⟨_,ho,rfl⟩ ⟨_,ho2,rfl⟩ noFill_tuple_add seq_tuple_add PySem.F.slot_tuple_add PySem.F.entry_tuple_add (PySem.F.args_tuple_add_2 _ _)
   (tuple_addW0 a b ([]:List Value).toArray its2.toArray n n2 dd dd2 sl sl2 (by rfl)) ⟨ho,ho2,⟨.ref b,H,I,rfl,q _ _ (aK.refl _) (.tup hb he)⟩⟩
 ·refine Tg pins s σ H _ _ v u Q I rx ry ⟨a,b,xs,ys,rfl,rfl,ha.sq,hb.sq,hx0,by omega,fun z=>?_,fun z p hp=>?_⟩
  ·subst z
   cases he
   exact q _ _ (aK.refl _) (by rw [List.append_nil]; exact .tup ha hd)
  ·exact q _ _ (bJ hp _) (.tup (SqU.of aZ) ((jh hd he).mono (bJ hp _)))
theorem bM:OpR X (binaryOp .Add) (rG (gx X) cC):=by
 intro pins s σ H x y v u Q I rx ry h
 obtain ⟨O,d,e,r,m,hx,hy,hr,q⟩:=h
 match d,e,hr with
 | .int i,.int j,hr=>
  cases hr
  exact Wg pins s σ H x y v u Q I rx ry ⟨i,j,cB hx,cB hy,q _ _ (aK.refl _) (.int _)⟩
 | .str i,.str j,hr=>
  obtain ⟨z,rfl⟩:=oif hr
  exact GJ pins s σ H x y v u Q I rx ry ⟨i,j,lC hx,lC hy,z,q _ _ (aK.refl _) (.str _)⟩
 | .lst ds,.lst es,hr=>
  obtain ⟨z,rfl⟩:=oif hr
  exact Q8 pins s σ H x y v u Q I rx ry ⟨O,ds,es,m,hx,hy,z,Nq m q⟩
 | .tup ds,.tup es,hr=>
  obtain ⟨z,rfl⟩:=oif hr
  exact MN pins s σ H x y v u Q I rx ry ⟨O,ds,es,hx,hy,z,q⟩
theorem eG:OpR X (binaryOp .Sub) (rG (gx X) eN):=by
 intro pins s σ H x y v u Q I rx ry h
 obtain ⟨O,d,e,r,m,hx,hy,hr,q⟩:=h
 match d,e,hr with
 | .int i,.int j,hr=>
  cases hr
  exact V4 pins s σ H x y v u Q I rx ry ⟨i,j,cB hx,cB hy,q _ _ (aK.refl _) (.int _)⟩
theorem iM:OpR X (binaryOp .Mult) (rG (gx X) mV):=by
 intro pins s σ H x y v u Q I rx ry h
 obtain ⟨O,d,e,r,m,hx,hy,hr,q⟩:=h
 match d,e,hr with
 | .int i,.int j,hr=>
  obtain ⟨z,rfl⟩:=oif hr
  exact Q5 pins s σ H x y v u Q I rx ry ⟨i,j,cB hx,cB hy,z,q _ _ (aK.refl _) (.int _)⟩
theorem dC:OpR X (binaryOp .FloorDiv) (rG (gx X) eY):=by
 intro pins s σ H x y v u Q I rx ry h
 obtain ⟨O,d,e,r,m,hx,hy,hr,q⟩:=h
 match d,e,hr with
 | .int i,.int j,hr=>
  obtain ⟨z,rfl⟩:=oif hr
  refine Qd pins s σ H x y v u Q I rx ry ⟨i,j,cB hx,cB hy,z,?_⟩
  have e:i.fdiv j=dvI i j:=by
   unfold dvI
   split
   ·rw [Int.fdiv_eq_ediv_of_nonneg i (by omega)]
   ·rfl
  show Q (.int (i.fdiv j)) H
  rw [e]
  exact q _ _ (aK.refl _) (.int _)
theorem bH:OpR X (binaryOp .Mod) (rG (gx X) bQ):=by
 intro pins s σ H x y v u Q I rx ry h
 obtain ⟨O,d,e,r,m,hx,hy,hr,q⟩:=h
 match d,e,hr with
 | .int i,.int j,hr=>
  obtain ⟨z,rfl⟩:=oif hr
  refine Te pins s σ H x y v u Q I rx ry ⟨i,j,cB hx,cB hy,z,?_⟩
  have e:i.fmod j=mdI i j:=by
   unfold mdI
   split
   ·rw [Int.fmod_eq_emod_of_nonneg i (by omega)]
   ·rfl
  show Q (.int (i.fmod j)) H
  rw [e]
  exact q _ _ (aK.refl _) (.int _)
theorem rH:UnR X (unaryOp .USub) (rG1 (gx X) rE):=by
 intro pins s σ H x v Q I rx h
 obtain ⟨O,d,r,m,hx,hr,q⟩:=h
 match d,hr with
 | .int i,hr=>
  cases hr
  exact V3 pins s σ H x v Q I rx ⟨i,cB hx,q _ _ (aK.refl _) (.int _)⟩
mutual
noncomputable def toPy:D->Option PyData
 | .non=>some .none
 | .bl b=>some (.bool b)
 | .int i=>some (.int i)
 | .str x=>some (.str x)
 | .tup xs=>(wI xs).map .tuple
 | .lst xs=>(wI xs).map .list
 | .exc _=>none
 | .dct _ _=>none
 | .dcu _ _=>none
 | .adr _=>none
 | .dcf _ _=>none
noncomputable def wI:List D->Option (List PyData)
 |[]=>some []
 |d::ds=>(toPy d).bind fun p=>(wI ds).map fun ps=>p::ps
end
mutual
theorem HY {G:Gx}{O:Addr->Prop}{H:Hp}:∀{v:V} {d:D} {p:PyData},DV G O H v d->toPy d=some p->Hd.DV G.K H v p
 |_,_,_,.non,e=>by cases e; exact .non
 |_,_,_,.bl b,e=>by cases e; exact .bl b
 |_,_,_,.int i,e=>by cases e; exact .int i
 |_,_,_,.str x,e=>by cases e; exact .str x
 |_,_,_,.exc _ _,e=>by cases e
 |_,_,_,.tup h hs,e=>by
  obtain ⟨ps,e1,rfl⟩:=omap (by simpa [toPy] using e)
  exact .tup h.sq (yX hs e1)
 |_,_,_,.lst h hs,e=>by
  obtain ⟨ps,e1,rfl⟩:=omap (by simpa [toPy] using e)
  exact .lst h.sq (yX hs e1)
 |_,_,_,.dct _ _ _ _ _,e=>by cases e
 |_,_,_,.dcu _ _ _ _ _,e=>by cases e
 |_,_,_,.adr _,e=>by cases e
 |_,_,_,.dcf _ _ _ _,e=>by cases e
theorem yX {G:Gx}{O:Addr->Prop}{H:Hp}:∀{vs:List V} {ds:List D} {ps:List PyData},DVs G O H vs ds->wI ds=some ps->Hd.DVs G.K H vs ps
 |_,_,_,.nil,e=>by cases e; exact .nil
 |_,_,_,.cons (d:=d) (ds:=ds) h hs,e=>by
  unfold wI at e
  cases e1:toPy d with
  |none=>rw [e1] at e; cases e
  |some p=>
   rw [e1] at e
   obtain ⟨ps,e2,rfl⟩:=omap e
   exact .cons (HY h e1) (yX hs e2)
end
theorem xQ {G:Gx}{O:Addr->Prop}{H:Hp}{v:V}{d:D}{p:PyData}(h:DW G O H v d)(e:toPy d=some p):Hd.DV G.K H v p:=HY h.any e
noncomputable def wz (d e:D):Option Bool:=match toPy d,toPy e with
 |some p,some q=>if SeqAt.shaped p=true/\SeqAt.shaped q=true then some (PyData.eqv p q) else none
 |_,_=>none
noncomputable def gEq:D->D->Option Bool
 | .int i,.int j=>some (decide (i=j))
 | .str i,.str j=>some (decide (i=j))
 | .bl i,.bl j=>some (decide (i=j))
 | .non,.non=>some true
 |d,e=>wz d e
noncomputable def gNe (d e:D):Option Bool:=(gEq d e).map (!·)
theorem Ab {d e:D}{b:Bool}(h:wz d e=some b):∃p q,toPy d=some p/\toPy e=some q/\SeqAt.shaped p=true/\SeqAt.shaped q=true/\PyData.eqv p q=b:=by
 unfold wz at h
 cases e1:toPy d with
 |none=>rw [e1] at h; cases h
 |some p=>
  cases e2:toPy e with
  |none=>rw [e1,e2] at h; cases h
  |some q=>
   rw [e1,e2] at h
   obtain ⟨⟨z1,z2⟩,rfl⟩:=oif h
   exact ⟨p,q,rfl,rfl,z1,z2,rfl⟩
theorem zV {d e:D}{b:Bool}(h:gEq d e=some b):(∃i j,d=.int i/\e=.int j/\b=decide (i=j))\/(∃i j,d=.str i/\e=.str j/\b=decide (i=j))\/(∃i j,d=.bl i/\e=.bl j/\b=decide (i=j))\/(d=.non/\e=.non/\b=true)\/wz d e=some b:=by
 unfold gEq at h
 split at h
 ·cases h; exact .inl ⟨_,_,rfl,rfl,rfl⟩
 ·cases h; exact .inr (.inl ⟨_,_,rfl,rfl,rfl⟩)
 ·cases h; exact .inr (.inr (.inl ⟨_,_,rfl,rfl,rfl⟩))
 ·cases h; exact .inr (.inr (.inr (.inl ⟨rfl,rfl,rfl⟩)))
 ·exact .inr (.inr (.inr (.inr h)))
theorem gU (hu:X.A.units+64<cLine):OpR X (compareOp .Eq) (rGB (gx X) gEq):=by
 intro pins s σ H x y v u Q I rx ry h
 obtain ⟨O,d,e,r,m,hx,hy,hr,q⟩:=h
 rcases zV hr with ⟨i,j,rfl,rfl,rfl⟩ | ⟨i,j,rfl,rfl,rfl⟩ | ⟨i,j,rfl,rfl,rfl⟩ | ⟨rfl,rfl,rfl⟩ | h
 ·cases cB hx; cases cB hy
  exact JZ pins s σ H _ _ v u Q I rx ry ⟨rfl,by simpa using q⟩
 ·cases lC hx; cases lC hy
  exact JZ pins s σ H _ _ v u Q I rx ry ⟨rfl,by simpa using q⟩
 ·cases Ka hx; cases Ka hy
  exact JZ pins s σ H _ _ v u Q I rx ry ⟨rfl,by simpa using q⟩
 ·cases CP hx; cases CP hy
  exact JZ pins s σ H _ _ v u Q I rx ry ⟨rfl,by simpa using q⟩
 ·obtain ⟨p,p',e1,e2,z1,z2,rfl⟩:=Ab h
  exact W0 hu pins s σ H x y v u Q I rx ry ⟨p,p',xQ hx e1,xQ hy e2,z1,z2,q⟩
theorem pG (hu:X.A.units+64<cLine):OpR X (compareOp .NotEq) (rGB (gx X) gNe):=by
 intro pins s σ H x y v u Q I rx ry h
 obtain ⟨O,d,e,r,m,hx,hy,hr,q⟩:=h
 obtain ⟨c,hc,rfl⟩:=omap hr
 rcases zV hc with ⟨i,j,rfl,rfl,rfl⟩ | ⟨i,j,rfl,rfl,rfl⟩ | ⟨i,j,rfl,rfl,rfl⟩ | ⟨rfl,rfl,rfl⟩ | h
 ·cases cB hx; cases cB hy
  exact JQ pins s σ H _ _ v u Q I rx ry ⟨rfl,by simpa using q⟩
 ·cases lC hx; cases lC hy
  exact JQ pins s σ H _ _ v u Q I rx ry ⟨rfl,by simpa using q⟩
 ·cases Ka hx; cases Ka hy
  exact JQ pins s σ H _ _ v u Q I rx ry ⟨rfl,by simpa using q⟩
 ·cases CP hx; cases CP hy
  exact JQ pins s σ H _ _ v u Q I rx ry ⟨rfl,by simpa using q⟩
 ·obtain ⟨p,p',e1,e2,z1,z2,rfl⟩:=Ab h
  exact Vo hu pins s σ H x y v u Q I rx ry ⟨p,p',xQ hx e1,xQ hy e2,z1,z2,q⟩
noncomputable def uU:List D->Option (List Int)
 |[]=>some []
 | .int i::ds=>(uU ds).map (i::·)
 |_::_=>none
theorem xH {G:Gx}{O:Addr->Prop}{H:Hp}:∀{vs:List V} {ds:List D} {ns:List Int},DVs G O H vs ds->uU ds=some ns->vs=ns.map V.int
 |_,_,_,.nil,e=>by cases e; rfl
 |_,_,_,.cons (d:=d) h hs,e=>by
  cases d with
  |int i=>
   obtain ⟨ns,e1,rfl⟩:=omap (by simpa [uU] using e)
   cases h
   rw [xH hs e1]
   rfl
  |_=>cases e
noncomputable def gLt:D->D->Option Bool
 | .int i,.int j=>some (decide (i<j))
 | .tup a,.tup b=>match uU a,uU b with
  |some ns,some ms=>some (HT.lexLt ns ms)
  |_,_=>none
 |_,_=>none
noncomputable def gGt:D->D->Option Bool
 | .int i,.int j=>some (decide (j<i))
 |_,_=>none
noncomputable def gGe:D->D->Option Bool
 | .int i,.int j=>some (decide (j<=i))
 |_,_=>none
theorem CG (hu:X.A.units+64<cLine):OpR X (compareOp .Lt) (rGB (gx X) gLt):=by
 intro pins s σ H x y v u Q I rx ry h
 obtain ⟨O,d,e,r,m,hx,hy,hr,q⟩:=h
 match d,e,hr with
 | .int i,.int j,hr=>cases hr; exact XC pins s σ H x y v u Q I rx ry ⟨i,j,cB hx,cB hy,q⟩
 | .tup a,.tup b,hr=>
  unfold gLt at hr
  cases e1:uU a with
  |none=>simp only [e1] at hr; cases hr
  |some ns=>
   cases e2:uU b with
   |none=>simp only [e1,e2] at hr; cases hr
   |some ms=>
    simp only [e1,e2] at hr
    cases hr
    obtain ⟨p,xs,rfl,hp,hd⟩:=sX hx
    obtain ⟨p',ys,rfl,hp',hd'⟩:=sX hy
    exact W5 (by omega) pins s σ H _ _ v u Q I rx ry ⟨p,p',ns,ms,rfl,rfl,by rw [← xH hd e1]; exact hp,by rw [← xH hd' e2]; exact hp',q⟩
theorem o8:OpR X (compareOp .Gt) (rGB (gx X) gGt):=by
 intro pins s σ H x y v u Q I rx ry h
 obtain ⟨O,d,e,r,m,hx,hy,hr,q⟩:=h
 match d,e,hr with
 | .int i,.int j,hr=>cases hr; exact Xb pins s σ H x y v u Q I rx ry ⟨i,j,cB hx,cB hy,q⟩
theorem Oc:OpR X (compareOp .GtE) (rGB (gx X) gGe):=by
 intro pins s σ H x y v u Q I rx ry h
 obtain ⟨O,d,e,r,m,hx,hy,hr,q⟩:=h
 match d,e,hr with
 | .int i,.int j,hr=>cases hr; exact XJ pins s σ H x y v u Q I rx ry ⟨i,j,cB hx,cB hy,q⟩
end
open PySem PySem.Spec PyProof.Rows L2 Hd
section
variable {X:Cx}{E:XK}{e a b:Expr}{es:List Expr}{f fa:Me->Res D}{fs:Me->Res (List D)}{pos p:Pos}
noncomputable def gIx:D->D->Option D
 | .lst ds,.int i=>atI ds i
 | .tup ds,.int i=>atI ds i
 | .str z,.int i=>if z.length<=sizeLine then (atI z.cps.toList i).map fun c=>.str ⟨#[c]⟩ else none
 |_,_=>none
theorem Ir {G:Gx}{O:Addr->Prop}{H:Hp}{xs:List V}{ds:List D}{i:Int}{d:D}(h:DVs G O H xs ds)(e:atI ds i=some d):∃x,atI xs i=some x/\DV G O H x d:=by
 unfold atI at e ⊢
 rw [bN h]
 cases q:ixN ds.length i with
 |none=>rw [q] at e; cases e
 |some j=>rw [q] at e; exact ud h e
theorem n8:IxR X (rG (gx X) gIx):=by
 intro value slice pins s σ H x y v u Q I rx ry h hs
 obtain ⟨O,d,e,r,m,hx,hy,hr,q⟩:=h
 match d,e,hr with
 | .lst ds,.int i,hr=>
  cases cB hy
  obtain ⟨p,xs,rfl,hp,hd⟩:=iY hx
  obtain ⟨z,hz,dz⟩:=Ir hd hr
  exact Q7 value slice pins s σ H _ _ v u Q I rx ry ⟨p,xs,i,z,rfl,rfl,hp,hz,q _ _ (aK.refl _) dz⟩ hs
 | .tup ds,.int i,hr=>
  cases cB hy
  obtain ⟨p,xs,rfl,hp,hd⟩:=sX hx
  obtain ⟨z,hz,dz⟩:=Ir hd hr
  exact VN value slice pins s σ H _ _ v u Q I rx ry ⟨p,xs,i,z,rfl,rfl,hp,hz,q _ _ (aK.refl _) dz⟩ hs
 | .str z,.int i,hr=>
  cases cB hy
  cases lC hx
  have hr':(if z.length<=sizeLine then (atI z.cps.toList i).map fun c=>D.str ⟨#[c]⟩ else none)=some r:=hr
  by_cases hz:z.length<=sizeLine
  ·rw [if_pos hz] at hr'
   obtain ⟨c,hc,rfl⟩:=omap hr'
   exact Vm value slice pins s σ H _ _ v u Q I rx ry ⟨z,i,c,rfl,rfl,hz,hc,q _ _ (aK.refl _) (.str _)⟩ hs
  ·rw [if_neg hz] at hr'; cases hr'
noncomputable def tO (G:Gx)(E:XK)(f:Me->Res (Option Int)):TO:=fun σ H Q=>∃O0 M0 H0 ow m,Rel G O0 M0 H0 ow σ H m/\Pu G E (f m) H fun o=>∀H',aK H H'->Q o H'
noncomputable abbrev FO (X:Cx)(E:XK)(e:Option Expr)(f:Me->Res (Option Int)):Prop:=PO X e (tO (gx X) E f)
theorem Jm {e:Option Expr}{T T':TO}(h:PO X e T)(k:∀σ H Q,T' σ H Q->T σ H Q):PO X e T':=fun pins s σ H Q I q=>h pins s σ H Q I (k σ H Q q)
noncomputable def fO0:Me->Res (Option Int):=fun _=>.ok none
noncomputable def fO1 (f:Me->Res D):Me->Res (Option Int):=fun m=>(f m).bind fun d=>match d with
 | .int i=>.ok (some i)
 |_=>.stuck
theorem Cg:FO X E none fO0:=Jm Rp fun σ H Q hE=>xq5 hE fun O0 M0 H0 ow m R q=>q H (aK.refl _)
theorem oW (h:FB X E e f):FO X E (some e) (fO1 f):=Jm (Rw h) fun σ H Q hE=>xq5 hE fun O0 M0 H0 ow m R q=>⟨O0,M0,H0,ow,m,R,q.bind.imp (aK.refl _) fun d q v H' g hv=>by
 cases d with
 |int i=>cases cB hv; exact ⟨i,rfl,q H' g⟩
 |_=>exact q.elim⟩
noncomputable def cut {α:Type}(xs:List α)(lo hi:Option Int):List α:=(xs.drop (HT.sIx xs.length 0 lo)).take (HT.sIx xs.length xs.length hi - HT.sIx xs.length 0 lo)
noncomputable def gSl:D->Option Int->Option Int->Option D
 | .lst ds,lo,hi=>some (.lst (cut ds lo hi))
 | .tup ds,lo,hi=>if HT.sIx ds.length 0 lo=0/\HT.sIx ds.length ds.length hi=ds.length then none else some (.tup (cut ds lo hi))
 | .str z,lo,hi=>if z.length<=sizeLine then some (.str (Txt.slice z lo hi)) else none
 |_,_,_=>none
noncomputable def rSl (G:Gx):V->Option Int->Option Int->Hp->VK->Prop:=fun x lo hi H Q=>∃O d r,(∀b,O b->fO (H b))/\DW G O H x d/\gSl d lo hi=some r/\∀v H',aK H H'->DV G O H' v r->Q v H'
noncomputable def ZD:D->Option Int->Option Int->Option D
 | .lst ds,lo,hi=>some (.lst (cut ds lo hi))
 |_,_,_=>none
noncomputable def Zn (G:Gx):V->Option Int->Option Int->Hp->VK->Prop:=fun x lo hi H Q=>∃O d r,(∀b,O b->fO (H b))/\DW G O H x d/\ZD d lo hi=some r/\∀p H',aK H H'->H p=none->OV G (Op O p) H' p r->Q (.ref p) H'
theorem Jz {G:Gx}{O:Addr->Prop}{H:Hp}{xs:List V}{ds:List D}{lo hi:Option Int}(h:DVs G O H xs ds):DVs G O H (Ei xs lo hi) (cut ds lo hi):=by
 unfold Ei cut
 rw [bN h]
 exact zr _ (Er _ h)
theorem YH:SlR X (Zn (gx X)):=by
 intro pins s σ H x v vl vu lo hi sl Q I rx hs pl pu h
 obtain ⟨O,d,r,m,hx,hr,q⟩:=h
 match d,hr with
 | .lst ds,hr=>
  cases hr
  obtain ⟨p,xs,rfl,hp,hd⟩:=iY hx
  exact T6 pins s σ H _ v vl vu lo hi sl Q I rx hs pl pu ⟨p,xs,rfl,hp,fun p hp'=>q p _ (bJ hp' _) hp' ⟨_,aZ,((Jz hd).bT fun b z=>z.elim .inl fun e=>.inr (by rw [e]; exact hp')).mono (bJ hp' _)⟩⟩
theorem PL {u:Value}{o:Option Int}(h:IsPart u o):∃l:Option (Int×Tok),u=partValue l/\l.map (·.1)=o:=by
 cases h with
 |none=>exact ⟨none,rfl,rfl⟩
 |int i t=>exact ⟨some (i,t),rfl,rfl⟩
theorem Zq:SlR X (rSl (gx X)):=by
 intro pins s σ H x v vl vu lo hi sl Q I rx hs pl pu h
 obtain ⟨O,d,r,m,hx,hr,q⟩:=h
 match d,hr with
 | .lst ds,hr=>exact YH pins s σ H x v vl vu lo hi sl Q I rx hs pl pu ⟨O,.lst ds,r,m,hx,hr,Nq m q⟩
 | .tup ds,hr=>
  obtain ⟨p,xs,rfl,hp,hd⟩:=sX hx
  have hr':(if HT.sIx ds.length 0 lo=0/\HT.sIx ds.length ds.length hi=ds.length then none else some (D.tup (cut ds lo hi)))=some r:=hr
  by_cases z:HT.sIx ds.length 0 lo=0/\HT.sIx ds.length ds.length hi=ds.length
  ·rw [if_pos z] at hr'; cases hr'
  ·rw [if_neg z] at hr'
   cases hr'
   exact U0 pins s σ H _ v vl vu lo hi sl Q I rx hs pl pu ⟨p,xs,rfl,hp,by rw [bN hd]; exact z,fun p hp'=>q _ _ (bJ hp' _) (.tup (SqU.of aZ) ((Jz hd).mono (bJ hp' _)))⟩
 | .str z,hr=>
  cases lC hx
  obtain ⟨t,rfl⟩:=rx
  obtain ⟨hz,rfl⟩:=oif hr
  obtain ⟨l,rfl,rfl⟩:=PL pl
  obtain ⟨u,rfl,rfl⟩:=PL pu
  refine ⟨"str",_,PySem.F.slot_str_getitem.lookup,typeIs_str _ _ _,wpAny_getItem_str_slice (l:=l) (u:=u) (st:=none) hs rfl (post_val_or_str ⟨Nat.le_trans (Txt.slice_le z _ _) hz,fun t' k=>Kg (tk:=k) I q⟩)⟩
noncomputable def fSl (f:Me->Res D)(lo hi:Me->Res (Option Int)):Me->Res D:=fun m=>(f m).bind fun d=>(lo m).bind fun l=>(hi m).bind fun u=>ofO (gSl d l u)
variable {lo hi:Option Expr}{fl fh:Me->Res (Option Int)}{p2:Pos}
theorem qU (he:FB X E e f)(hl:FO X E lo fl)(hu:FO X E hi fh):FE X E (.Subscript e (.Slice lo hi none p2) pos) (fSl f fl fh):=
 bx (QD Zq he hl hu) fun σ H Q hE=>xq5 hE fun O0 M0 H0 ow m R q=>⟨O0,M0,H0,ow,m,R,q.bind.imp (aK.refl _) fun d q v H1 g1 hv=>⟨O0,M0,H0,ow,m,R.mono g1,q.bind.imp g1 fun l q H2 g2=>⟨O0,M0,H0,ow,m,R.mono (g1.trans g2),q.bind.imp (g1.trans g2) fun u q H3 g3=>by
  obtain ⟨r,hr,k⟩:=q.ofO
  exact ⟨_,d,r,(R.mono ((g1.trans g2).trans g3)).mutk,hv.mono (g2.trans g3),hr,fun v H' g d=>k v H' (((g1.trans g2).trans g3).trans g) d⟩⟩⟩⟩
noncomputable def ie:List D->Option D
 |[.lst ds]=>some (.int ds.length)
 |[.tup ds]=>some (.int ds.length)
 |[.str z]=>if z.length<=sizeLine then some (.int z.length) else none
 |[.dct ks _]=>some (.int ks.length)
 |_=>none
theorem uZ {G:Gx}{O:Addr->Prop}{H:Hp}{vs:List V}{d:D}(h:DWs G O H vs [d]):∃v,vs=[v]/\DW G O H v d:=by
 match h with
 | .cons a .nil=>exact ⟨_,rfl,a⟩
theorem dR:jD X (.builtin "len") (rGC (gx X) ie):=by
 intro pins s σ H xs us Q I r h
 obtain ⟨O,ds,d,m,hx,hr,q⟩:=h
 match ds,hr with
 |[.lst ds],hr=>
  cases hr
  obtain ⟨v,rfl,hv⟩:=uZ hx
  obtain ⟨p,xs,rfl,hp,hd⟩:=iY hv
  exact uX pins s σ H _ us Q I r ⟨p,xs,rfl,.inl hp,by rw [bN hd]; exact q _ _ (aK.refl _) (.int _)⟩
 |[.tup ds],hr=>
  cases hr
  obtain ⟨v,rfl,hv⟩:=uZ hx
  obtain ⟨p,xs,rfl,hp,hd⟩:=sX hv
  exact uX pins s σ H _ us Q I r ⟨p,xs,rfl,.inr hp,by rw [bN hd]; exact q _ _ (aK.refl _) (.int _)⟩
 |[.str z],hr=>
  obtain ⟨hz,rfl⟩:=oif hr
  obtain ⟨v,rfl,hv⟩:=uZ hx
  cases lC hv
  exact Cr pins s σ H _ us Q I r ⟨z,rfl,hz,q _ _ (aK.refl _) (.int _)⟩
 |[.dct ks vs],hr=>
  cases hr
  obtain ⟨v,rfl,hv⟩:=uZ hx
  obtain ⟨p,kvs,ws,rfl,hp,e1,e2,hd⟩:=Gk hv
  exact Le pins s σ H _ us Q I r ⟨p,kvs,rfl,hp,by rw [show kvs.length=ks.length by rw [← e1,List.length_map]]; exact q _ _ (aK.refl _) (.int _)⟩
noncomputable def Gf:List D->Option D
 |[.int i]=>some (.int (if i<0 then -i else i))
 |_=>none
theorem rW:jD X (.builtin "abs") (rGC (gx X) Gf):=by
 intro pins s σ H xs us Q I r h
 obtain ⟨O,ds,d,m,hx,hr,q⟩:=h
 match ds,hr with
 |[.int i],hr=>
  cases hr
  obtain ⟨v,rfl,hv⟩:=uZ hx
  cases cB hv
  exact Oa pins s σ H _ us Q I r ⟨i,rfl,q _ _ (aK.refl _) (.int _)⟩
noncomputable def jZ:List D->Option D
 |[.lst ds]=>some (.tup ds)
 |[.tup ds]=>some (.tup ds)
 |_=>none
theorem mz:jD X (.type "tuple") (rGC (gx X) jZ):=by
 intro pins s σ H xs us Q I r h
 obtain ⟨O,ds,d,m,hx,hr,q⟩:=h
 match ds,hr with
 |[.lst ds],hr=>
  cases hr
  obtain ⟨v,rfl,hv⟩:=uZ hx
  obtain ⟨p,xs,rfl,hp,hd⟩:=iY hv
  exact sO pins s σ H _ us Q I r ⟨p,xs,rfl,.inl ⟨hp,fun l hl=>q _ _ (bJ hl _) (.tup (SqU.of aZ) (hd.mono (bJ hl _)))⟩⟩
 |[.tup ds],hr=>
  cases hr
  obtain ⟨v,rfl,hv⟩:=uZ hx
  obtain ⟨p,xs,rfl,hp,hd⟩:=xK hv
  exact sO pins s σ H _ us Q I r ⟨p,xs,rfl,.inr ⟨hp.sq,q _ _ (aK.refl _) (.tup hp hd)⟩⟩
noncomputable def xU:List D->Option D
 |[.lst ds]=>some (.lst ds)
 |[.tup ds]=>some (.lst ds)
 |_=>none
theorem yL:jD X (.type "list") (Vl (gx X) xU):=by
 intro pins s σ H xs us Q I r h
 obtain ⟨O,ds,d,m,hx,hr,q⟩:=h
 have go:∀{p:Addr} {ys:List V} {ds:List D},(SqL X.K H p ys\/SqT X.K H p ys)->DVs (gx X) O H ys ds->(∀p H',aK H H'->H p=none->OV (gx X) (Op O p) H' p (.lst ds)->Q (.ref p) H')->Vals [V.ref p] us->wpAny (model X.prog X.w) X.A (call (.type "list") us) (EP X pins σ Q) X.xe s:=
  fun hp hd q r=>BP pins s σ H _ us Q I r ⟨_,_,rfl,hp,fun l hl=>q _ _ (bJ hl _) hl ⟨_,aZ,(hd.bT fun b z=>z.elim .inl fun e=>.inr (by rw [e]; exact hl)).mono (bJ hl _)⟩⟩
 match ds,hr with
 |[.lst ds],hr=>
  cases hr
  obtain ⟨v,rfl,hv⟩:=uZ hx
  obtain ⟨p,xs,rfl,hp,hd⟩:=iY hv
  exact go (.inl hp) hd q r
 |[.tup ds],hr=>
  cases hr
  obtain ⟨v,rfl,hv⟩:=uZ hx
  obtain ⟨p,xs,rfl,hp,hd⟩:=sX hv
  exact go (.inr hp) hd q r
noncomputable def kh:D->String
 | .non=>"NoneType"
 | .bl _=>"bool"
 | .int _=>"int"
 | .str _=>"str"
 | .tup _=>"tuple"
 | .lst _=>"list"
 | .dct _ _=>"dict"
 | .dcu _ _=>"dict"
 | .exc _=>""
 | .dcf _ _=>""
 | .adr _=>""
noncomputable def Lw (t T:String):Bool:=t == T || (t == "bool" && T == "int")
noncomputable def kinds:List String:=["NoneType", "bool", "int", "str", "tuple", "list", "dict"]
theorem QT {K:W.Frag}{t:String}:PySem.W.kitOne K (.type t) (.type t)=some true:=by unfold PySem.W.kitOne; rw [if_pos (by simp)]
theorem SJ {K:W.Frag}:∀t∈kinds,∀T∈kinds,PySem.W.kitOne K (.type t) (.type T)=some (Lw t T):=by
 intro t ht T hT
 simp only [kinds,List.mem_cons,List.not_mem_nil,or_false] at ht hT
 rcases ht with rfl | rfl | rfl | rfl | rfl | rfl | rfl <;> rcases hT with rfl | rfl | rfl | rfl | rfl | rfl | rfl <;> first | exact QT | kernel_rfl
theorem PB {G:Gx}{O:Addr->Prop}{H:Hp}{v:V}{d:D}(h:DW G O H v d)(n:kh d≠""):kh d∈kinds/\TyK G.K H v (.type (kh d)):=by
 have z:=h.any
 cases z with
 |non=>exact ⟨by simp [kh,kinds],.of .non⟩
 |bl b=>exact ⟨by simp [kh,kinds],.of (.bl b)⟩
 |int b=>exact ⟨by simp [kh,kinds],.of (.int b)⟩
 |str b=>exact ⟨by simp [kh,kinds],.of (.str b)⟩
 |exc _ _=>exact absurd rfl n
 |dcf _ _ _ _=>exact absurd rfl n
 |adr _=>exact absurd rfl n
 |tup hq _=>exact ⟨by simp [kh,kinds],.tup hq.sq⟩
 |lst hq _=>exact ⟨by simp [kh,kinds],.lst hq.sq⟩
 |dct _ e _ _ _=>exact ⟨by simp [kh,kinds],.of (.dK e)⟩
 |dcu _ e _ _ _=>exact ⟨by simp [kh,kinds],.of (.dT e)⟩
noncomputable def vO (T:String)(f:Me->Res D):Me->Res D:=fun m=>(f m).bind fun d=>if kh d = "" then .stuck else .ok (.bl (Lw (kh d) T))
theorem qR {x y:Str}{py:Pos}{T:String}(ha:FB X E a fa)(hg:Gl X "isinstance")(hm:X.mg "isinstance" = none)(hv:bootBuiltins "isinstance" = some (.builtin "isinstance"))(hgy:Gl X y)(hmy:X.mg y=none)(hvy:bootBuiltins y=some (.type T))(hT:T∈kinds:=by decide)
  (hny:y≠"__name__":=by decide) (hdy:(y == ("__debug__" : Str))=false:=by decide)
  (he:starEach [a,.Name y py] X.env=(false,eval a X.env)::starEach [.Name y py] X.env:=by rfl) (he2:starEach [.Name y py] X.env=(false,eval (.Name y py) X.env)::starEach [] X.env:=by rfl) (hpl:(backTo pos (starEach [.Name y py] X.env)).any (·.1)=false:=by rfl):
  FE X E (.Call (.Name "isinstance" p) [a,.Name y py] [] pos) (vO T fa):=
 bx (DN K7 hg hm hv (jY ha (jY (RN (v:=.ty T) hgy hmy hvy rfl hny hdy) qQ he2) he) (by decide) (by decide) he hpl) fun σ H Q hE=>xq5 hE fun O0 M0 H0 ow m R q=>⟨O0,M0,H0,ow,m,R,q.bind.imp (aK.refl _) fun d q v H' g hv=>by
  by_cases n:kh d = ""
  ·rw [if_pos n] at q; exact q.elim
  ·rw [if_neg n] at q
   obtain ⟨k1,k2⟩:=PB hv n
   exact ⟨v,.ty T,_,_,_,rfl,rfl,k2,SJ _ k1 T hT,q _ _ g (.bl _)⟩⟩
end
open PySem PySem.Spec PyProof.Rows L2 Hd
section
variable {G:Gx}{O0 M0:Addr->Prop}{H0 H H':Hp}{ow:Os}{σ:L2.St}{m:Me}
theorem cV.chg {i:Nat}{a:Addr}{d d':D}{s':Sl}(R:cV G O0 M0 H0 ow σ H m)(ho:ow i=some a)(g:Kp (· = a) H H')(h:OV G (Ow O0 ow) H' a d')
  (hs:(m[i]? = some (.ow d)/\s'=.ow d')\/(m[i]? = some (.io d)/\s'=.io d')):cV G O0 M0 H0 ow σ H' (m.set i s'):=by
 have oa:Ow O0 ow a:=.inr ⟨i,ho⟩
 have kp:Kp (Ow O0 ow) H H':=fun b u e n=>g b u e fun z=>n (z ▸ oa)
 have hi:i<m.length:=by rcases hs with ⟨e,_⟩ | ⟨e,_⟩ <;> exact qO e
 have ne:∀b o,H b=some o->b≠a->H' b=H b:=fun b o e n=>by rw [e]; exact g b o e n
 refine ⟨⟨by simp [R.len],fun b u e n=>?_,fun b z=>?_,fun b z=>?_,R.no0,R.inj,fun j hj=>R.out j (by simpa using hj),fun j s e=>?_⟩,xX R.nb fun _ z=>by rcases hs with ⟨_,w⟩ | ⟨_,w⟩ <;> (rw [w] at z; cases z)⟩
 ·refine g b u (R.keep b u e n) fun z=>?_
  subst z
  rcases hs with ⟨q,_⟩ | ⟨q,_⟩
  ·obtain ⟨a',e1,e2,_⟩:=R.slot i _ q
   rw [ho] at e1; cases e1
   rw [e2] at e; cases e
  ·obtain ⟨a',e1,e2,_⟩:=R.slot i _ q
   rw [ho] at e1; cases e1
   exact n e2
 ·by_cases q:b=a
  ·rw [q]
   have:=h.mut
   intro w
   rw [w] at this
   rcases this with ⟨_,e⟩ | ⟨_,e⟩ | ⟨_,e⟩ <;> cases e
  ·cases w:H b with
   |none=>exact absurd w (R.m0 b z)
   |some o=>rw [g b o w q]; simp
 ·by_cases q:b=a
  ·rw [q]; exact h.mut
  ·have:=R.mutk b z
   rcases this with ⟨_,e⟩ | ⟨_,e⟩ | ⟨_,e⟩
   ·rw [ne b _ e q]; exact .inl ⟨_,e⟩
   ·rw [ne b _ e q]; exact .inr (.inl ⟨_,e⟩)
   ·rw [ne b _ e q]; exact .inr (.inr ⟨_,e⟩)
 ·by_cases q:j=i
  ·subst q
   rw [List.getElem?_set_self hi] at e
   cases e
   rcases hs with ⟨q,rfl⟩ | ⟨q,rfl⟩
   ·obtain ⟨a',e1,e2,e3,_⟩:=R.slot j _ q
    rw [ho] at e1; cases e1
    exact ⟨a,ho,e2,e3,h⟩
   ·obtain ⟨a',e1,e2,e3,_⟩:=R.slot j _ q
    rw [ho] at e1; cases e1
    exact ⟨a,ho,e2,e3,h⟩
  ·rw [List.getElem?_set_ne (Ne.symm q)] at e
   have z:=R.slot j s e
   have other:∀{b:Addr} {d:D},ow j=some b->OV G (Ow O0 ow) H b d->OV G (Ow O0 ow) H' b d:=fun {b d} e1 h1=>by
    have nb:b≠a:=fun w=>q (R.inj j i b e1 (w ▸ ho))
    rcases h1.mut with ⟨_,e⟩ | ⟨_,e⟩ | ⟨_,e⟩ <;> exact h1.kp R.mutk kp (ne b _ e nb)
   cases s with
   |un=>exact z
   |fz d=>obtain ⟨b,x,e,q⟩:=z; exact ⟨b,x,e,q.kp R.mutk kp⟩
   |ow d=>obtain ⟨b,x,e,f,q'⟩:=z; exact ⟨b,x,e,f,other x q'⟩
   |io d=>obtain ⟨b,x,e,f,q'⟩:=z; exact ⟨b,x,e,f,other x q'⟩
   |bw d=>exact (R.nb j d e).elim
   |hd w b d=>obtain ⟨x,e,f,q'⟩:=z; exact ⟨x,e,f,other x q'⟩
theorem Go.chg {i:Nat}{a:Addr}{d:D}(ho:ow i=some a)(g:Kp (· = a) H H')(h:OV G (Ow O0 ow) H' a d):Go O0 ow H ow H':=
 ⟨fun b u e n=>g b u e fun z=>n (z ▸ .inr ⟨i,ho⟩),fun j b e=>.inl (.inr ⟨j,e⟩),fun b n=>by
  by_cases q:b=a
  ·rw [q]
   have:=h.mut
   intro w
   rw [w] at this
   rcases this with ⟨_,e⟩ | ⟨_,e⟩ | ⟨_,e⟩ <;> cases e
  ·cases w:H b with
   |none=>exact absurd w n
   |some o=>rw [g b o w q]; simp⟩
theorem nT {a:Addr}{o:HO}:Kp (· = a) H (L2.upd H a o):=fun b u e n=>by rw [L2.cL n]; exact e
noncomputable def j8 (m:Me)(i:Nat):Option (Bool×List D):=match m[i]? with
 |some (.ow (.lst ds))=>some (true,ds)
 |some (.io (.lst ds))=>some (false,ds)
 |_=>none
noncomputable def putL (m:Me)(i:Nat)(k:Bool)(ds:List D):Me:=m.set i (if k then .ow (.lst ds) else .io (.lst ds))
theorem oV (R:Rel G O0 M0 H0 ow σ H m){i:Nat}{k:Bool}{ds:List D}(e:j8 m i=some (k,ds)):∃a xs,ow i=some a/\σ[i]? = some (some (.ref a))/\H a=some (.lst xs)/\DVs G (Ow O0 ow) H xs ds/\((m[i]? = some (.ow (.lst ds))/\k=true)\/(m[i]? = some (.io (.lst ds))/\k=false)):=by
 unfold j8 at e
 split at e
 ·rename_i q
  cases e
  obtain ⟨a,e1,e2,e3,xs,e4,e5⟩:=R.slot i _ q
  exact ⟨a,xs,e1,e3,e4,e5,.inl ⟨q,rfl⟩⟩
 ·rename_i q
  cases e
  obtain ⟨a,e1,e2,e3,xs,e4,e5⟩:=R.slot i _ q
  exact ⟨a,xs,e1,e3,e4,e5,.inr ⟨q,rfl⟩⟩
 ·cases e
theorem cV.put {i:Nat}{k:Bool}{a:Addr}{ds es:List D}{ys:List V}(R:cV G O0 M0 H0 ow σ H m)(ho:ow i=some a)(hm:(m[i]? = some (.ow (.lst ds))/\k=true)\/(m[i]? = some (.io (.lst ds))/\k=false))(hd:DVs G (Ow O0 ow) H ys es):
  cV G O0 M0 H0 ow σ (L2.upd H a (.lst ys)) (putL m i k es)/\Go O0 ow H ow (L2.upd H a (.lst ys)):=by
 have oa:Ow O0 ow a:=.inr ⟨i,ho⟩
 have kp:Kp (Ow O0 ow) H (L2.upd H a (.lst ys)):=fun b u e n=>nT b u e fun z=>n (z ▸ oa)
 have ov:OV G (Ow O0 ow) (L2.upd H a (.lst ys)) a (.lst es):=⟨ys,L2.aZ,hd.kp R.mutk kp⟩
 refine ⟨R.chg (d:=.lst ds) (d':=.lst es) ho nT ov ?_,Go.chg ho nT ov⟩
 rcases hm with ⟨e,rfl⟩ | ⟨e,rfl⟩
 ·exact .inl ⟨e,rfl⟩
 ·exact .inr ⟨e,rfl⟩
end
section
variable {X:Cx}{E:XK}{e:Expr}{es:List Expr}{f:Me->Res D}{fs:Me->Res (List D)}{pos apos cpos np:Pos}{i j:Nat}{x y:Str}
noncomputable def cP (i:Nat)(f:Me->Res D):Me->Res (Fl×Me):=fun m=>(ofO (j8 m i)).bind fun o=>(f m).bind fun d=>if o.2.length<sizeLine then .ok (.nx,putL m i o.1 (o.2++[d])) else .stuck
theorem iR (i:Nat)(he:FE X E e f)(hN:X.N[i]? = some x:=by rfl)(hv:Vis X.env.scope x:=by first | exact Or.inl rfl | exact Or.inr (Or.inl rfl) | exact Or.inr (Or.inr rfl))(hd:(x == ("__debug__" : Str))=false:=by decide)(hcd:(x == ("__classdict__" : Str))=false:=by decide)
  (hbase:attributeBase (.Name x np) "append" X.env (eval (.Name x np) X.env)=eval (.Name x np) X.env:=by rfl)
  (hfew:((backTo cpos (starEach [e] X.env)).all (fun x=>!x.1) && (backToKw cpos (keywordEach [] X.env)).all (fun x=>x.1.isSome) && decide ([e].length+([]:List Keyword).length+(if ([]:List Keyword).isEmpty then 0 else 1)<30))=true:=by rfl)
  (hline:(apos.endLine == cpos.line)=true:=by rfl) (hs:starEach [e] X.env=(false,eval e X.env)::starEach [] X.env:=by rfl) (hplain:(backTo cpos (starEach [] X.env)).any (·.1)=false:=by rfl)
  (hsw:swapsWith (.Call (.Attribute (.Name x np) "append" apos) [e] [] cpos) none pos.line X.env=pure false:=by rfl):
  FS X E (.Expr (.Call (.Attribute (.Name x np) "append" apos) [e] [] cpos) pos) (cP i f):=
 cF (rF (Jr PySem.F.plainAttrs_list PySem.F.slot_list_append PySem.F.type_list_append vH (iZ hN hv hd hcd) (jY he qQ hs) hbase hfew hline hs hplain) hsw) fun W σ H hE=>xq5 hE fun O0 M0 H0 ow m R q=>by
  obtain ⟨o,ho,q⟩:=Ss.ofO q
  obtain ⟨k,ds⟩:=o
  obtain ⟨a,xs,e1,e2,e3,e4,e5⟩:=oV R.toRel ho
  refine ⟨_,e2,.inl ⟨rfl,xs,SqL.of e3⟩,O0,M0,H0,ow,m,R.toRel,(Ss.pu R.toRel q).imp (aK.refl _) fun d q v H1 g1 hv=>?_⟩
  have R1:=R.mono g1
  by_cases hz:ds.length<sizeLine
  ·rw [if_pos hz] at q
   obtain ⟨R2,g2⟩:=R1.put (es:=ds++[d]) (ys:=xs++[v]) e1 e5 (jh (e4.mono g1) (.cons hv .nil))
   exact ⟨a,xs,v,rfl,rfl,g1 _ _ e3,by rw [bN e4]; exact hz,q _ _ _ R2 ((Go.refl g1).trans g2)⟩
  ·rw [if_neg hz] at q; exact q.elim
noncomputable def Bc (i:Nat):Me->Res (Fl×Me):=fun m=>(ofO (j8 m i)).bind fun o=>.ok (.nx,putL m i o.1 [])
theorem Ol (i:Nat)(hN:X.N[i]? = some x:=by rfl)(hv:Vis X.env.scope x:=by first | exact Or.inl rfl | exact Or.inr (Or.inl rfl) | exact Or.inr (Or.inr rfl))(hd:(x == ("__debug__" : Str))=false:=by decide)(hcd:(x == ("__classdict__" : Str))=false:=by decide)
  (hbase:attributeBase (.Name x np) "clear" X.env (eval (.Name x np) X.env)=eval (.Name x np) X.env:=by rfl) (hline:(apos.endLine == cpos.line)=true:=by rfl)
  (hsw:swapsWith (.Call (.Attribute (.Name x np) "clear" apos) [] [] cpos) none pos.line X.env=pure false:=by rfl):FS X E (.Expr (.Call (.Attribute (.Name x np) "clear" apos) [] [] cpos) pos) (Bc i):=
 cF (rF (Dl PySem.F.plainAttrs_list PySem.F.slot_list_clear PySem.F.type_list_clear QC (iZ hN hv hd hcd) hbase hline) hsw) fun W σ H hE=>xq5 hE fun O0 M0 H0 ow m R q=>by
  obtain ⟨o,ho,q⟩:=Ss.ofO q
  obtain ⟨k,ds⟩:=o
  obtain ⟨a,xs,e1,e2,e3,e4,e5⟩:=oV R.toRel ho
  obtain ⟨R2,g2⟩:=R.put (es:=[]) (ys:=[]) e1 e5 .nil
  exact ⟨_,e2,.inl ⟨rfl,xs,SqL.of e3⟩,a,xs,rfl,rfl,e3,q _ _ _ R2 g2⟩
noncomputable def Ce (i:Nat)(f:Me->Res D):Me->Res (Fl×Me):=fun m=>(ofO (j8 m i)).bind fun o=>(f m).bind fun d=>match d with
 | .lst es=>if o.2.length+es.length<=sizeLine then .ok (.nx,putL m i o.1 (o.2++es)) else .stuck
 |_=>.stuck
theorem Lh (i:Nat)(he:FN X E e f)(hN:X.N[i]? = some x:=by rfl)(hv:Vis X.env.scope x:=by first | exact Or.inl rfl | exact Or.inr (Or.inl rfl) | exact Or.inr (Or.inr rfl))(hd:(x == ("__debug__" : Str))=false:=by decide)(hcd:(x == ("__classdict__" : Str))=false:=by decide)
  (hbase:attributeBase (.Name x np) "extend" X.env (eval (.Name x np) X.env)=eval (.Name x np) X.env:=by rfl)
  (hfew:((backTo cpos (starEach [e] X.env)).all (fun x=>!x.1) && (backToKw cpos (keywordEach [] X.env)).all (fun x=>x.1.isSome) && decide ([e].length+([]:List Keyword).length+(if ([]:List Keyword).isEmpty then 0 else 1)<30))=true:=by rfl)
  (hline:(apos.endLine == cpos.line)=true:=by rfl) (hs:starEach [e] X.env=(false,eval e X.env)::starEach [] X.env:=by rfl) (hplain:(backTo cpos (starEach [] X.env)).any (·.1)=false:=by rfl)
  (hsw:swapsWith (.Call (.Attribute (.Name x np) "extend" apos) [e] [] cpos) none pos.line X.env=pure false:=by rfl):
  FS X E (.Expr (.Call (.Attribute (.Name x np) "extend" apos) [e] [] cpos) pos) (Ce i f):=
 cF (rF (Jr PySem.F.plainAttrs_list PySem.F.slot_list_extend PySem.F.type_list_extend Lp (iZ hN hv hd hcd) (jY he qQ hs) hbase hfew hline hs hplain) hsw) fun W σ H hE=>xq5 hE fun O0 M0 H0 ow m R q=>by
  obtain ⟨o,ho,q⟩:=Ss.ofO q
  obtain ⟨k,ds⟩:=o
  obtain ⟨a,xs,e1,e2,e3,e4,e5⟩:=oV R.toRel ho
  refine ⟨_,e2,.inl ⟨rfl,xs,SqL.of e3⟩,O0,M0,H0,ow,m,R.toRel,(Ss.pu R.toRel q).imp (aK.refl _) fun d q p H1 g1 n hv=>?_⟩
  have R1:=R.mono g1
  cases d with
  |lst es=>
   have q:Ss (gx X) E O0 M0 H0 ow H W (if ds.length+es.length<=sizeLine then .ok (.nx,putL m i k (ds++es)) else .stuck):=q
   obtain ⟨zs,h1,h2⟩:=hv
   by_cases hz:ds.length+es.length<=sizeLine
   ·rw [if_pos hz] at q
    have h2':DVs (gx X) (Ow O0 ow) H1 zs es:=h2.bT fun b z=>.inl (.inl z)
    obtain ⟨R2,g2⟩:=R1.put (es:=ds++es) (ys:=xs++zs) e1 e5 (jh (e4.mono g1) h2')
    exact ⟨a,p,xs,zs,rfl,rfl,g1 _ _ e3,h1,by rw [bN e4,bN h2]; exact hz,q _ _ _ R2 ((Go.refl g1).trans g2)⟩
   ·rw [if_neg hz] at q; exact q.elim
  |_=>exact q.elim
noncomputable def Dn (j i:Nat):Me->Res (Fl×Me):=fun m=>(ofO (j8 m i)).bind fun o=>(ofO (o.2[o.2.length - 1]?)).bind fun d=>.ok (.nx,(putL m i o.1 o.2.dropLast).set j (.fz d))
theorem uI {G:Gx}{O:Addr->Prop}{H:Hp}{xs:List V}{ds:List D}(h:DVs G O H xs ds):DVs G O H xs.dropLast ds.dropLast:=by
 rw [List.dropLast_eq_take,List.dropLast_eq_take,bN h]
 exact zr _ h
theorem Ky (j i:Nat)(hnd:X.N.Nodup)(hj:X.N[j]? = some y)(hy:Loc X.env.scope y)(hN:X.N[i]? = some x:=by rfl)(hv:Vis X.env.scope x:=by first | exact Or.inl rfl | exact Or.inr (Or.inl rfl) | exact Or.inr (Or.inr rfl))(hd:(x == ("__debug__" : Str))=false:=by decide)(hcd:(x == ("__classdict__" : Str))=false:=by decide)
  (hbase:attributeBase (.Name x np) "pop" X.env (eval (.Name x np) X.env)=eval (.Name x np) X.env:=by rfl) (hline:(apos.endLine == cpos.line)=true:=by rfl) {yp:Pos}
  (hsw:swapsWith (.Call (.Attribute (.Name x np) "pop" apos) [] [] cpos) (some (.Name y yp)) pos.line X.env=pure false:=by rfl) (hf:X.fn y=true\/X.env.scope.names.lookup y=some .local:=by first | exact .inl rfl | exact .inr rfl | assumption):
  FS X E (.Assign [.Name y yp] (.Call (.Attribute (.Name x np) "pop" apos) [] [] cpos) pos) (Dn j i):=
 cF (zx hnd hj hy (Dl PySem.F.plainAttrs_list PySem.F.slot_list_pop PySem.F.type_list_pop Ph (iZ hN hv hd hcd) hbase hline) hsw hf) fun W σ H hE=>xq5 hE fun O0 M0 H0 ow m R q=>by
  obtain ⟨o,ho,q⟩:=Ss.ofO q
  obtain ⟨k,ds⟩:=o
  obtain ⟨d,hd',q⟩:=Ss.ofO q
  obtain ⟨a,xs,e1,e2,e3,e4,e5⟩:=oV R.toRel ho
  obtain ⟨v,hv,dv⟩:=ud e4 hd'
  obtain ⟨R2,g2⟩:=R.put (es:=ds.dropLast) (ys:=xs.dropLast) e1 e5 (uI e4)
  have dv2:=dv.go R.mutk g2.ev
  exact ⟨_,e2,.inl ⟨rfl,xs,SqL.of e3⟩,a,xs,v,rfl,rfl,e3,by rw [bN e4]; exact hv,q _ _ _ (R2.set dv2) (g2.trans Go.set)⟩
noncomputable def uw (i:Nat)(fk fv:Me->Res D):Me->Res (Fl×Me):=fun m=>(fv m).bind fun d=>(ofO (j8 m i)).bind fun o=>(fk m).bind fun k=>match k with
 | .int n=>(ofO (ixN o.2.length n)).bind fun j=>.ok (.nx,putL m i o.1 (o.2.set j d))
 |_=>.stuck
end
open PySem PySem.Spec PyProof.Rows L2 Hd
noncomputable def Xs (G:Gx)(E:XK){α:Type}(O0 M0:Addr->Prop)(H0:Hp)(ow:Os)(σ:L2.St)(H:Hp)(r:Res (α×Me))(k:α->Hp->Prop):Prop:=match r with
 | .ok (a,m')=>∀H',cV G O0 M0 H0 ow σ H' m'->Go O0 ow H ow H'->k a H'
 | .exc c=>∀C H',G.mg c=some (.ref C)->Kp M0 H0 H'->E (.ref C) none H'
 | .stuck=>False
noncomputable def tX (G:Gx)(E:XK)(f:Me->Res (D×Me)):TE:=fun σ H Q=>∃O0 M0 H0 ow m,cV G O0 M0 H0 ow σ H m/\Xs G E O0 M0 H0 ow σ H (f m) fun d H'=>∀v,DV G (Ow O0 ow) H' v d->Q v H'
noncomputable def tXA (G:Gx)(E:XK)(f:Me->Res (List D×Me)):TA:=fun σ H Q=>∃O0 M0 H0 ow m,cV G O0 M0 H0 ow σ H m/\Xs G E O0 M0 H0 ow σ H (f m) fun ds H'=>∀vs,DVs G (Ow O0 ow) H' vs ds->Q vs H'
noncomputable abbrev FX (X:Cx)(E:XK)(e:Expr)(f:Me->Res (D×Me)):Prop:=PE X e (tX (gx X) E f)
noncomputable abbrev FXA (X:Cx)(E:XK)(es:List Expr)(f:Me->Res (List D×Me)):Prop:=PA X es (tXA (gx X) E f)
section
variable {G:Gx}{E:XK}{O0 M0:Addr->Prop}{H0 H H1:Hp}{ow:Os}{σ:L2.St}{m:Me}
theorem Xs.imp {α:Type}{r:Res (α×Me)}{k k':α->Hp->Prop}(h:Xs G E O0 M0 H0 ow σ H r k)(g:Go O0 ow H ow H1)(hk:∀a H' m',cV G O0 M0 H0 ow σ H' m'->Go O0 ow H1 ow H'->r=.ok (a,m')->k a H'->k' a H'):Xs G E O0 M0 H0 ow σ H1 r k':=by
 cases r with
 |ok a=>obtain ⟨a,m'⟩:=a; exact fun H' R g'=>hk a H' m' R g' rfl (h H' R (g.trans g'))
 |exc c=>exact h
 |stuck=>exact h
theorem Xs.bind {α β:Type}{r:Res (α×Me)}{f:α->Me->Res (β×Me)}{k:β->Hp->Prop}(h:Xs G E O0 M0 H0 ow σ H (r.bind fun p=>f p.1 p.2) k):
  Xs G E O0 M0 H0 ow σ H r fun a H'=>∀m',r=.ok (a,m')->cV G O0 M0 H0 ow σ H' m'->Xs G E O0 M0 H0 ow σ H' (f a m') k:=by
 cases r with
 |ok a=>
  obtain ⟨a,m1⟩:=a
  intro H' R g m' e R'
  cases e
  have h:Xs G E O0 M0 H0 ow σ H (f a m1) k:=h
  cases z:f a m1 with
  |ok b=>obtain ⟨b,m2⟩:=b; rw [z] at h; exact fun H2 R2 g2=>h H2 R2 (g.trans g2)
  |exc c=>rw [z] at h; exact h
  |stuck=>rw [z] at h; exact h
 |exc c=>exact h
 |stuck=>exact h
theorem Xs.pu {α β:Type}{r:Res α}{f:α->Res (β×Me)}{k:β->Hp->Prop}(R:Rel G O0 M0 H0 ow σ H m)(h:Xs G E O0 M0 H0 ow σ H (r.bind f) k):Pu G E r H fun a=>Xs G E O0 M0 H0 ow σ H (f a) k:=by
 cases r with
 |ok a=>exact h
 |exc c=>exact fun C H' e g=>h C H' e fun b o e n=>g b o (R.keep b o e n)
 |stuck=>exact h
end
noncomputable def fX (f:Me->Res D):Me->Res (D×Me):=fun m=>(f m).bind fun d=>.ok (d,m)
noncomputable def Ae:Me->Res (List D×Me):=fun m=>.ok ([],m)
noncomputable def qM (fa:Me->Res (D×Me))(fs:Me->Res (List D×Me)):Me->Res (List D×Me):=fun m=>(fa m).bind fun p=>(fs p.2).bind fun q=>.ok (p.1::q.1,q.2)
noncomputable def Aj (fs:Me->Res (List D×Me)):Me->Res (D×Me):=fun m=>(fs m).bind fun q=>if q.1.length<=sizeLine then .ok (.tup q.1,q.2) else .stuck
section
variable {X:Cx}{E:XK}{e:Expr}{es:List Expr}{f:Me->Res D}{fa:Me->Res (D×Me)}{fs:Me->Res (List D×Me)}{pos:Pos}{i:Nat}{x:Str}
theorem Ur (h:FE X E e f):FX X E e (fX f):=bx h fun σ H Q hE=>xq5 hE fun O0 M0 H0 ow m R q=>⟨O0,M0,H0,ow,m,R.toRel,(Xs.pu R.toRel q).imp (aK.refl _) fun d q v H' g hv=>q H' (R.mono g) (Go.refl g) v hv⟩
theorem Iz:FXA X E [] Ae:=oM qQ fun σ H Q hE=>xq5 hE fun O0 M0 H0 ow m R q=>q H R (Go.refl (aK.refl _)) [] .nil
theorem vA (ha:FX X E e fa)(hr:FXA X E es fs)(hs:starEach (e::es) X.env=(false,eval e X.env)::starEach es X.env:=by rfl):FXA X E (e::es) (qM fa fs):=
 oM (jY ha hr hs) fun σ H Q hE=>xq5 hE fun O0 M0 H0 ow m R q=>⟨O0,M0,H0,ow,m,R,(Xs.bind (f:=fun d m1=>(fs m1).bind fun q=>.ok (d::q.1,q.2)) q).imp (Go.refl (aK.refl _)) fun d H1 m1 R1 g1 e1 q v hv=>⟨O0,M0,H0,ow,m1,R1,?_⟩⟩
where finally
 refine (Xs.bind (f:=fun ds m2=>.ok (d::ds,m2)) (q m1 e1 R1)).imp (Go.refl (aK.refl _)) fun ds H2 m2 R2 g2 e2 q vs hvs=>?_
 exact q m2 e2 R2 H2 R2 (Go.refl (aK.refl _)) (v::vs) (.cons (hv.go R1.mutk g2.ev) hvs)
theorem N7 {x1}(h:FXA X E es fs):FX X E (.Tuple es x1 pos) (Aj fs):=bx (J6 h) fun σ H Q hE=>xq5 hE fun O0 M0 H0 ow m R q=>by
 refine ⟨O0,M0,H0,ow,m,R,(Xs.bind (f:=fun ds m'=>if ds.length<=sizeLine then .ok (D.tup ds,m') else .stuck) q).imp (Go.refl (aK.refl _)) fun ds H1 m1 R1 g1 e1 q vs hv=>?_⟩
 have q:=q m1 e1 R1
 by_cases hz:ds.length<=sizeLine
 ·rw [if_pos hz] at q
  exact ⟨by rw [bN hv]; exact hz,fun p H' g e=>q H' (R1.mono g) (Go.refl g) _ (.tup (SqU.of e) (hv.mono g))⟩
 ·rw [if_neg hz] at q; exact q.elim
noncomputable def zp (i:Nat)(f:Me->Res (D×Me)):Me->Res (Fl×Me):=fun m=>(f m).bind fun p=>.ok (.nx,p.2.set i (.fz p.1))
theorem Xs.ss {G:Gx}{O0 M0:Addr->Prop}{H0 H:Hp}{ow:Os}{σ:L2.St}{W:Ends}{r:Res (D×Me)}{k:D->Me->Res (Fl×Me)}(h:Ss G E O0 M0 H0 ow H W (r.bind fun p=>k p.1 p.2)):
  Xs G E O0 M0 H0 ow σ H r fun d H'=>∀m',r=.ok (d,m')->cV G O0 M0 H0 ow σ H' m'->Ss G E O0 M0 H0 ow H' W (k d m'):=by
 cases r with
 |ok a=>
  obtain ⟨d,m1⟩:=a
  intro H' R g m' e R'
  cases e
  exact Ss.go h g
 |exc c=>exact h
 |stuck=>exact h
theorem HX {pos':Pos}(hN:X.N.Nodup)(hi:X.N[i]? = some x)(hx:Loc X.env.scope x)(he:FX X E e fa)(hs:swapsWith e (some (.Name x pos')) pos.line X.env=pure false:=by rfl)
  (hf:X.fn x=true\/X.env.scope.names.lookup x=some .local:=by first | exact .inl rfl | exact .inr rfl | assumption):FS X E (.Assign [.Name x pos'] e pos) (zp i fa):=cF (zx hN hi hx he hs hf) fun W σ H hE=>xq5 hE fun O0 M0 H0 ow m R q=>by
 refine ⟨O0,M0,H0,ow,m,R,(Xs.ss (k:=fun d m'=>.ok (.nx,m'.set i (.fz d))) q).imp (Go.refl (aK.refl _)) fun d H1 m1 R1 g1 e1 q v hv=>?_⟩
 exact q m1 e1 R1 _ _ _ (R1.set hv) Go.set
end
section
variable {P:Program}{w:World}{K:W.Frag}{mg:Str->Option Value}{base:Heap}
end
open PySem PySem.Spec PyProof.Rows L2 Hd
noncomputable def Sl.cap:Sl->Sl
 | .ow d=>.io d
 | .hd _ a d=>.hd false a d
 |s=>s
section
variable {G:Gx}{O0 M0:Addr->Prop}{H0 H H':Hp}{ow:Os}{σ:L2.St}{m:Me}
end
section
variable {G:Gx}{O0 M0:Addr->Prop}{H0 H H':Hp}{ow:Os}{σ:L2.St}{m:Me}{k:Nat}{cap:List Nat}
end
open PySem PySem.Spec PyProof.Rows L2 Hd
section
variable {X:Cx}{E:XK}{k:Nat}{cap:List Nat}{fi:Me->Res (List D)}{h:D->Me->Option Me}{fe:Me->Res (D×Me)}
theorem Om {O0:Addr->Prop}{ow:Os}{l b:Addr}(z:Ow (Op O0 l) ow b):Ow O0 ow b\/b=l:=z.elim (fun y=>y.elim (fun w=>.inl (.inl w)) .inr) fun y=>.inl (.inr y)
end
noncomputable def tM (G:Gx)(E:XK)(f:Me->Res Unit):TE:=fun σ H Q=>∃O0 M0 H0 ow m,Rel G O0 M0 H0 ow σ H m/\Pu G E (f m) H fun _=>∀v H',aK H H'->Q v H'
noncomputable abbrev FM (X:Cx)(E:XK)(e:Expr)(f:Me->Res Unit):Prop:=PE X e (tM (gx X) E f)
section
variable {X:Cx}{E:XK}{e:Expr}{f:Me->Res D}{fu:Me->Res Unit}{x:Str}{np cpos pos:Pos}{C:Addr}{bmB:List Value}{B newId initId:String}
end
section
variable {X:Cx}{j k:Nat}{x y:Str}{ps:List Str}{Φ:List D->Res (Bool×D)}{p pos cpos pos':Pos}{e:Expr}{es:List Expr}{fs:Me->Res (List D)}{i:Nat}
end
theorem Rel.more {G:Gx}{O0 M0:Addr->Prop}{H0 H H1:Hp}{ow:Os}{σ:L2.St}{m:Me}{l:Addr}(R:Rel G O0 M0 H0 ow σ H m)(g:aK H H1)(hl:H l=none)(ho:fO (H1 l)):Rel G (Op O0 l) M0 H0 ow σ H1 m:=by
 have nl:=R.Ek hl
 have sub':∀b,Ow (Op O0 l) ow b->Ow O0 ow b\/H b=none:=fun b z=>(Om z).elim .inl fun e=>.inr (by rw [e]; exact hl)
 have R':=R.mono g
 refine ⟨R.len,R'.keep,R'.m0,fun b z=>?_,fun i a e z=>?_,R.inj,R.out,fun i s e=>?_⟩
 ·rcases Om z with z | z
  ·exact R'.mutk b z
  ·rw [z]; exact ho
 ·rcases z with z | z
  ·exact R.no0 i a e z
  ·exact nl (z ▸ .inr ⟨i,e⟩)
 ·exact ((R.slot i s e).bT sub' fun _ _ b _=>Classical.em _).mono g
open PySem PySem.Spec PyProof.Rows L2 Hd
section
variable {X:Cx}
noncomputable def CK:List D->Option (List Str)
 |[]=>some []
 | .str x::ds=>(CK ds).map (x::·)
 |_::_=>none
theorem Jw {G:Gx}{O:Addr->Prop}{H:Hp}:∀{vs:List V} {ds:List D} {zs:List Str},DVs G O H vs ds->CK ds=some zs->vs=zs.map V.str
 |_,_,_,.nil,e=>by cases e; rfl
 |_,_,_,.cons (d:=d) h hs,e=>by
  cases d with
  |str i=>
   obtain ⟨ns,e1,rfl⟩:=omap (by simpa [CK] using e)
   cases h
   rw [Jw hs e1]
   rfl
  |_=>cases e
noncomputable def DY:D->List D->Option D
 | .str z,[.lst es]=>match CK es with
  |some zs=>if JoinOk z zs=true then some (.str (Txt.join z zs)) else none
  |none=>none
 |_,_=>none
theorem Np:MtR X "str.join" (rGM (gx X) DY):=by
 intro pins s σ H x vs v us Q I rx rv h
 obtain ⟨O,d,ds,r,m,hx,hy,hr,q⟩:=h
 match d,ds,hr with
 | .str z,[.lst es],hr=>
  cases lC hx
  obtain ⟨y,rfl,hy2⟩:=uZ hy
  obtain ⟨p,xs,rfl,hp,hd⟩:=iY hy2
  have hr:(match CK es with | some zs=>if JoinOk z zs=true then some (D.str (Txt.join z zs)) else none | none=>none)=some r:=hr
  cases e1:CK es with
  |none=>rw [e1] at hr; cases hr
  |some zs=>
   rw [e1] at hr
   obtain ⟨ok,rfl⟩:=oif hr
   have:=Jw hd e1
   subst this
   exact S5 X.K rfl pins s σ H _ _ v us Q I rx rv ⟨z,p,zs,rfl,rfl,hp,ok,q _ _ (aK.refl _) (.str _)⟩
end
noncomputable def IV (K:W.Frag):Sp:=fun vs H Q _=>∃(a:Addr) (ns:List Int),vs=[.ref a]/\SqL K H a (ns.map V.int)/\ns.length<=63/\∀H',Q (.bl true) H'
theorem Ft {G:Gx}{O:Addr->Prop}{H:Hp}:∀ns:List Int,DVs G O H (ns.map V.int) (ns.map D.int)
 |[]=>.nil
 |n::ns=>.cons (.int n) (Ft ns)
theorem Q0 {P:Program}{w:World}{K:W.Frag}{mg:Str->Option Value}{base:Heap}{CX:CXT}{k:Nat}{f:Addr}{fd:FuncData}{ps:List Str}{Φ:List D->Res (Bool×D)}(h:∀ns:List Int,ns.length<=63->∃fr,Φ [.lst (ns.map D.int)]=.ok (fr,.bl true))
  (F:cT P w K mg base CX k f fd ps (spF ⟨K,mg⟩ Φ)):cT P w K mg base CX k f fd ps (IV K):=F.imp fun vs H Q E ⟨a,ns,e,hS,hl,q⟩=>by
 subst e
 obtain ⟨fr,e⟩:=h ns hl
 refine ⟨fun _=>False,[.lst (ns.map D.int)],fun _ z=>z.elim,.cons (.lst (hS.elim (fun z=>.inl ⟨id,z⟩) .inr) (Ft ns)) .nil,?_⟩
 rw [e]
 intro v H' _ hv _
 cases hv
 exact q H'
open PySem PySem.Spec PyProof.Rows L2 Hd
section
variable {X:Cx}{E:XK}{e a:Expr}{f fa:Me->Res D}{fu:Me->Res Unit}{x y:Str}{np cpos pos p py:Pos}{i:Nat}
end
section
variable {X:Cx}
noncomputable def vd:List D->Option (List Bool)
 |[]=>some []
 | .bl b::ds=>(vd ds).map (b::·)
 |_::_=>none
theorem yz {G:Gx}{O:Addr->Prop}{H:Hp}:∀{vs:List V} {ds:List D} {bs:List Bool},DVs G O H vs ds->vd ds=some bs->vs=bs.map V.bl
 |_,_,_,.nil,e=>by cases e; rfl
 |_,_,_,.cons (d:=d) h hs,e=>by
  cases d with
  |bl b=>
   obtain ⟨bs,e1,rfl⟩:=omap (by simpa [vd] using e)
   cases h
   rw [yz hs e1]
   rfl
  |_=>cases e
noncomputable def TQ:List D->Option D
 |[.lst ds]=>(vd ds).map fun bs=>.bl (bs.all id)
 |_=>none
noncomputable def Rn:List D->Option D
 |[.lst ds]=>(vd ds).map fun bs=>.bl (bs.any id)
 |_=>none
end
open PySem PySem.Spec PyProof.Rows L2 Hd
section
variable {X:Cx}
theorem xY:∀{bs:List Bool} {us:List Value},Vals (bs.map V.bl) us->LSm.BoolsAre us bs
 |[],_,.nil=>.nil
 |b::bs,_,.cons r t=>by cases r; exact .cons b (xY t)
theorem Ac (hc:X.calm=true):jD X (.builtin "all") (rGC (gx X) TQ):=by
 intro pins s σ H xs us Q I r h
 obtain ⟨O,ds,d,m,hx,hr,q⟩:=h
 match ds,hr with
 |[.lst ds],hr=>
  obtain ⟨bs,e1,rfl⟩:=omap hr
  obtain ⟨v,rfl,hv⟩:=uZ hx
  obtain ⟨p,xs,rfl,hp,hd⟩:=iY hv
  have:=yz hd e1
  subst this
  obtain ⟨u,rfl,rx⟩:=vals1 r
  cases rx
  obtain ⟨wa,r',pl,hz⟩:=I.list hp
  have ba:=xY r'
  have li:=pl.isList
  have lt1:p<s.heap.objs.size:=by obtain ⟨_,e,_⟩:=li; exact Heap.lt_size e
  refine call_all_walk (wpAny_pyIter_list li ?_)
  refine ⟨s.heap.objs.size,[s.heap.objs.size,p],[s.heap.objs.size],wa.toArray.size,_,_,fun i=>(bs[i]?).getD true,rfl,Walks.list (A:=X.A.in1) (I.ok.hd hc) _ p (Nat.ne_of_lt lt1) wa.toArray,
   ⟨⟨_,Heap.get?_push_size _ rfl,rfl,rfl⟩,li.push _⟩,fun i v sn Qn En pv qv=>?_,fun h' tk kp=>?_⟩
  ·obtain ⟨b,e,rfl⟩:=ba.get i v (by simpa using pv)
   simp only [e,Option.getD_some] at qv
   exact wpAny_truthy_bool qv
  ·have e:((List.range wa.toArray.size).all fun i=>(bs[i]?).getD true)=bs.all id:=by
    rw [List.size_toArray,ba.length]; exact LSm.range_all bs
   rw [e]
   exact ⟨.bl _,H,I.kept (LSm.kept_iter kp),rfl,q _ _ (aK.refl _) (.bl _)⟩
theorem Aq (hc:X.calm=true):jD X (.builtin "any") (rGC (gx X) Rn):=by
 intro pins s σ H xs us Q I r h
 obtain ⟨O,ds,d,m,hx,hr,q⟩:=h
 match ds,hr with
 |[.lst ds],hr=>
  obtain ⟨bs,e1,rfl⟩:=omap hr
  obtain ⟨v,rfl,hv⟩:=uZ hx
  obtain ⟨p,xs,rfl,hp,hd⟩:=iY hv
  have:=yz hd e1
  subst this
  obtain ⟨u,rfl,rx⟩:=vals1 r
  cases rx
  obtain ⟨wa,r',pl,hz⟩:=I.list hp
  have ba:=xY r'
  have li:=pl.isList
  have lt1:p<s.heap.objs.size:=by obtain ⟨_,e,_⟩:=li; exact Heap.lt_size e
  refine call_any_walk (wpAny_pyIter_list li ?_)
  refine ⟨s.heap.objs.size,[s.heap.objs.size,p],[s.heap.objs.size],wa.toArray.size,_,_,fun i=>(bs[i]?).getD false,rfl,Walks.list (A:=X.A.in1) (I.ok.hd hc) _ p (Nat.ne_of_lt lt1) wa.toArray,
   ⟨⟨_,Heap.get?_push_size _ rfl,rfl,rfl⟩,li.push _⟩,fun i v sn Qn En pv qv=>?_,fun h' tk kp=>?_⟩
  ·obtain ⟨b,e,rfl⟩:=ba.get i v (by simpa using pv)
   simp only [e,Option.getD_some] at qv
   exact wpAny_truthy_bool qv
  ·have e:((List.range wa.toArray.size).any fun i=>(bs[i]?).getD false)=bs.any id:=by
    rw [List.size_toArray,ba.length]; exact LSm.range_any bs
   rw [e]
   exact ⟨.bl _,H,I.kept (LSm.kept_iter kp),rfl,q _ _ (aK.refl _) (.bl _)⟩
end
open PySem PySem.Spec PyProof.Rows L2 Hd
noncomputable def Ite (K:W.Frag)(a:Addr):It:=
 ⟨fun i H=>∃xs x,SqL K H a xs/\xs[i]? = some x,fun i H x H'=>∃y l,(∀xs,SqL K H a xs->xs[i]? = some y)/\x=.ref l/\H l=none/\H'=upd H l (.tup [.int i,y]),fun i H=>∃xs,SqL K H a xs/\xs.length<=i⟩
theorem G8 {X:Cx}{pins:List (Addr×Obj)}{σ:L2.St}{H:Hp}{s:Shared}{e it:Addr}{h':Heap}{oe oi:Obj}(I:Inv X pins σ H s)(fe:wg X pins H e)(fi:wg X pins H it)(hne:e≠it)
  (he:∃o,s.heap.get? e=some o) (hi:∃o,s.heap.get? it=some o) (he':h'.get? e=some oe) (hi':h'.get? it=some oi) (de:oe.isFreed=false) (di:oi.isFreed=false)
  (k:∀b o,b≠e->b≠it->s.heap.get? b=some o->h'.get? b=some o):∃h1,Inv X pins σ H { s with heap:=h1 }/\h1.objs.size=s.heap.objs.size/\∀b u,h1.get? b=some u->h'.get? b=some u:=by
 obtain ⟨o1,he⟩:=he
 obtain ⟨o2,hi⟩:=hi
 obtain ⟨f0,f1,f2,f3,f4,f5⟩:=fe
 obtain ⟨g0,g1,g2,g3,g4,g5⟩:=fi
 have I1:Inv X pins σ H { s with heap:=s.heap.update e fun _=>oe }:=I.turned (t':=s.toks) (fun b o hb x=>(Heap.get?_update_other _ _ (Ne.symm hb)).trans x) f0 f1 f3 f4 f5
 have I2:Inv X pins σ H { s with heap:=(s.heap.update e fun _=>oe).update it fun _=>oi }:=I1.turned (t':=s.toks) (fun b o hb x=>(Heap.get?_update_other _ _ (Ne.symm hb)).trans x) g0 g1 g3 g4 g5
 refine ⟨_,I2,?_,fun b u x=>?_⟩
 ·rw [(Heap.SameBut.update _ _ _).1,(Heap.SameBut.update _ _ _).1]
 ·by_cases z:b=it
  ·subst z
   rw [Heap.get?_update_self (fun _=>oi) ((Heap.get?_update_other _ _ hne).trans hi) di] at x
   cases x
   exact hi'
  ·rw [Heap.get?_update_other _ _ (Ne.symm z)] at x
   by_cases y:b=e
   ·subst y
    rw [Heap.get?_update_self (fun _=>oe) he de] at x
    cases x
    exact he'
   ·rw [Heap.get?_update_other _ _ (Ne.symm y)] at x
    exact k b u y z x
theorem Ms {o:Obj}{vs:Array Value}(d:o.data=.fields vs):o.isFreed=false:=by
 obtain ⟨c,dd,da,sl⟩:=o
 cases (show da=.fields vs from d)
 rfl
theorem LK {P:Program}{w:World}{K:W.Frag}{elts:List Expr}{x1}{pos:Pos}(a e it:Addr)(hne:e≠it):
  Turn P w K (.Tuple elts x1 pos) (Ite K a) [e,it] e (fun i h=>(∃old,IsEnum h e it i old)/\h.IsListIter it a i) where
 mem:=by simp
 obj:=fun i h st b hb=>by
  obtain ⟨⟨old,q1⟩,q2⟩:=st
  have eb:b=e\/b=it:=by simpa using hb
  rcases eb with rfl | rfl
  ·exact ⟨_,q1,fun v z=>by cases (show Data.fields _=Data.cell v from z)⟩
  ·obtain ⟨o,e',c,d⟩:=q2
   exact ⟨o,e',fun v z=>by rw [d] at z; cases z⟩
 keep:=fun i h h' st k=>by
  obtain ⟨⟨old,q1⟩,q2⟩:=st
  exact ⟨⟨old,k e (by simp) _ q1⟩,q2.at fun o x=>k it (by simp) o x⟩
 item:=by
  intro X hP hw hK hc i pins s σ H E I hf st hg
  subst hP hw hK
  obtain ⟨xs,x,hq,hx⟩:=hg
  obtain ⟨⟨old,q1⟩,q2⟩:=st
  obtain ⟨its,rv,p,hz⟩:=I.list hq
  obtain ⟨u,hu,ru⟩:=rv.get hx
  have fe:=hf e (by simp)
  have fi:=hf it (by simp)
  refine wpAny_pyNext_enum_item q1 q2 p.isList (x:=u) (by simpa using hu) hne fun h' eo il ht hsz k=>?_
  obtain ⟨oi,ei,ci,di⟩:=id il
  obtain ⟨oj,ej,cj,dj⟩:=id q2
  obtain ⟨h1,I1,z1,k1⟩:=G8 I fe fi hne ⟨_,q1⟩ ⟨_,ej⟩ eo ei rfl (Ms di) k
  have I2:Inv X pins σ (upd H s.heap.objs.size (.tup [.int i,x])) { s with heap:=h',toks:=s.toks+1 }:=
   I1.laid (t':=s.toks+1) k1 (Nat.le_of_eq z1) (show dJ X.prog X.w _ _ _ (.tup [.int i,x]) from ⟨(show 2<=sizeLine by decide),[.int i s.toks,u],.cons ⟨s.toks,rfl⟩ (.cons ru .nil),⟨_,ht,rfl,_,rfl⟩⟩)
  have fr:H s.heap.objs.size=none:=I.hok.fresh (Nat.le_refl _)
  have ne1:e≠s.heap.objs.size:=Nat.ne_of_lt (Heap.lt_size q1)
  have ne2:it≠s.heap.objs.size:=Nat.ne_of_lt (Heap.lt_size ej)
  have nn:∀b,b≠s.heap.objs.size->H b=none->upd H s.heap.objs.size (.tup [.int i,x]) b=none:=fun b z y=>by rw [cL z]; exact y
  refine ⟨_,rfl,wpAny_letOwnedTupleGo_enum eo fun h2 e2 sb=>?_⟩
  obtain ⟨f0,f1,f2,f3,f4,f5⟩:=fe
  refine ⟨.ref s.heap.objs.size,_,I2.turned (t':=s.toks+1) (fun b o hb y=>(sb.2 b hb).trans y) (nn e ne1 f0) f1 f3 f4 f5,rfl,⟨x,_,fun ys hy=>by rw [I.FJ hy hq]; exact hx,rfl,fr,rfl⟩,⟨⟨_,e2⟩,il.at fun o y=>(sb.2 it (Ne.symm hne)).trans y⟩,fun b hb=>?_⟩
  have eb:b=e\/b=it:=by simpa using hb
  rcases eb with rfl | rfl
  ·exact nn _ ne1 f0
  ·exact nn _ ne2 fi.1
 done:=by
  intro X hP hw hK hc i pins s σ H E I hf st hg
  subst hP hw hK
  obtain ⟨xs,hq,hx⟩:=hg
  obtain ⟨⟨old,q1⟩,q2⟩:=st
  obtain ⟨its,rv,p,hz⟩:=I.list hq
  obtain ⟨f0,f1,f2,f3,f4,f5⟩:=hf it (by simp)
  have hl:=rv.length
  exact wpAny_pyNext_enum_end (I.ok.hd hc) q1 q2 p.isList (by simp; omega) fun h' eb=>⟨rfl,I.turned (t':=s.toks) (fun b o hb y=>eb b o hb y) f0 f1 f3 f4 f5⟩
 self:=fun _ _ _ _ _ st h=>by
  obtain ⟨⟨old,q1⟩,q2⟩:=st
  exact wpAny_pyIter_enum q1 h
section
variable {X:Cx}{tg:Expr}
noncomputable def Xj (K:W.Frag)(ta:TA):TI:=fun σ H R=>ta σ H fun vs H1=>∃p,vs=[.ref p]/\(∃xs,SqL K H1 p xs)/\R (Ite K p) H1
theorem Sx {elts:List Expr}{x1}{pt:Pos}{a:Expr}{ta:TA}{p pos:Pos}(hg:Gl X "enumerate")(hm:X.mg "enumerate" = none)(ha:PA X [a] ta)(hs:starEach [a] X.env=[(false,eval a X.env)]:=by rfl):PI X (.Tuple elts x1 pt) (.Call (.Name "enumerate" p) [a] [] pos) (Xj X.K ta):=by
 intro pins s σ H R I h
 refine Call_ (p6 I hg hm boot_enumerate (PyProof.Rows.callWith_type1 (thn (ha pos pins s σ H _ I h) fun us s1 hE=>xq2 hE fun vs H1 I1 r1 q1=>?_) hs rfl))
 obtain ⟨l,e,⟨xs,hq⟩,q⟩:=q1
 subst e
 obtain ⟨u,rfl,rx⟩:=vals1 r1
 cases rx
 obtain ⟨its,rv,pl,hz⟩:=I1.list hq
 refine call_enumerate_list pl.isList fun h' e1 e2 sz k=>?_
 have I2:Inv X pins σ H1 { s1 with heap:=h' }:=I1.kept (t':=s1.toks) k
 refine wpAny_pyIter_enum (s:={ s1 with heap:=h' }) e1 ?_
 refine ⟨_,[s1.heap.objs.size+1,s1.heap.objs.size],_,_,H1,rfl,I2,LK l _ _ (Nat.succ_ne_self _),⟨⟨_,e1⟩,e2⟩,fun b hb=>?_,q⟩
 have eb:b=s1.heap.objs.size+1\/b=s1.heap.objs.size:=by simpa using hb
 have hb':s1.heap.objs.size<=b:=eb.elim (fun z=>by rw [z]; exact Nat.le_succ _) fun z=>Nat.le_of_eq z.symm
 exact I1.NQ hb' (I1.hok.fresh hb')
noncomputable def yU (ds:List D):List D:=ds.mapIdx fun i d=>.tup [.int i,d]
theorem z8 (ds:List D):(yU ds).length=ds.length:=by simp [yU]
theorem TJ {G:Gx}{H:Hp}{a:Addr}{ds:List D}{P:(Addr->Prop)->Hp->Prop}(h:∀O' H2,P O' H2->∃xs,SqL G.K H2 a xs/\DVs G O' H2 xs ds):yw G (Ite G.K a) (yU ds) P:=by
 intro O' H2 ev
 obtain ⟨xs,hq,hd⟩:=h O' H2 ev
 have hlen:=bN hd
 refine ⟨fun i hi=>⟨xs,xs[i]'(by rw [z8] at hi; omega),hq,by simp⟩,fun i x H' hi y=>?_,xs,hq,by rw [z8]; omega⟩
 obtain ⟨y,l,h1,rfl,fr,rfl⟩:=y
 obtain ⟨d,e1,e2⟩:=uH hd (h1 xs hq)
 exact ⟨bJ fr _,.tup [.int i,d],by simp [yU,List.getElem?_mapIdx,e1],.tup (SqU.of aZ) (.cons (.int _) (.cons (e2.mono (bJ fr _)) .nil))⟩
noncomputable def U8 (f:Me->Res (List D)):Me->Res (List D):=fun m=>(f m).bind fun d=>match d with
 |[.lst ds]=>.ok (yU ds)
 |_=>.stuck
theorem Ox {E:XK}{fs:Me->Res (List D)}{elts:List Expr}{x1}{pt:Pos}{a:Expr}{p pos:Pos}(hg:Gl X "enumerate")(hm:X.mg "enumerate" = none)(ha:FAB X E [a] fs)(hs:starEach [a] X.env=[(false,eval a X.env)]:=by rfl):FIw X E (.Tuple elts x1 pt) (.Call (.Name "enumerate" p) [a] [] pos) (U8 fs):=
 oK (Sx hg hm ha hs) fun σ H R hE=>xq5 hE fun O0 M0 H0 ow m Re q=>⟨O0,M0,H0,ow,m,Re,q.bind.imp (aK.refl _) fun ds q vs H' g hv=>by
  match ds,vs,hv,q with
  |[.lst ds],_,.cons h1 .nil,q=>
   obtain ⟨l,xs,rfl,hl,hd⟩:=iY h1
   exact ⟨_,rfl,⟨_,hl⟩,q _ H' g (TJ (H:=H') fun O' H2 ⟨sub,g2⟩=>⟨_,Ga hl g2,hd.go (Re.mono g).mutk ⟨sub,.of g2⟩⟩)⟩⟩
end
open PySem PySem.Spec PyProof.Rows L2 Hd
theorem Qc:typeLookup (.type "list_reverseiterator") "__len__" = pure none:=by rw [typeLookup_type,builtinLookup_eq_fast]; kernel_rfl
theorem Rx:typeLookup (.type "list_reverseiterator") "__length_hint__" = pure (some (.builtin "list_reverseiterator.__length_hint__")):=by rw [typeLookup_type,builtinLookup_eq_fast]; kernel_rfl
section
variable {pr:Program}{wo:World}{A:Around}{s:Shared}{R:Result->Shared->Prop}
variable {St:Nat->Shared->Prop}{P:Nat->Value->Prop}{n:Nat}{I:Addr}{fp wr:List Addr}{G:Array GenState->Array GenState->Prop}
theorem T9 (W:WalksS pr wo A.in1 I fp wr G n P St)(ty:∀i s,St i s->s.TypeIs (.ref I) "list_reverseiterator")(S:Addr)(res:Value)(c:Nat)(st:St 0 s)(nf:S∉fp)(mi:I∈fp)
  (oS:s.heap.get? S=some { cls:=.type "list",data:=.seq #[] c })
  (fin:∀s' ac c',Moved (S::wr) G s s'->s'.heap.get? S=some { cls:=.type "list",dict:=none,data:=.seq ac c',slots:=#[] }->ItemsOf P ac n->R (.ok (.ret res)) s') (hn:n<=sizeLine):
  wpAny (model pr wo) A.in1 (Builtin.List.listExtendWith (.ref S) (.ref I) res)
   (fun f t=>match f with | .done f=>R (.ok f) t | .again c'=>c'.quiet=true/\codeAny (model pr wo) A c' R t) (fun e t=>R (.error e) t) s:=by
 have ne:S≠I:=fun e=>nf (e ▸ mi)
 have sr:Builtin.List.listSameRef (.ref S) (.ref I)=false:=by simp [Builtin.List.listSameRef,ne]
 unfold Builtin.List.listExtendWith; refine wpAny_bind (wpAny_typeOf (ty 0 _ st) ?_)
 rw [if_neg (by rw [sr]; decide)]
 refine wpAny_bind (W.self 0 _ _ _ st (wpAny_bind (wpAny_holding ?_)))
 unfold Builtin.List.listLengthHint; refine wpAny_bind (wpAny_specialOf (ty 0 _ st) Qc ?_)
 show wpAny (model pr wo) A.in1 (specialOf (Value.ref I) (Str.ofString "__length_hint__") >>= _) _ _ _
 refine wpAny_bind (wpAny_specialOf (ty 0 _ st) Rx ?_)
 generalize hid:("list_reverseiterator.__length_hint__" : String)=id0
 wp_delta
 rw [show splitId id0=some ("list_reverseiterator", "__length_hint__") from by subst hid; decide +kernel]
 subst hid
 refine wpAny_bind (wpAny_isInstance (b:=true) (ty 0 _ st) (by rw [isSubtype_type]; kernel_rfl) (wpAny_pure ?_))
 rw [if_neg (by decide)]
 exact wpAny_pure ⟨plainId_quiet F.plain_extend_loop _,codeAny_extend_loopS W hn _ nf _ n 0 _ _ _ rfl (Nat.zero_le _) st oS (ItemsOf.nil P) fin⟩
end
section
variable {pr:Program}{wo:World}{A:Around}{E:Value->Shared->Prop}{s:Shared}
theorem Ls {items:Array Value}{ac:Array Value}(h:ItemsOf (fun i v=>items[items.size - 1 - i]? = some v) ac items.size):ac=items.reverse:=by
 obtain ⟨z,h⟩:=h
 refine Array.ext (by simp [z]) fun i h1 h2=>?_
 have:=h i ac[i] (by simp)
 rw [Array.getElem_reverse]
 obtain ⟨_,e⟩:=Array.getElem?_eq_some_iff.mp this
 exact e.symm
theorem zM {I l:Addr}{items:Array Value}{Q:Value->Shared->Prop}(hh:A.handled=none)(li:s.heap.IsList l items)(ri:s.heap.IsRevIter I l ((items.size:Int) - 1))(ne:l≠I)(hn:items.size<=sizeLine)
  (fin:∀t tk c,(∀b o,b≠I->s.heap.get? b=some o->t.get? b=some o)->t.get? s.heap.objs.size=some { cls:=.type "list",dict:=none,data:=.seq items.reverse c,slots:=#[] }->Q (.ref s.heap.objs.size) { s with heap:=t,toks:=tk }):
  wpAny (model pr wo) A (call (.type "list") [.ref I]) Q E s:=by
 obtain ⟨oi,ei,ci,di⟩:=id ri
 obtain ⟨ol,el,cl⟩:=id li
 have ltI:I<s.heap.objs.size:=Heap.lt_size ei
 have ltl:l<s.heap.objs.size:=Heap.lt_size el
 have nf:s.heap.objs.size∉[I,l]:=fun hm=>by
  rcases List.mem_cons.mp hm with z | z
  ·exact Nat.ne_of_gt ltI z
  ·exact Nat.ne_of_gt ltl (List.mem_singleton.mp z)
 have W:=(Walks.listRev (prog:=pr) (w:=wo) (A:=A.in1.in1) hh I l ne items).toS
 refine callType_codes (Q₁:=fun o t=>o=.ref s.heap.objs.size/\t={ s with heap:=s.heap.push { cls:=.type "list",data:=.seq #[] } }) F.called_list (F.typeCall_list_1 _) F.entry_list_init (code_list_new _ ⟨rfl,rfl⟩) fun o t ht=>?_
 obtain ⟨rfl,rfl⟩:=ht
 have oS:(s.heap.push { cls:=.type "list",data:=.seq #[] }).get? s.heap.objs.size=some { cls:=.type "list",data:=.seq #[] }:=Heap.get?_push_size _ rfl
 refine ⟨⟨_,oS,rfl⟩,F.args_list_init_2 _ _,?_⟩
 show wpAny (model pr wo) A.in1.in1 (do let old ← Builtin.List.listItems (.ref s.heap.objs.size); Builtin.List.listUpdate (.ref s.heap.objs.size) (fun _=>#[]); letGo old.toList.reverse; Builtin.List.listExtendWith (.ref s.heap.objs.size) (.ref I) .none) _ _ _
 refine wpAny_bind ?_
 unfold Builtin.List.listItems
 refine wpAny_bind (wpAny_seqItems oS rfl (wpAny_pure ?_))
 refine wpAny_bind (m:=updateSeq s.heap.objs.size (fun _=>#[])) (wpAny_updateSeq oS rfl ?_)
 have oS2:=Heap.get?_update_self (Obj.mapSeq (fun _=>(#[]:Array Value))) oS rfl
 refine wpAny_bind (wpAny_letGo ?_)
 have kp:∀b o,b≠s.heap.objs.size->s.heap.get? b=some o->((s.heap.push { cls:=.type "list",data:=.seq #[] }).update s.heap.objs.size (Obj.mapSeq (fun _=>(#[]:Array Value)))).get? b=some o:=
  fun b o hb e=>(Heap.get?_update_other _ _ (Ne.symm hb)).trans (Heap.get?_push_of_some _ e)
 have st0:(0:Nat)<=items.size/\s.heap.IsRevIter I l ((items.size:Int) - 1 - ((0:Nat):Int))/\s.heap.IsList l items:=⟨Nat.zero_le _,by simpa using ri,li⟩
 refine T9 W (fun i t x=>x.2.1.typeIs) _ .none _ ⟨st0.1,st0.2.1.at fun o e=>kp I o (Nat.ne_of_lt ltI) e,st0.2.2.at fun o e=>kp l o (Nat.ne_of_lt ltl) e⟩ nf (by simp) oS2 (fun t ac c mv oS3 it=>?_) hn
 refine ⟨rfl,?_⟩
 rw [Moved.eq_with mv]
 rw [Ls it] at oS3
 exact fin _ _ c (fun b o hb e=>mv.heap b o (fun hm=>by
  rcases List.mem_cons.mp hm with z | hm
  ·exact Nat.lt_irrefl _ (z ▸ Heap.lt_size e)
  ·exact hb (List.mem_singleton.mp hm)) (kp b o (Nat.ne_of_lt (Heap.lt_size e)) e)) oS3
end
section
variable {X:Cx}
theorem rQ:bootBuiltins "list" = some (.type "list"):=by decide +kernel
theorem WD:bootBuiltins "reversed" = some (.type "reversed"):=by decide +kernel
noncomputable def YF (K:W.Frag):List V->Hp->VK->Prop:=fun xs H Q=>∃p ys,xs=[.ref p]/\SqL K H p ys/\∀l,H l=none->Q (.ref l) (upd H l (.lst ys.reverse))
theorem S6 {e:Expr}{p p' pos pos':Pos}{ta:TA}(hc:X.calm=true)(hg:Gl X "list")(hm:X.mg "list" = none)(hg':Gl X "reversed")(hm':X.mg "reversed" = none)(ha:PA X [e] ta)
  (hs:starEach [e] X.env=[(false,eval e X.env)]:=by rfl) (hs':starEach [.Call (.Name "reversed" p') [e] [] pos'] X.env=[(false,eval (.Call (.Name "reversed" p') [e] [] pos') X.env)]:=by rfl):
  PE X (.Call (.Name "list" p) [.Call (.Name "reversed" p') [e] [] pos'] [] pos) (tCB (YF X.K) ta):=by
 intro pins s σ H Q I h
 refine wpAny_Call_Name_kw (p6 I hg hm rQ (PyProof.Rows.callWith_type1 ?_ hs' rfl))
 rw [hs']
 refine Calls.spliced_cons (wpAny_Call_Name_kw (p6 I hg' hm' WD (PyProof.Rows.callWith_type1 (thn (ha pos' pins s σ H _ I h) fun us s1 hE=>xq2 hE fun vs H1 I1 r1 q1=>?_) hs rfl)))
 obtain ⟨l,ys,rfl,hq,q⟩:=q1
 obtain ⟨u,rfl,rx⟩:=vals1 r1
 cases rx
 obtain ⟨its,rv,pl,hz⟩:=I1.list hq
 have hlen:=rv.length
 refine call_reversed_list pl.isList (Calls.spliced_nil ?_)
 have el:l<s1.heap.objs.size:=by obtain ⟨_,e,_⟩:=pl.isList; exact Heap.lt_size e
 refine zM (s:={ s1 with heap:=s1.heap.push (revObj l ((its.toArray.size:Int) - 1)) }) (I1.ok.hd hc) (pl.isList.push _) ⟨_,Heap.get?_push_size _ rfl,rfl,rfl⟩ (Nat.ne_of_lt el) (by simp only [List.size_toArray] <;> omega) fun t tk c kp oS=>?_
 have sz:s1.heap.objs.size<=(s1.heap.push (revObj l ((its.toArray.size:Int) - 1))).objs.size:=by rw [Heap.size_push]; exact Nat.le_succ _
 refine ⟨.ref _,_,I1.laid (t':=tk) (fun b o e=>kp b o (Nat.ne_of_lt (Heap.lt_size e)) (Heap.get?_push_of_some _ e)) sz (show dJ X.prog X.w _ t _ (.lst ys.reverse) from ⟨by simp; omega,its.reverse,c,rv.reverse,by simpa using oS⟩),rfl,q _ (I1.hok.fresh sz)⟩
noncomputable def Mr:List D->Option D
 |[.lst ds]=>some (.lst ds.reverse)
 |_=>none
theorem Tp {E:XK}{e:Expr}{p p' pos pos':Pos}{fs:Me->Res (List D)}(hc:X.calm=true)(hg:Gl X "list")(hm:X.mg "list" = none)(hg':Gl X "reversed")(hm':X.mg "reversed" = none)(ha:FAB X E [e] fs)
  (hs:starEach [e] X.env=[(false,eval e X.env)]:=by rfl) (hs':starEach [.Call (.Name "reversed" p') [e] [] pos'] X.env=[(false,eval (.Call (.Name "reversed" p') [e] [] pos') X.env)]:=by rfl):
  FN X E (.Call (.Name "list" p) [.Call (.Name "reversed" p') [e] [] pos'] [] pos) (aQ Mr fs):=
 bx (S6 hc hg hm hg' hm' ha hs hs') fun σ H Q h=>by
  obtain ⟨O0,M0,H0,ow,m,R,q⟩:=h
  refine ⟨O0,M0,H0,ow,m,R,q.bind.imp (aK.refl _) fun ds q vs H1 g1 hv=>?_⟩
  obtain ⟨r,hr,k⟩:=q.ofO
  match ds,hr with
  |[.lst ds],hr=>
   cases hr
   obtain ⟨v,rfl,hw⟩:=uZ hv
   obtain ⟨l,xs,rfl,hp,hd⟩:=iY hw
   exact ⟨l,xs,rfl,hp,fun b hb=>k b _ (g1.trans (bJ hb _)) (g1.free hb) ⟨_,aZ,((Ay hd).bT fun c z=>z.elim .inl fun e=>.inr (by rw [e]; exact hb)).mono (bJ hb _)⟩⟩
end
open PySem PySem.Spec PyProof.Rows L2 Hd
section
variable {X:Cx}{tg:Expr}
end
open PySem PySem.Spec PyProof.Rows L2 Hd
theorem ints_of:∀{ns:List Int} {us:List Value},Vals (ns.map V.int) us->∃xs:Array (Int×Tok),us.toArray=intItems xs/\xs.toList.map (·.1)=ns
 |[],_,.nil=>⟨#[],by simp [intItems],rfl⟩
 |n::ns,_,.cons r t=>by
  obtain ⟨xs,e1,e2⟩:=ints_of t
  obtain ⟨k,rfl⟩:=r
  refine ⟨#[(n,k)]++xs,?_,by simp [e2]⟩
  have e3:=congrArg Array.toList e1
  apply Array.toList_inj.mp
  simp [intItems] at e3 ⊢
  exact e3
noncomputable def M9:List D->Option D
 |[.lst ds]=>(uU ds).map fun ns=>.int ns.sum
 |_=>none
section
variable {X:Cx}
theorem Ao (hc:X.calm=true):jD X (.builtin "sum") (rGC (gx X) M9):=by
 intro pins s σ H xs us Q I r h
 obtain ⟨O,ds,d,m,hx,hr,q⟩:=h
 match ds,hr with
 |[.lst ds],hr=>
  obtain ⟨ns,e1,rfl⟩:=omap hr
  obtain ⟨v,rfl,hv⟩:=uZ hx
  obtain ⟨p,xs,rfl,hp,hd⟩:=iY hv
  have:=xH hd e1
  subst this
  obtain ⟨u,rfl,rx⟩:=vals1 r
  cases rx
  obtain ⟨its,r',pl,hz⟩:=I.list hp
  obtain ⟨ys,e2,e3⟩:=ints_of r'
  refine sum_intListG (I.ok.hd hc) (xs:=ys) (e2 ▸ pl.isList) fun h' tk t' kp=>?_
  have e4:preSum (numAt ys) ys.size=ns.sum:=by rw [preSum_eq,List.take_of_length_le (by simp),e3]
  rw [e4]
  exact ⟨.int _,H,I.kept kp,⟨t',rfl⟩,q _ _ (aK.refl _) (.int _)⟩
end
open PySem PySem.Spec PyProof.Rows L2 Hd
theorem vC {G:Gx}{O:Addr->Prop}{H:Hp}{v:V}{d:D}(h:DV G O H v d):∀{vs:List V} {ds:List D} (j:Nat),DVs G O H vs ds->DVs G O H (vs.set j v) (ds.set j d)
 |_,_,_,.nil=>.nil
 |_,_,0,.cons _ t=>.cons h t
 |_,_,j+1,.cons a t=>.cons a (vC h j t)
section
variable {X:Cx}{E:XK}{e ke:Expr}{f fk:Me->Res D}{pos spos np:Pos}{x:Str}
theorem FP (i:Nat)(he:FE X E e f)(hk:FE X E ke fk)(hN:X.N[i]? = some x:=by rfl)(hv:Vis X.env.scope x:=by first | exact Or.inl rfl | exact Or.inr (Or.inl rfl) | exact Or.inr (Or.inr rfl))(hd:(x == ("__debug__" : Str))=false:=by decide)(hcd:(x == ("__classdict__" : Str))=false:=by decide)
  (ha:∀v,assign (.Subscript (.Name x np) ke spos) X.env v=(do
   let ov ← holding [v] (eval (.Name x np) X.env)
   let iv ← holding [v,ov] (eval ke X.env)
   standAt spos
   holding [v,ov,iv] (setItem ov iv v)
   release [v,ov,iv] []):=by intro _; rfl)
  (hs:swapsWithSole [.Subscript (.Name x np) ke spos] e pos.line X.env=pure false:=by rfl) (hw:swappedStores [.Subscript (.Name x np) ke spos] e X.env=pure none:=by rfl)
  (h1:(assignEach [.Subscript (.Name x np) ke spos] X.env).map (·.2)=[assign (.Subscript (.Name x np) ke spos) X.env]:=by rfl):FS X E (.Assign [.Subscript (.Name x np) ke spos] e pos) (uw i fk f):=
 cF (Gy he (QF (iZ hN hv hd hcd) hk set_list ha) hs hw h1) fun W σ H hE=>xq5 hE fun O0 M0 H0 ow m R q=>
  ⟨O0,M0,H0,ow,m,R.toRel,(Ss.pu R.toRel q).imp (aK.refl _) fun d q v H1 g1 hv=>by
   obtain ⟨o,ho,q⟩:=Ss.ofO q
   obtain ⟨k,ds⟩:=o
   have R1:=R.mono g1
   obtain ⟨a,xs,e1,e2,e3,e4,e5⟩:=oV R1.toRel ho
   refine ⟨_,e2,O0,M0,H0,ow,m,R1.toRel,(Ss.pu R1.toRel (q.go (Go.refl g1))).imp (aK.refl _) fun dk q vk H2 g2 hvk=>?_⟩
   cases dk with
   |int n=>
    cases hvk
    obtain ⟨j,hj,q⟩:=Ss.ofO q
    have R2:=R1.mono g2
    obtain ⟨R3,g3⟩:=R2.put (es:=ds.set j d) (ys:=xs.set j v) e1 e5 (vC (hv.mono g2) j (e4.mono g2))
    exact ⟨a,xs,n,j,rfl,rfl,g2 _ _ e3,by rw [bN e4]; exact hj,q _ _ _ R3 ((Go.refl g2).trans g3)⟩
   |_=>exact q.elim⟩
end
open PySem PySem.Spec PyProof.Rows L2 Hd
noncomputable def sG:D->Option Key
 | .int i=>some (.inl i)
 | .str z=>some (.inr z)
 |_=>none
noncomputable def vX:List Key->List D->Key->Option D
 |k'::ks,d::ds,k=>if k'=k then some d else vX ks ds k
 |_,_,_=>none
noncomputable def Ah:List Key->List D->Key->D->List D
 |k'::ks,d'::ds,k,d=>(if k'=k then d else d')::Ah ks ds k d
 |_,_,_,_=>[]
noncomputable def putD (ks:List Key)(ds:List D)(k:Key)(d:D):List Key×List D:=if ks.any (fun x=>decide (x=k))=true then (ks,Ah ks ds k d) else (ks++[k],ds++[d])
theorem Hf {G:Gx}{O:Addr->Prop}{H:Hp}{v:V}{d:D}{k:Key}(h:DW G O H v d)(e:sG d=some k):v=kV k:=by
 cases d with
 |int i=>cases e; cases cB h; rfl
 |str z=>cases e; cases lC h; rfl
 |_=>cases e
theorem Jv {G:Gx}{O:Addr->Prop}{H:Hp}{k:Key}:∀{kvs:List (Key×V)} {ds:List D},DVs G O H (kvs.map (·.2)) ds->
  (∃v d,o7 kvs k=some v/\vX (kvs.map (·.1)) ds k=some d/\DV G O H v d)\/(o7 kvs k=none/\vX (kvs.map (·.1)) ds k=none)
 |[],_,.nil=>.inr ⟨rfl,rfl⟩
 |(k',v)::kvs,_,.cons (d:=d) h hs=>by
  by_cases q:k'=k
  ·exact .inl ⟨v,d,rm q,by simp [vX,q],h⟩
  ·rw [qN (p:=(k',v)) q]
   simp only [List.map_cons,vX,if_neg q]
   exact Jv hs
section
variable {X:Cx}{E:XK}
noncomputable def cQ:D->D->Option D
 | .dct ks ds,k=>(sG k).bind (vX ks ds)
 |_,_=>none
theorem jO {j:Nat}{A:Around}(r:ig j A):A.units+16<cLine:=by have:=r.un; omega
variable {a b:Expr}{fa fb:Me->Res D}{pos:Pos}
theorem gD {j:Nat}(hr:ig j X.A)(ha:FB X E a fa)(hb:FB X E b fb)(hs:RL b):FE X E (.Subscript a b pos) (au cQ fa fb):=
 bx (Jk (jO hr) ha hb hs) fun σ H Q hE=>xq5 hE fun O0 M0 H0 ow m R q=>two (r:=fun x y H Q=>∃a v,x=.ref a/\CV X.K H a y (some v)/\Q v H) R (K:=fun z H=>∀v H',aK H H'->DV (gx X) (Ow O0 ow) H' v z->Q v H') q (fun _ _ k g v H' g' d=>k v H' (g.trans g') d) fun x y d e H' g hx hy q' R'=>by
  obtain ⟨r,hr,k⟩:=q'.ofO
  match d,hr with
  | .dct ks ds,hr=>
   obtain ⟨p,kvs,ws,rfl,hp,rfl,rfl,hd⟩:=Gk hx
   obtain ⟨ky,e2,e3⟩:=Option.bind_eq_some_iff.mp hr
   cases Hf hy e2
   rcases Jv (k:=ky) hd with ⟨v,d,a,b,c⟩ | ⟨a,b⟩
   ·rw [b] at e3
    cases e3
    exact ⟨p,v,rfl,a ▸ CV.k hp,k _ _ (aK.refl _) c⟩
   ·rw [b] at e3; cases e3
end
theorem Am (k:Key)(v:V):∀kvs:List (Key×V),(kvs.map fun kv=>if kv.1=k then (kv.1,v) else kv).map (·.1)=kvs.map (·.1)
 |[]=>rfl
 |p::kvs=>by
  rw [List.map_cons,List.map_cons,List.map_cons,Am k v kvs]
  split <;> rfl
theorem wu {G:Gx}{O:Addr->Prop}{H:Hp}{k:Key}{v:V}{d:D}(h:DV G O H v d):∀{kvs:List (Key×V)} {ds:List D},DVs G O H (kvs.map (·.2)) ds->DVs G O H ((kvs.map fun kv=>if kv.1=k then (kv.1,v) else kv).map (·.2)) (Ah (kvs.map (·.1)) ds k d)
 |[],_,.nil=>.nil
 |(k',v')::kvs,_,.cons h1 hs=>by
  simp only [List.map_cons,Ah]
  split
  ·exact .cons h (wu h hs)
  ·exact .cons h1 (wu h hs)
theorem JK {G:Gx}{O:Addr->Prop}{H:Hp}{k:Key}{v:V}{d:D}{kvs:List (Key×V)}{ds:List D}(h:DV G O H v d)(hs:DVs G O H (kvs.map (·.2)) ds):
  (putK kvs k v).map (·.1)=(putD (kvs.map (·.1)) ds k d).1/\DVs G O H ((putK kvs k v).map (·.2)) (putD (kvs.map (·.1)) ds k d).2:=by
 have e:(kvs.any fun kv=>decide (kv.1=k))=(kvs.map (·.1)).any fun x=>decide (x=k):=by rw [List.any_map]; rfl
 unfold putK putD
 rw [e]
 split
 ·exact ⟨Am k v kvs,wu h hs⟩
 ·exact ⟨by simp,by rw [List.map_append]; exact jh hs (.cons h .nil)⟩
open PySem PySem.Spec PyProof.Rows L2 Hd
noncomputable def CZ (m:Me)(i:Nat):Option (Bool×List Key×List D):=match m[i]? with
 |some (.ow (.dct ks ds))=>some (true,ks,ds)
 |some (.io (.dct ks ds))=>some (false,ks,ds)
 |_=>none
noncomputable def El (m:Me)(i:Nat)(k:Bool)(ks:List Key)(ds:List D):Me:=m.set i (if k then .ow (.dct ks ds) else .io (.dct ks ds))
section
variable {G:Gx}{O0 M0:Addr->Prop}{H0:Hp}{ow:Os}{σ:L2.St}{H:Hp}{m:Me}
theorem Ru (R:Rel G O0 M0 H0 ow σ H m){i:Nat}{k:Bool}{ks:List Key}{ds:List D}(e:CZ m i=some (k,ks,ds)):∃a kvs,ow i=some a/\σ[i]? = some (some (.ref a))/\H a=some (.dK kvs)/\kvs.map (·.1)=ks/\DVs G (Ow O0 ow) H (kvs.map (·.2)) ds/\((m[i]? = some (.ow (.dct ks ds))/\k=true)\/(m[i]? = some (.io (.dct ks ds))/\k=false)):=by
 unfold CZ at e
 split at e
 ·rename_i q
  cases e
  obtain ⟨a,e1,e2,e3,kvs,vs,e4,e5,rfl,e6⟩:=R.slot i _ q
  exact ⟨a,kvs,e1,e3,e4,e5,e6,.inl ⟨q,rfl⟩⟩
 ·rename_i q
  cases e
  obtain ⟨a,e1,e2,e3,kvs,vs,e4,e5,rfl,e6⟩:=R.slot i _ q
  exact ⟨a,kvs,e1,e3,e4,e5,e6,.inr ⟨q,rfl⟩⟩
 ·cases e
theorem cV.El {i:Nat}{k:Bool}{a:Addr}{ks ls:List Key}{ds es:List D}{kvs:List (Key×V)}(R:cV G O0 M0 H0 ow σ H m)(ho:ow i=some a)(hm:(m[i]? = some (.ow (.dct ks ds))/\k=true)\/(m[i]? = some (.io (.dct ks ds))/\k=false))
  (hk:kvs.map (·.1)=ls) (hd:DVs G (Ow O0 ow) H (kvs.map (·.2)) es):cV G O0 M0 H0 ow σ (L2.upd H a (.dK kvs)) (F.El m i k ls es)/\Go O0 ow H ow (L2.upd H a (.dK kvs)):=by
 have oa:Ow O0 ow a:=.inr ⟨i,ho⟩
 have kp:Kp (Ow O0 ow) H (L2.upd H a (.dK kvs)):=fun b u e n=>nT b u e fun z=>n (z ▸ oa)
 have ov:OV G (Ow O0 ow) (L2.upd H a (.dK kvs)) a (.dct ls es):=⟨kvs,_,L2.aZ,hk,rfl,hd.kp R.mutk kp⟩
 refine ⟨R.chg (d:=.dct ks ds) (d':=.dct ls es) ho nT ov ?_,Go.chg ho nT ov⟩
 rcases hm with ⟨e,rfl⟩ | ⟨e,rfl⟩
 ·exact .inl ⟨e,rfl⟩
 ·exact .inr ⟨e,rfl⟩
end
noncomputable def jL (i:Nat)(fk fv:Me->Res D):Me->Res (Fl×Me):=fun m=>(fv m).bind fun d=>(ofO (CZ m i)).bind fun o=>(fk m).bind fun k=>(ofO (sG k)).bind fun k=>
 if o.2.1.length<sizeLine then .ok (.nx,El m i o.1 (putD o.2.1 o.2.2 k d).1 (putD o.2.1 o.2.2 k d).2) else .stuck
section
variable {X:Cx}{E:XK}{e ke:Expr}{f fk:Me->Res D}{pos spos np:Pos}{x:Str}
theorem vm {jj:Nat}(i:Nat)(hr:ig jj X.A)(he:FE X E e f)(hk:FE X E ke fk)(hN:X.N[i]? = some x:=by rfl)(hv:Vis X.env.scope x:=by first | exact Or.inl rfl | exact Or.inr (Or.inl rfl) | exact Or.inr (Or.inr rfl))(hd:(x == ("__debug__" : Str))=false:=by decide)(hcd:(x == ("__classdict__" : Str))=false:=by decide)
  (hs:swapsWith e (some (.Subscript (.Name x np) ke spos)) pos.line X.env=pure false:=by rfl):FS X E (.Assign [.Subscript (.Name x np) ke spos] e pos) (jL i fk f):=
 cF (Bq (jO hr) (iZ hN hv hd hcd) hk he hs) fun W σ H hE=>xq5 hE fun O0 M0 H0 ow m R q=>
  ⟨O0,M0,H0,ow,m,R.toRel,(Ss.pu R.toRel q).imp (aK.refl _) fun d q v H1 g1 hv=>by
   obtain ⟨o,ho,q⟩:=Ss.ofO q
   obtain ⟨k,ks,ds⟩:=o
   have R1:=R.mono g1
   obtain ⟨a,kvs,e1,e2,e3,e4,e5,e6⟩:=Ru R1.toRel ho
   refine ⟨_,e2,O0,M0,H0,ow,m,R1.toRel,(Ss.pu R1.toRel (q.go (Go.refl g1))).imp (aK.refl _) fun dk q vk H2 g2 hvk=>?_⟩
   obtain ⟨ky,h1,q⟩:=Ss.ofO q
   cases Hf (.inl hvk) h1
   by_cases hz:ks.length<sizeLine
   ·rw [if_pos hz] at q
    have R2:=R1.mono g2
    obtain ⟨p1,p2⟩:=JK (k:=ky) (hv.mono g2) (e5.mono g2)
    rw [e4] at p1 p2
    obtain ⟨R3,g3⟩:=R2.El e1 e6 p1 p2
    exact ⟨a,_,rfl,Bu.k (g2 _ _ e3) (by rw [← List.length_map (f:=(·.1)),e4]; exact hz),q _ _ _ R3 ((Go.refl g2).trans g3)⟩
   ·rw [if_neg hz] at q; exact q.elim⟩
end
open PySem PySem.Spec PyProof.Rows L2 Hd
section
variable {X:Cx}{E:XK}{e v₁ v₂:Expr}{es:List Expr}{f:Me->Res D}{pos:Pos}
end
open PySem PySem.Spec PyProof.Rows L2 Hd
section
variable {X:Cx}
end
open PySem PySem.Spec PyProof.Rows L2 Hd
section
variable {X:Cx}{E:XK}{e:Expr}
end
open PySem PySem.Spec PyProof.Rows L2 Hd
section
variable {X:Cx}{E:XK}{e:Expr}{f:Me->Res D}{pos:Pos}
theorem mulOk_of {z:Str}{n:Int}(h0:0<=n)(h1:n<=1000)(hz:z.length<=1000):MulOk z n:=by
 refine ⟨by simp; omega,fun p _=>?_,fun p _=>?_⟩
 ·have:(1000:Int)<=(2 ^ 63 - 1) / n:=by
   rw [Int.le_ediv_iff_mul_le (by omega)]
   omega
  omega
 ·have:z.length * n.toNat<=1000 * 1000:=Nat.mul_le_mul hz (by omega)
  have e:sizeLine=16777216:=by decide
  simp [Builtin.Str.tooLong,e]
  omega
end
open PySem PySem.Spec PyProof.Rows L2 Hd
noncomputable def lM (f:D->Option Kt):List D->Option (List Kt)
 |[]=>some []
 |d::ds=>(f d).bind fun k=>(lM f ds).map fun ks=>k::ks
noncomputable def ktD:Nat->D->Option Kt
 |_,.int i=>some (.k (.inl i))
 |_,.str x=>some (.k (.inr x))
 |n+1,.tup ds=>(lM (ktD n) ds).map .t
 |_,_=>none
noncomputable def rn:D->Option (List Kt)
 | .tup ds=>lM (ktD 7) ds
 |_=>none
noncomputable def cA:List (List Kt)->List D->List Kt->Option D
 |k'::ks,d::ds,k=>if k'=k then some d else cA ks ds k
 |_,_,_=>none
noncomputable def sW:List (List Kt)->List D->List Kt->D->List D
 |k'::ks,d'::ds,k,d=>(if k'=k then d else d')::sW ks ds k d
 |_,_,_,_=>[]
noncomputable def jt (ks:List (List Kt))(ds:List D)(k:List Kt)(d:D):List (List Kt)×List D:=if ks.any (fun x=>decide (x=k))=true then (ks,sW ks ds k d) else (ks++[k],ds++[d])
theorem Ax {G:Gx}{O:Addr->Prop}{H:Hp}{n:Nat}{f:D->Option Kt}(hf:∀{v d k},DV G O H v d->f d=some k->wV (KTp G.K) H n v k):∀{vs:List V} {ds:List D} {ks:List Kt},DVs G O H vs ds->lM f ds=some ks->qG (KTp G.K) H n vs ks
 |_,_,_,.nil,e=>by cases e; exact .nil
 |_,_,_,.cons (d:=d) (ds:=ds) h hs,e=>by
  have e:(f d).bind (fun k=>(lM f ds).map fun ks=>k::ks)=some _:=e
  obtain ⟨k,e1,e2⟩:=Option.bind_eq_some_iff.mp e
  obtain ⟨ks,e3,rfl⟩:=omap e2
  exact .cons (hf h e1) (Ax hf hs e3)
theorem Ug {G:Gx}{O:Addr->Prop}{H:Hp}:∀(n:Nat) {v:V} {d:D} {k:Kt},DV G O H v d->ktD n d=some k->wV (KTp G.K) H n v k
 |n,_,_,k,.int i,e=>by
  have:k=.k (.inl i):=by cases n <;> (rw [ktD] at e; exact (Option.some.inj e).symm)
  subst this; exact wV.k (x:=.inl i)
 |n,_,_,k,.str x,e=>by
  have:k=.k (.inr x):=by cases n <;> (rw [ktD] at e; exact (Option.some.inj e).symm)
  subst this; exact wV.k (x:=.inr x)
 |n+1,_,_,k,.tup h hs,e=>by
  rw [ktD] at e
  obtain ⟨ks,e3,rfl⟩:=omap e
  exact .t h (Ax (fun h e=>Ug n h e) hs e3)
 |0,_,_,k,.tup h hs,e=>by simp [ktD] at e
 |n,_,_,k,.non,e=>by cases n <;> simp [ktD] at e
 |n,_,_,k,.bl _,e=>by cases n <;> simp [ktD] at e
 |n,_,_,k,.adr _,e=>by cases n <;> simp [ktD] at e
 |n,_,_,k,.exc _ _,e=>by cases n <;> simp [ktD] at e
 |n,_,_,k,.lst _ _,e=>by cases n <;> simp [ktD] at e
 |n,_,_,k,.dct _ _ _ _ _,e=>by cases n <;> simp [ktD] at e
 |n,_,_,k,.dcu _ _ _ _ _,e=>by cases n <;> simp [ktD] at e
 |n,_,_,k,.dcf _ _ _ _,e=>by cases n <;> simp [ktD] at e
theorem qp {G:Gx}{O:Addr->Prop}{H:Hp}{v:V}{d:D}{k:List Kt}(h:DW G O H v d)(e:rn d=some k):∃b,v=.ref b/\TrT (KTp G.K) H b k:=by
 cases d with
 |tup ds=>
  obtain ⟨b,xs,rfl,hq,hd⟩:=xK h
  exact ⟨b,rfl,xs,hq,Ax (fun h e=>Ug 7 h e) hd e⟩
 |_=>cases e
theorem xu {G:Gx}{O:Addr->Prop}{H:Hp}{k:List Kt}:∀{kvs:List (List Kt×V)} {ds:List D},DVs G O H (kvs.map (·.2)) ds->
  (∃v d,o7 kvs k=some v/\cA (kvs.map (·.1)) ds k=some d/\DV G O H v d)\/(o7 kvs k=none/\cA (kvs.map (·.1)) ds k=none)
 |[],_,.nil=>.inr ⟨rfl,rfl⟩
 |(k',v)::kvs,_,.cons (d:=d) h hs=>by
  by_cases q:k'=k
  ·exact .inl ⟨v,d,rm q,by simp [cA,q],h⟩
  ·rw [qN (p:=(k',v)) q]
   simp only [List.map_cons,cA,if_neg q]
   exact xu hs
noncomputable def dcK:D->Option (List (List Kt)×List D)
 | .dcu ks ds=>some (ks,ds)
 | .dcf ks ds=>some (ks,ds)
 |_=>none
theorem Mt {G:Gx}{O:Addr->Prop}{H:Hp}{v:V}{d:D}{ks:List (List Kt)}{ds:List D}(h:DW G O H v d)(e:dcK d=some (ks,ds)):∃a kvs,v=.ref a/\Rd H a (.dT (KTp G.K) kvs)/\kvs.map (·.1)=ks/\DVs G O H (kvs.map (·.2)) ds:=by
 cases d with
 |dcu ks' ds'=>
  cases e
  obtain ⟨p,kvs,ws,rfl,hp,e1,rfl,hd⟩:=Oi h
  exact ⟨p,kvs,rfl,.inl hp,e1,hd⟩
 |dcf ks' ds'=>
  cases e
  rcases h with h | ⟨_,_,_,h⟩
  ·cases h with
   |dcf e1 e2 e3 hs=>subst e3; exact ⟨_,_,rfl,.inr ⟨_,e1⟩,e2,hs⟩
  ·exact h.elim
 |_=>cases e
section
variable {X:Cx}{E:XK}
noncomputable def uQ (d k:D):Option D:=(dcK d).bind fun c=>(rn k).bind (cA c.1 c.2)
noncomputable def HN (k d:D):Option Bool:=(dcK d).bind fun c=>(rn k).map fun k=>(cA c.1 c.2 k).isSome
noncomputable def uR (d e:D):Option Bool:=(HN d e).map (!·)
theorem Jd {G:Gx}{O:Addr->Prop}{H:Hp}{k:List Kt}{kvs:List (List Kt×V)}{ds:List D}(hd:DVs G O H (kvs.map (·.2)) ds):(o7 kvs k).isSome=(cA (kvs.map (·.1)) ds k).isSome:=by
 rcases xu (k:=k) hd with ⟨_,_,a,b,_⟩ | ⟨a,b⟩ <;> simp [a,b]
theorem Ib {j:Nat}(hr:ig j X.A):OpR X (compareOp .NotIn) (rGB (gx X) uR):=by
 intro pins s σ H x y v u Q I rx ry h
 obtain ⟨O,d,e,r,m,hx,hy,e1,q⟩:=h
 obtain ⟨c,e0,rfl⟩:=omap e1
 obtain ⟨⟨ks,ds⟩,ec,e3⟩:=Option.bind_eq_some_iff.mp e0
 obtain ⟨k,e2,rfl⟩:=omap e3
 obtain ⟨p,kvs,rfl,hp,rfl,hd⟩:=Mt hy ec
 obtain ⟨b,rfl,hb⟩:=qp hx e2
 cases ry
 refine Ud (jO hr) I (.inr ⟨kvs,k,b,hp,rfl,hb,rfl⟩) rx fun s' I'=>⟨.bl _,H,I',rfl,?_⟩
 rw [Jd hd]
 exact q
variable {a b:Expr}{fa fb:Me->Res D}{pos:Pos}
theorem Dq {j:Nat}(hr:ig j X.A)(ha:FB X E a fa)(hb:FB X E b fb)(hs:RL b):FE X E (.Subscript a b pos) (au uQ fa fb):=
 bx (Jk (jO hr) ha hb hs) fun σ H Q hE=>xq5 hE fun O0 M0 H0 ow m R q=>two (r:=fun x y H Q=>∃a v,x=.ref a/\CV X.K H a y (some v)/\Q v H) R (K:=fun z H=>∀v H',aK H H'->DV (gx X) (Ow O0 ow) H' v z->Q v H') q (fun _ _ k g v H' g' d=>k v H' (g.trans g') d) fun x y d e H' g hx hy q' R'=>by
  obtain ⟨r,hr,k⟩:=q'.ofO
  obtain ⟨⟨ks,ds⟩,ec,hr⟩:=Option.bind_eq_some_iff.mp hr
  obtain ⟨ky,e2,e3⟩:=Option.bind_eq_some_iff.mp hr
  obtain ⟨p,kvs,rfl,hp,rfl,hd⟩:=Mt hx ec
  obtain ⟨b,rfl,hb⟩:=qp hy e2
  rcases xu (k:=ky) hd with ⟨v,d,a,c,dv⟩ | ⟨a,c⟩
  ·have e3:cA (kvs.map (·.1)) ds ky=some r:=e3
   rw [c] at e3
   cases e3
   exact ⟨p,v,rfl,.inr ⟨kvs,ky,b,hp,rfl,hb,a.symm⟩,k _ _ (aK.refl _) dv⟩
  ·have e3:cA (kvs.map (·.1)) ds ky=some r:=e3
   rw [c] at e3; cases e3
noncomputable def wA:Me->Res D:=fun _=>.ok (.dcu [] [])
theorem xx:FN X E (.Dict [] [] pos) wA:=bx Od fun σ H Q ⟨O0,M0,H0,ow,m,R,q⟩ p hp=>q p _ (bJ hp _) hp ⟨[],[],aZ,rfl,rfl,.nil⟩
end
theorem yK (k:List Kt)(v:V):∀kvs:List (List Kt×V),(kvs.map fun kv=>if kv.1=k then (kv.1,v) else kv).map (·.1)=kvs.map (·.1)
 |[]=>rfl
 |p::kvs=>by
  rw [List.map_cons,List.map_cons,List.map_cons,yK k v kvs]
  split <;> rfl
theorem uq {G:Gx}{O:Addr->Prop}{H:Hp}{k:List Kt}{v:V}{d:D}(h:DV G O H v d):∀{kvs:List (List Kt×V)} {ds:List D},DVs G O H (kvs.map (·.2)) ds->DVs G O H ((kvs.map fun kv=>if kv.1=k then (kv.1,v) else kv).map (·.2)) (sW (kvs.map (·.1)) ds k d)
 |[],_,.nil=>.nil
 |(k',v')::kvs,_,.cons h1 hs=>by
  simp only [List.map_cons,sW]
  split
  ·exact .cons h (uq h hs)
  ·exact .cons h1 (uq h hs)
theorem Jy {G:Gx}{O:Addr->Prop}{H:Hp}{k:List Kt}{v:V}{d:D}{kvs:List (List Kt×V)}{ds:List D}(h:DV G O H v d)(hs:DVs G O H (kvs.map (·.2)) ds):
  (putK kvs k v).map (·.1)=(jt (kvs.map (·.1)) ds k d).1/\DVs G O H ((putK kvs k v).map (·.2)) (jt (kvs.map (·.1)) ds k d).2:=by
 have e:(kvs.any fun kv=>decide (kv.1=k))=(kvs.map (·.1)).any fun x=>decide (x=k):=by rw [List.any_map]; rfl
 unfold putK jt
 rw [e]
 split
 ·exact ⟨yK k v kvs,uq h hs⟩
 ·exact ⟨by simp,by rw [List.map_append]; exact jh hs (.cons h .nil)⟩
noncomputable def wW (m:Me)(i:Nat):Option (Bool×List (List Kt)×List D):=match m[i]? with
 |some (.ow (.dcu ks ds))=>some (true,ks,ds)
 |some (.io (.dcu ks ds))=>some (false,ks,ds)
 |_=>none
noncomputable def oN (m:Me)(i:Nat)(k:Bool)(ks:List (List Kt))(ds:List D):Me:=m.set i (if k then .ow (.dcu ks ds) else .io (.dcu ks ds))
section
variable {G:Gx}{O0 M0:Addr->Prop}{H0:Hp}{ow:Os}{σ:L2.St}{H:Hp}{m:Me}
theorem Bk (R:Rel G O0 M0 H0 ow σ H m){i:Nat}{k:Bool}{ks:List (List Kt)}{ds:List D}(e:wW m i=some (k,ks,ds)):∃a kvs,ow i=some a/\σ[i]? = some (some (.ref a))/\H a=some (.dT (KTp G.K) kvs)/\kvs.map (·.1)=ks/\DVs G (Ow O0 ow) H (kvs.map (·.2)) ds/\((m[i]? = some (.ow (.dcu ks ds))/\k=true)\/(m[i]? = some (.io (.dcu ks ds))/\k=false)):=by
 unfold wW at e
 split at e
 ·rename_i q
  cases e
  obtain ⟨a,e1,e2,e3,kvs,vs,e4,e5,rfl,e6⟩:=R.slot i _ q
  exact ⟨a,kvs,e1,e3,e4,e5,e6,.inl ⟨q,rfl⟩⟩
 ·rename_i q
  cases e
  obtain ⟨a,e1,e2,e3,kvs,vs,e4,e5,rfl,e6⟩:=R.slot i _ q
  exact ⟨a,kvs,e1,e3,e4,e5,e6,.inr ⟨q,rfl⟩⟩
 ·cases e
theorem cV.oN {i:Nat}{k:Bool}{a:Addr}{ks ls:List (List Kt)}{ds es:List D}{kvs:List (List Kt×V)}(R:cV G O0 M0 H0 ow σ H m)(ho:ow i=some a)(hm:(m[i]? = some (.ow (.dcu ks ds))/\k=true)\/(m[i]? = some (.io (.dcu ks ds))/\k=false))
  (hk:kvs.map (·.1)=ls) (hd:DVs G (Ow O0 ow) H (kvs.map (·.2)) es):cV G O0 M0 H0 ow σ (L2.upd H a (.dT (KTp G.K) kvs)) (F.oN m i k ls es)/\Go O0 ow H ow (L2.upd H a (.dT (KTp G.K) kvs)):=by
 have oa:Ow O0 ow a:=.inr ⟨i,ho⟩
 have kp:Kp (Ow O0 ow) H (L2.upd H a (.dT (KTp G.K) kvs)):=fun b u e n=>nT b u e fun z=>n (z ▸ oa)
 have ov:OV G (Ow O0 ow) (L2.upd H a (.dT (KTp G.K) kvs)) a (.dcu ls es):=⟨kvs,_,L2.aZ,hk,rfl,hd.kp R.mutk kp⟩
 refine ⟨R.chg (d:=.dcu ks ds) (d':=.dcu ls es) ho nT ov ?_,Go.chg ho nT ov⟩
 rcases hm with ⟨e,rfl⟩ | ⟨e,rfl⟩
 ·exact .inl ⟨e,rfl⟩
 ·exact .inr ⟨e,rfl⟩
end
noncomputable def Af (i:Nat)(fk fv:Me->Res D):Me->Res (Fl×Me):=fun m=>(fv m).bind fun d=>(ofO (wW m i)).bind fun o=>(fk m).bind fun k=>(ofO (rn k)).bind fun k=>
 if o.2.1.length<sizeLine then .ok (.nx,oN m i o.1 (jt o.2.1 o.2.2 k d).1 (jt o.2.1 o.2.2 k d).2) else .stuck
section
variable {X:Cx}{E:XK}{e ke:Expr}{f fk:Me->Res D}{pos spos np:Pos}{x:Str}
theorem JR {jj:Nat}(i:Nat)(hr:ig jj X.A)(he:FE X E e f)(hk:FE X E ke fk)(hN:X.N[i]? = some x:=by rfl)(hv:Vis X.env.scope x:=by first | exact Or.inl rfl | exact Or.inr (Or.inl rfl) | exact Or.inr (Or.inr rfl))(hd:(x == ("__debug__" : Str))=false:=by decide)(hcd:(x == ("__classdict__" : Str))=false:=by decide)
  (hs:swapsWith e (some (.Subscript (.Name x np) ke spos)) pos.line X.env=pure false:=by rfl):FS X E (.Assign [.Subscript (.Name x np) ke spos] e pos) (Af i fk f):=
 cF (Bq (jO hr) (iZ hN hv hd hcd) hk he hs) fun W σ H hE=>xq5 hE fun O0 M0 H0 ow m R q=>
  ⟨O0,M0,H0,ow,m,R.toRel,(Ss.pu R.toRel q).imp (aK.refl _) fun d q v H1 g1 hv=>by
   obtain ⟨o,ho,q⟩:=Ss.ofO q
   obtain ⟨k,ks,ds⟩:=o
   have R1:=R.mono g1
   obtain ⟨a,kvs,e1,e2,e3,e4,e5,e6⟩:=Bk R1.toRel ho
   refine ⟨_,e2,O0,M0,H0,ow,m,R1.toRel,(Ss.pu R1.toRel (q.go (Go.refl g1))).imp (aK.refl _) fun dk q vk H2 g2 hvk=>?_⟩
   obtain ⟨ky,h1,q⟩:=Ss.ofO q
   obtain ⟨b,rfl,hb⟩:=qp (.inl hvk) h1
   by_cases hz:ks.length<sizeLine
   ·rw [if_pos hz] at q
    have R2:=R1.mono g2
    obtain ⟨p1,p2⟩:=Jy (k:=ky) (hv.mono g2) (e5.mono g2)
    rw [e4] at p1 p2
    obtain ⟨R3,g3⟩:=R2.oN e1 e6 p1 p2
    exact ⟨a,_,rfl,Bu.t (g2 _ _ e3) hb (by rw [← List.length_map (f:=(·.1)),e4]; exact hz),q _ _ _ R3 ((Go.refl g2).trans g3)⟩
   ·rw [if_neg hz] at q; exact q.elim⟩
end
open PySem PySem.Spec PyProof.Rows L2 Hd
section
variable {X:Cx}{E:XK}{e:Expr}{f:Me->Res D}{pos:Pos}
end
open PySem PySem.Spec PyProof.Rows L2 Hd
section
variable {prog:Program}{w:World}{A:Around}{E:Value->Shared->Prop}{s:Shared}{d it:Addr}{es:Array DictEntry}{ep i:Nat}{o oi:Obj}
end
open PySem PySem.Spec PyProof.Rows L2 Hd
section
variable {X:Cx}{E:XK}{rest:List Stmt}{k:Me->Res (Fl×Me)}
end
section
variable {X:Cx}{tg:Expr}
end
open PySem PySem.Spec PyProof.Rows L2 Hd
section
variable {X:Cx}
end
noncomputable def met (f:Nat->Str):Nat->List Str
 |0=>[]
 |i+1=>if (met f i).any (· == f i) then met f i else met f i++[f i]
section
variable {pr:Program}{wo:World}{A:Around}{R:Result->Shared->Prop}{I:Addr}{fp wr:List Addr}{G:Array GenState->Array GenState->Prop}{n:Nat}{P:Nat->Value->Prop}{St:Nat->Shared->Prop}
end
section
variable {pr:Program}{wo:World}{A:Around}{E:Value->Shared->Prop}{s:Shared}
end
open PySem PySem.Spec PyProof.Rows L2 Hd
section
variable {X:Cx}
end
open PySem PySem.Spec PyProof.Rows L2 Hd
structure Wr (p:Prop):Prop where
 out:p
section
variable {X:Cx}{E:XK}{e a b c ke:Expr}{es:List Expr}{st:Stmt}{rest sa sb:List Stmt}{f fa fb fk:Me->Res D}{fs:Me->Res (List D)}{ft:Me->Res Bool}{gg k ga gb:Me->Res (Fl×Me)}{pos pos' apos cpos np spos p:Pos}{i:Nat}{x:Str}
theorem Hq (h1:Wr (FS X E st gg))(h2:Wr (FSs X E rest k)):Wr (FSs X E (st::rest) (aL gg k)):=⟨az h1.out h2.out⟩
theorem XF (h1:Wr (FS X E st gg)):Wr (FSs X E [st] gg):=⟨aD h1.out⟩
theorem Uy (hN:X.N.Nodup)(hi:X.N[i]? = some x)(hx:Loc X.env.scope x)(he:Wr (FN X E e f))(hs:swapsWith e (some (.Name x pos')) pos.line X.env=pure false:=by rfl)
  (hf:X.fn x=true\/X.env.scope.names.lookup x=some .local:=by first | exact .inl rfl | exact .inr rfl | assumption):Wr (FS X E (.Assign [.Name x pos'] e pos) (eX i f)):=⟨gR hN hi hx he.out hs hf⟩
theorem X3 (h:Wr (FAE X E es fs)):Wr (FN X E (.List es pos) (fV fs)):=⟨fU h.out⟩
end
open PySem PySem.Spec PyProof.Rows L2 Hd
section
variable {pr:Program}{wo:World}{A:Around}{E:Value->Shared->Prop}{s:Shared}{κ:Type}[DecidableEq κ]{kn:HeapKind pr wo κ}
theorem Tz {d a:Addr}{xs:List (κ×Addr×Value)}{k:κ}{v:Value}{Q:Value->Shared->Prop}(hu:kn.room A)(hk:kn.is s.heap k a)(hm:s.heap.DictOfH kn d xs)(hz:xs.length<=sizeLine)
  (old:∀p,atKey xs k=some p->Q p.2 { s with toks:=s.toks+kn.draws k })
  (new:atKey xs k=none->∀h',h'.DictOfH kn d (xs++[(k,a,v)])->Heap.SameBut d s.heap h'->Q v { s with heap:=h',toks:=s.toks+kn.draws k }):
  wpAny (model pr wo) A (dictSetDefault d (.ref a) v) Q E s:=by
 obtain ⟨o,es,ep,ho,hc,hd,he,hi,hn⟩:=id hm
 unfold dictSetDefault
 refine wpAny_holding (wpAny_bind (kn.pyHash hu hk (wpAny_bind (wpAny_dictFind_heap (s:={ s with toks:=s.toks+kn.draws k }) hu hk ho hd he hi hn (fun no=>?_) fun j p hj=>?_))))
 ·have h0:=atKey_none_of_get no
  have nk:=not_mem_keys_of_get no
  have es1:=size_of_entries he
  refine wpAny_bind (wpAny_rule (wpAny_bind (wpAny_updateDictKeys (hz:=by omega) (s:={ s with toks:=s.toks+kn.draws k }) ho hd (wpAny_pure (new h0 _ ⟨_,_,ep+1,Heap.get?_update_self _ ho (Obj.isFreed_of_dict (Obj.data_mapDictKeys hd _)),hc.mapDictKeys _,Obj.data_mapDictKeys hd _,?_,fun y hy=>?_,?_⟩ (Heap.SameBut.update ..))))))
  ·simp [he,entryOfKey]
  ·rcases List.mem_append.mp hy with z | z
   ·exact kn.keeps (hi y z) ho hd (Heap.SameBut.update ..)
   ·rw [List.mem_singleton.mp z]
    exact kn.keeps hk ho hd (Heap.SameBut.update ..)
  ·rw [List.map_append,List.nodup_append]
   refine ⟨hn,by simp,fun y hy z hz' e=>nk ?_⟩
   have e2:z=k:=List.mem_singleton.mp hz'
   rw [← e2,← e]
   exact hy
 ·refine wpAny_bind (wpAny_dictEntries (s:={ s with toks:=s.toks+kn.draws k }) ho hd ?_)
  rw [entry_at he j,hj]
  exact wpAny_bind (wpAny_rule (wpAny_pure (old p (atKey_of_get hn hj))))
theorem Nm {d a:Addr}{xs:List (κ×Addr×Value)}{k:κ}{v:Value}{Q:Value->Shared->Prop}(hu:kn.room A.in1)(hk:kn.is s.heap k a)(hm:s.heap.DictOfH kn d xs)(hz:xs.length<=sizeLine)(hd:(d == sysModules)=false)
  (old:∀p,atKey xs k=some p->Q p.2 { s with toks:=s.toks+kn.draws k })
  (new:atKey xs k=none->∀h',h'.DictOfH kn d (xs++[(k,a,v)])->Heap.SameBut d s.heap h'->Q v { s with heap:=h',toks:=s.toks+kn.draws k }):
  wpAny (model pr wo) A (call (.builtin "dict.setdefault") [.ref d,.ref a,v]) Q E s:=by
 refine wpAny_call_entry PySem.F.slot_dict_setdefault hm.typeIs PySem.F.entry_dict_setdefault ?_ (PySem.F.args_dict_setdefault_3 _ _ _)
 unfold Builtin.«dict.setdefault»
 refine wpAny_bind ?_
 unfold Builtin.Dict.keyAndDefault
 refine wpAny_bind (wpAny_notOrdered_dict hm.typeIs ?_)
 show wpAny _ _ (pure (d,Value.ref a,some v)) _ _ s
 refine wpAny_pure ?_
 show wpAny _ _ (if (d == sysModules)=true then _ else (dictSetDefault d (.ref a) v >>= _)) _ _ s
 rw [if_neg (by rw [hd]; exact Bool.false_ne_true)]
 exact wpAny_bind (Tz hu hk hm hz (fun p e=>wpAny_pure ⟨p.2,rfl,old p e⟩) fun e h' x y=>wpAny_pure ⟨v,rfl,new e h' x y⟩)
end
noncomputable def ZQ (K:W.Frag)(td ty tx:TE):TE:=fun σ H Q=>td σ H fun x H1=>∃a,x=.ref a/\IsD K H1 a/\ty σ H1 fun y H2=>tx σ H2 fun z H3=>∃kvs k b,H3 a=some (.dT (KTp K) kvs)/\y=.ref b/\TrT (KTp K) H3 b k/\kvs.length<sizeLine/\
 (∀v,o7 kvs k=some v->Q v H3)/\(o7 kvs k=none->Q z (upd H3 a (.dT (KTp K) (kvs++[(k,z)]))))
section
variable {X:Cx}{o e f:Expr}{apos cpos:Pos}{td ty tx:TE}
theorem Pj (hu:X.A.units+16<cLine)(ho:PE X o td)(he:PE X e ty)(hf:PE X f tx)(m:M2 X o "setdefault" apos e f cpos):PE X (.Call (.Attribute o "setdefault" apos) [e,f] [] cpos) (ZQ X.K td ty tx):=by
 intro pins s σ H Q I h
 refine wpAny_Call_method m.base m.few m.line PySem.F.plainAttrs_dict PySem.F.slot_dict_setdefault PySem.F.type_dict_setdefault (thn (ho pins s σ H _ I h) fun u s1 ⟨x,H1,I1,rx,a,ex,d,q1⟩=>?_)
 subst ex
 cases (show u=Value.ref a from rx)
 obtain ⟨t1,t2,_⟩:=WY I1 d
 refine ⟨t1,t2,?_⟩
 rw [m.trees]
 refine Calls.callWith_builtin rfl (Calls.evalArgs_plain (Calls.spliced_cons (thn (he pins s1 σ H1 _ I1 q1) fun iv s2 hE=>xq2 hE fun y H2 I2 ry q2=>
  Calls.spliced_cons (thn (hf pins s2 σ H2 _ I2 q2) fun fv s3 ⟨z,H3,I3,rz,kvs,k,b,e3,ey,eb,l,q3,q4⟩=>Calls.spliced_nil ?_))))
 subst ey
 cases (show iv=Value.ref b from ry)
 obtain ⟨sz,hd,xs,rel,dd⟩:=Oo (yV I3) I3.hok e3
 have hz:xs.length<=sizeLine:=by rw [← Paired.length rel]; exact sz
 have rv:=rel.val k
 refine Nm (rP hu) (vU I3 eb) dd hz hd (fun p hp=>?_) fun hn h' dd' hs=>?_
 ·rw [hp] at rv
  cases ev:o7 kvs k with
  |none=>rw [ev] at rv; cases rv
  |some v=>
   rw [ev] at rv
   exact ⟨v,H3,I3.tok _,rv,q3 v ev⟩
 ·rw [hn] at rv
  cases ev:o7 kvs k with
  |some v=>rw [ev] at rv; cases rv
  |none=>
   have rp:=rel.put k eb rz
   rw [Og _ ev,storedH_new hn] at rp
   obtain ⟨q,es,ep,hq,h2,h3,h4,_,h5⟩:=dd'
   refine ⟨z,upd H3 a (.dT (KTp X.K) (kvs++[(k,z)])),uW I3 (by rw [e3]; exact True.intro) hs ⟨q,hq⟩ ⟨by rw [List.length_append,List.length_singleton]; omega,hd,_,rp.keeps fun c ys ec=>?_,q,es,ep,hq,h2,h3,h4,h5⟩,rz,q4 ev⟩
   rw [cL (Qk ec e3 (fun z=>nomatch z))]
   exact ec
end
noncomputable def S7 (i:Nat)(fk fv:Me->Res D):Me->Res (Fl×Me):=fun m=>(ofO (wW m i)).bind fun o=>(fk m).bind fun k=>(fv m).bind fun d=>(ofO (rn k)).bind fun k=>
 if o.2.1.length<sizeLine then .ok (.nx,if (cA o.2.1 o.2.2 k).isSome then m else oN m i o.1 (o.2.1++[k]) (o.2.2++[d])) else .stuck
section
variable {X:Cx}{E:XK}{e ke:Expr}{f fk:Me->Res D}{pos np apos cpos:Pos}{x:Str}
theorem Va {jj:Nat}(i:Nat)(hr:ig jj X.A)(hk:FE X E ke fk)(he:FE X E e f)(hm:M2 X (.Name x np) "setdefault" apos ke e cpos)(hN:X.N[i]? = some x:=by rfl)(hv:Vis X.env.scope x:=by first | exact Or.inl rfl | exact Or.inr (Or.inl rfl) | exact Or.inr (Or.inr rfl))(hd:(x == ("__debug__" : Str))=false:=by decide)(hcd:(x == ("__classdict__" : Str))=false:=by decide)
  (hsw:swapsWith (.Call (.Attribute (.Name x np) "setdefault" apos) [ke,e] [] cpos) none pos.line X.env=pure false:=by rfl):FS X E (.Expr (.Call (.Attribute (.Name x np) "setdefault" apos) [ke,e] [] cpos) pos) (S7 i fk f):=
 cF (rF (Pj (jO hr) (iZ hN hv hd hcd) hk he hm) hsw) fun W σ H hE=>xq5 hE fun O0 M0 H0 ow m R q=>by
  obtain ⟨o,ho,q⟩:=Ss.ofO q
  obtain ⟨k,ks,ds⟩:=o
  obtain ⟨a,kvs,e1,e2,e3,e4,e5,e6⟩:=Bk R.toRel ho
  refine ⟨_,e2,a,rfl,.inr ⟨kvs,.inl e3⟩,O0,M0,H0,ow,m,R.toRel,(Ss.pu R.toRel q).imp (aK.refl _) fun dk q vk H1 g1 hvk=>?_⟩
  have R1:=R.mono g1
  refine ⟨O0,M0,H0,ow,m,R1.toRel,(Ss.pu R1.toRel (q.go (Go.refl g1))).imp (aK.refl _) fun d q v H2 g2 hv=>?_⟩
  obtain ⟨ky,h1,q⟩:=Ss.ofO q
  obtain ⟨b,rfl,hb⟩:=qp (.inl (hvk.mono g2)) h1
  have R2:=R1.mono g2
  have e3':=g2 _ _ (g1 _ _ e3)
  have e5':=(e5.mono g1).mono g2
  have uf:=Jd (k:=ky) e5'
  rw [e4] at uf
  by_cases hz:ks.length<sizeLine
  ·rw [if_pos hz] at q
   refine ⟨kvs,ky,b,e3',rfl,hb,by rw [← List.length_map (f:=(·.1)),e4]; exact hz,fun v' ev=>?_,fun ev=>?_⟩
   ·rw [ev] at uf
    rw [← uf] at q
    exact q _ _ _ R2 (Go.refl g2)
   ·rw [ev] at uf
    rw [← uf] at q
    obtain ⟨R3,g3⟩:=R2.oN (ls:=ks++[ky]) (es:=ds++[d]) (kvs:=kvs++[(ky,v)]) e1 e6 (by simp [e4]) (by rw [List.map_append]; exact jh e5' (.cons hv .nil))
    exact q _ _ _ R3 ((Go.refl g2).trans g3)
  ·rw [if_neg hz] at q; exact q.elim
end
open PySem PySem.Spec PyProof.Rows L2 Hd
noncomputable def w6 (h:Heap)(d:Addr)(es:Array DictEntry)(ep:Nat):Prop:=∃o,h.get? d=some o/\o.ExactDict/\o.data=.dict es ep
section
variable {prog:Program}{w:World}{A:Around}{E:Value->Shared->Prop}{s:Shared}{d it v:Addr}{es:Array DictEntry}{ep i:Nat}
theorem w6.ty (x:w6 s.heap d es ep):s.TypeIs (.ref d) "dict":=let ⟨o,h,c,_⟩:=x; ⟨o,h,c.1⟩
theorem w6.up {h h':Heap}(x:w6 h d es ep)(k:∀o,h.get? d=some o->h'.get? d=some o):w6 h' d es ep:=let ⟨o,e,r⟩:=x; ⟨o,k o e,r⟩
theorem MF {Q:Value->Shared->Prop}(nd:(d == sysModules)=false)(x:w6 s.heap d es ep)
  (k:Q (.ref s.heap.objs.size) { s with heap:=s.heap.push { cls:=.type "dict_values",data:=.fields #[.ref d] } }):wpAny (model prog w) A (call (.builtin "dict.values") [.ref d]) Q E s:=by
 refine wpAny_call_entry PySem.F.slot_dict_values x.ty PySem.F.entry_dict_values ?_ (PySem.F.args_dict_values_1 _)
 refine wpAny_bind ?_
 unfold Builtin.Dict.noArgs
 refine wpAny_bind (wpAny_notOrdered_dict x.ty (show wpAny _ _ (pure d) _ _ s from wpAny_pure ?_))
 show wpAny _ _ (Builtin.Dict.showsAll d >>= _) _ _ s
 unfold Builtin.Dict.showsAll
 rw [if_neg (fun z=>by rw [nd] at z; cases z)]
 exact wpAny_bind (wpAny_pure (wpAny_bind (wpAny_newObj_type (wpAny_pure ⟨_,rfl,k⟩))))
theorem XR {Q:Value->Shared->Prop}(hv:s.heap.IsValuesView v d)(x:w6 s.heap d es ep)
  (k:Q (.ref s.heap.objs.size) { s with heap:=s.heap.push { cls:=.type "dict_valueiterator",data:=.fields #[.ref d,.int 0 0,.int es.size 0,.int ep 0] } }):wpAny (model prog w) A (pyIter (.ref v)) Q E s:=by
 obtain ⟨q,hq,hc,hf⟩:=id hv
 obtain ⟨o,ho,hx,ht⟩:=id x
 have no:Builtin.Dict_items.ownsTuple "dict_valueiterator" = false:=by decide
 refine wpAny_pyIter_slot hv.typeIs PySem.F.slot_dict_values_iter (wpAny_call_entry PySem.F.slot_dict_values_iter hv.typeIs PySem.F.entry_dict_values_iter ?_ (PySem.F.args_dict_values_iter_1 _))
 unfold Builtin.«dict_values.__iter__»
 refine wpAny_bind (wpAny_pure (wpAny_bind ?_))
 unfold Builtin.Dict_items.dictOf
 refine wpAny_bind (wpAny_field hq hf (x:=.ref d) rfl (wpAny_pure (wpAny_bind ?_)))
 unfold Builtin.Dict_items.newIterator
 refine wpAny_bind (wpAny_dictEntries ho ht (wpAny_bind (wpAny_dictEpoch ho ht ?_)))
 simp only [no,Bool.false_eq_true,if_false]
 exact wpAny_newObj_type (wpAny_pure ⟨_,rfl, "dict_valueiterator",_,⟨_,Heap.get?_push_size _ rfl,rfl⟩,PySem.F.slot_dict_valueiterator_next.lookup,by simpa [rawInt] using k⟩)
theorem YB {Q:Option Value->Shared->Prop}(hit:s.heap.IsValIter it d i es.size ep)(x:w6 s.heap d es ep)
  (lt:i<es.size) (go:∀h',h'.IsValIter it d (i+1) es.size ep->Heap.SameBut it s.heap h'->Q (some es[i].val) { s with heap:=h' }):wpAny (model prog w) A (pyNext (.ref it)) Q E s:=by
 obtain ⟨q,hq,hc,hf⟩:=id hit
 obtain ⟨o,ho,hx,ht⟩:=id x
 have ty:=hit.typeIs
 have e1:es[i]? = some es[i]:=Array.getElem?_eq_getElem lt
 have no:Builtin.Dict_items.ownsTuple "dict_valueiterator" = false:=by decide
 have turned:(s.heap.update it (Obj.mapFields (·.setIfInBounds 1 (rawInt ((i:Int)+1))))).IsValIter it d (i+1) es.size ep:=
  ⟨_,Heap.get?_update_self _ hq (Obj.isFreed_of_fields (Obj.data_mapFields hf _)),(Obj.cls_mapFields ..).trans hc,by rw [Obj.data_mapFields hf]; simp [rawInt]⟩
 have fin:=go _ turned (Heap.SameBut.update ..)
 unfold pyNext
 refine wpAny_bind (wpAny_attempt (wpAny_callSpecial?_slot (name:=Str.ofString "__next__") ty PySem.F.slot_dict_valueiterator_next (wpAny_call_entry PySem.F.slot_dict_valueiterator_next ty PySem.F.entry_dict_valueiterator_next ?_ (PySem.F.args_dict_valueiterator_next_1 _))))
 refine wpAny_bind (wpAny_pure (wpAny_bind (wpAny_bind ?_)))
 first
 |refine wpAny_bind (wpAny_typeNameOfWhole_valiter ty (wpAny_pure (wpAny_bind (wpAny_fieldsOf hq hf ?_))))
 |refine wpAny_bind (wpAny_typeNameOf_valiter ty (wpAny_pure (wpAny_bind (wpAny_fieldsOf hq hf ?_))))
 simp only [no,Bool.false_eq_true,if_false]
 show wpAny _ _ (if (Value.ref d == Value.none)=true then _ else _) _ _ s
 rw [if_neg (fun z=>by cases (show false=true from z))]
 refine wpAny_bind (wpAny_pure (wpAny_bind (wpAny_dictEntries ho ht ?_)))
 rw [if_neg (by simp)]
 refine wpAny_bind (wpAny_pure (wpAny_bind (wpAny_dictEpoch ho ht ?_)))
 rw [if_neg (by simp)]
 refine wpAny_pure ?_
 simp only [show ¬((i:Int)<0) by omega,if_false,Int.toNat_natCast,e1]
 refine wpAny_bind ?_
 first
 |refine wpAny_bind (wpAny_typeNameOfWhole_valiter ty (wpAny_pure (wpAny_bind (wpAny_isOneOf_valiter ty ?_))))
 |refine wpAny_bind (wpAny_typeNameOf_valiter ty (wpAny_pure (wpAny_bind (wpAny_isOneOf_valiter ty ?_))))
 show wpAny _ _ (setField (.ref it) 1 (rawInt ((i:Int)+1)) >>= _) _ _ s
 refine wpAny_bind (wpAny_setField hq hf (by simp) (wpAny_bind (wpAny_holding ?_)))
 refine wpAny_bind (wpAny_isOneOf_valiter (s:={ s with heap:=s.heap.update it (Obj.mapFields (·.setIfInBounds 1 (rawInt ((i:Int)+1)))) }) turned.typeIs ?_)
 refine wpAny_bind (wpAny_isOneOf_valiter (s:={ s with heap:=s.heap.update it (Obj.mapFields (·.setIfInBounds 1 (rawInt ((i:Int)+1)))) }) turned.typeIs ?_)
 exact (show wpAny _ _ (pure es[i].val) _ _ _ from wpAny_pure (wpAny_pure ⟨_,rfl,wpAny_pure fin⟩))
theorem K6 {Q:Option Value->Shared->Prop}(hh:A.handled=none)(hit:s.heap.IsValIter it d es.size es.size ep)(x:w6 s.heap d es ep)
  (go:∀h',Heap.ExtBut it s.heap h'->Q none { s with heap:=h' }):wpAny (model prog w) A (pyNext (.ref it)) Q E s:=by
 obtain ⟨q,hq,hc,hf⟩:=id hit
 obtain ⟨o,ho,hx,ht⟩:=id x
 have ty:=hit.typeIs
 have e1:es[es.size]? = none:=Array.getElem?_eq_none (Nat.le_refl _)
 have no:Builtin.Dict_items.ownsTuple "dict_valueiterator" = false:=by decide
 unfold pyNext
 refine wpAny_bind (wpAny_attempt (wpAny_callSpecial?_slot (name:=Str.ofString "__next__") ty PySem.F.slot_dict_valueiterator_next (wpAny_call_entry PySem.F.slot_dict_valueiterator_next ty PySem.F.entry_dict_valueiterator_next ?_ (PySem.F.args_dict_valueiterator_next_1 _))))
 refine wpAny_bind (wpAny_pure (wpAny_bind (wpAny_bind ?_)))
 first
 |refine wpAny_bind (wpAny_typeNameOfWhole_valiter ty (wpAny_pure (wpAny_bind (wpAny_fieldsOf hq hf ?_))))
 |refine wpAny_bind (wpAny_typeNameOf_valiter ty (wpAny_pure (wpAny_bind (wpAny_fieldsOf hq hf ?_))))
 simp only [no,Bool.false_eq_true,if_false]
 show wpAny _ _ (if (Value.ref d == Value.none)=true then _ else _) _ _ s
 rw [if_neg (fun z=>by cases (show false=true from z))]
 refine wpAny_bind (wpAny_pure (wpAny_bind (wpAny_dictEntries ho ht ?_)))
 rw [if_neg (by simp)]
 refine wpAny_bind (wpAny_pure (wpAny_bind (wpAny_dictEpoch ho ht ?_)))
 rw [if_neg (by simp)]
 refine wpAny_pure ?_
 simp only [show ¬((es.size:Int)<0) by omega,if_false,Int.toNat_natCast,e1]
 refine wpAny_bind ?_
 first
 |refine wpAny_bind (wpAny_typeNameOfWhole_valiter ty (wpAny_pure ?_))
 |refine wpAny_bind (wpAny_typeNameOf_valiter ty (wpAny_pure ?_))
 show wpAny _ _ (setField (.ref it) 0 .none >>= _) _ _ s
 refine wpAny_bind (wpAny_setField hq hf (by simp) (show wpAny _ _ (newExc (.type "StopIteration") [] >>= _) _ _ _ from wpAny_bind ?_))
 simp only [newExc,newTuple]
 refine wpAny_bind (wpAny_newObj_type (wpAny_bind (m:=firstArgMember _ _) (wpAny_of_eq (a:=Value.none) (by first | rfl | (simp only [firstArgMember]; rfl)) (wpAny_newObj_type ?_ (by size_fits)))) (by size_fits))
 simp only [raiseNew]
 refine wpAny_bind (wpAny_handled ?_)
 rw [show A.in1.handled=none from hh]
 refine wpAny_bind (wpAny_pure (wpAny_throw (wpAny_bind ?_)))
 refine wpAny_isInstance (T:="StopIteration") (b:=true) ⟨_,Heap.get?_push_size _ rfl,rfl⟩ isSubtype_stop (wpAny_pure ?_)
 exact go _ (((Heap.SameBut.update ..).extBut.push _).push _)
theorem Ys (hh:A.handled=none)(ne:d≠it):Walks prog w A it [it,d] [it] es.size (fun i v=>∃e,es[i]? = some e/\v=e.val) (fun i h=>h.IsValIter it d i es.size ep/\w6 h d es ep) where
 sub:=fun b hb=>by simp at hb; simp [hb]
 frame:=fun _ _ _ st hk=>⟨let ⟨o,e,r⟩:=st.1; ⟨o,hk it (by simp) o e,r⟩,st.2.up fun o e=>hk d (by simp) o e⟩
 item:=fun i s Q E hi st go=>YB st.1 st.2 hi fun h' a b=>go _ h' s.toks ⟨_,Array.getElem?_eq_getElem hi,rfl⟩ ⟨a,st.2.up fun o e=>(b.2 d ne).trans e⟩ fun c o hc e=>(b.2 c fun z=>hc (by simp [z])).trans e
 done:=fun s Q E st go=>K6 hh st.1 st.2 fun h' a=>go h' s.toks fun c o hc e=>a c o (fun z=>hc (by simp [z])) e
 self:=fun _ _ _ _ st k=>wpAny_pyIter_valiter st.1 k
end
open PySem PySem.Spec PyProof.Rows L2 Hd
section
variable {X:Cx}
noncomputable def Bl (p a:Addr)(h:Heap):Prop:=h.IsValuesView p a
theorem QJ {pins:List (Addr×Obj)}{σ:L2.St}{H:Hp}{s:Shared}{a:Addr}{T:Addr->List V->Prop}{kvs:List (List Kt×V)}(I:Inv X pins σ H s)(e:H a=some (.dT T kvs)):
  kvs.length<=sizeLine/\(a == sysModules)=false/\∃es ep,w6 s.heap a es ep/\es.size=kvs.length/\Vals (kvs.map (·.2)) (es.toList.map (·.val)):=by
 obtain ⟨hz,hd,xs,rel,o,es,ep,ho,hx,ht,he,nd⟩:=I.hok a _ e
 refine ⟨hz,hd,es,ep,⟨o,ho,hx,ht⟩,?_,?_⟩
 ·rw [size_of_entries he,Paired.length rel]
 ·rw [he,List.map_map]
  clear he hz hd nd e
  induction rel with
  |nil=>exact .nil
  |cons h _ ih=>exact .cons h.2.2 ih
noncomputable def Xn (X:Cx):V->List V->Hp->VK->Prop:=fun x vs H Q=>∃a kvs,x=.ref a/\vs=[]/\H a=some (.dT (KTp X.K) kvs)/\∀p,H p=none->Q (.ref p) (upd H p (.ext (Bl p a)))
theorem Th:MtR X "dict.values" (Xn X):=by
 intro pins s σ H x vs v us Q I rx rv h
 obtain ⟨a,kvs,rfl,rfl,e,q⟩:=h
 cases rx
 have hus:=rv.zero
 subst hus
 obtain ⟨hz,hd,es,ep,x,_⟩:=QJ I e
 refine MF hd x ?_
 refine ⟨.ref _,_,I.laid (t':=s.toks) (fun b o e=>Heap.get?_push_of_some _ e) (Nat.le_refl _) (show dJ X.prog X.w _ _ _ (.ext (Bl s.heap.objs.size a)) from ⟨⟨_,Heap.get?_push_size _ rfl,rfl,rfl⟩,⟨_,Heap.get?_push_size _ rfl⟩,fun h1 h2 ⟨o,e,r⟩ k=>⟨o,k o e,r⟩⟩),rfl,q _ (I.hok.fresh (Nat.le_refl _))⟩
theorem Zh {r d:Addr}{es:Array DictEntry}{ep:Nat}:PySem.W.KdlSrc X.prog X.w "dict_values" r d es.size (fun i v=>∃e,es[i]? = some e/\v=e.val) (fun h=>h.IsValuesView r d/\w6 h d es ep) where
 type:=fun _ m=>m.1.typeIs
 there:=fun _ m=>⟨let ⟨_,e,_⟩:=m.1; Heap.lt_size e,let ⟨_,e,_⟩:=m.2; Heap.lt_size e⟩
 keep:=fun _ _ m k=>⟨let ⟨o,e,x⟩:=m.1; ⟨o,k r (.inl rfl) o e,x⟩,m.2.up fun o e=>k d (.inr rfl) o e⟩
 notList:=by decide
 notTuple:=by decide
 hint:=fun _ _ _ _ m q=>PySem.W.kdl_hint_values m.1.typeIs q
 iter:=fun _ _ hh m=>⟨_,_,(fun _ _ q=>XR m.1 m.2 q),Ys hh (let ⟨_,e,_⟩:=m.2; Nat.ne_of_lt (Heap.lt_size e)),⟨⟨_,Heap.get?_push_size _ rfl,rfl,rfl⟩,m.2.up fun o e=>Heap.get?_push_of_some _ e⟩⟩
noncomputable def rLV (X:Cx):List V->Hp->VK->Prop:=fun xs H Q=>∃p a kvs,xs=[.ref p]/\H p=some (.ext (Bl p a))/\H a=some (.dT (KTp X.K) kvs)/\∀l,H l=none->Q (.ref l) (upd H l (.lst (kvs.map (·.2))))
theorem Hm (hc:X.calm=true):jD X (.type "list") (rLV X):=by
 intro pins s σ H xs us Q I r h
 obtain ⟨p,a,kvs,rfl,hp,e,q⟩:=h
 obtain ⟨u,rfl,rx⟩:=vals1 r
 cases rx
 obtain ⟨hz,hd,es,ep,x,sz,rel⟩:=QJ I e
 obtain ⟨vw,_⟩:=I.hok p _ hp
 refine PySem.W.kdl_call (Zh (ep:=ep)) (I.ok.hd hc) ⟨vw,x⟩ (by omega) fun h' tk acc c kp oS it=>?_
 have ea:acc.toList=es.toList.map (·.val):=by
  obtain ⟨z,h⟩:=it
  refine List.ext_getElem (by simp [z]) fun i h1 h2=>?_
  obtain ⟨y,ey,ev⟩:=h i acc[i] (by simp at h1; simp [h1])
  obtain ⟨lt,ey⟩:=Array.getElem?_eq_some_iff.mp ey
  simp only [Array.getElem_toList,List.getElem_map]
  rw [ev,ey]
 refine ⟨.ref _,_,I.laid (t':=tk) kp (Nat.le_refl _) (show dJ X.prog X.w _ h' _ (.lst (kvs.map (·.2))) from ⟨by rw [List.length_map]; exact hz,es.toList.map (·.val),c,rel,?_⟩),rfl,q _ (I.hok.fresh (Nat.le_refl _))⟩
 rw [← ea]
 simpa using oS
end
noncomputable def Hk (fo:Me->Res D):Me->Res D:=fun m=>(fo m).bind fun d=>match d with
 | .dcu _ ds=>.ok (.lst ds)
 |_=>.stuck
section
variable {X:Cx}{E:XK}{o:Expr}{fo:Me->Res D}{p pos apos cpos:Pos}
theorem MT (hc:X.calm=true)(hg:Gl X "list")(hm:X.mg "list" = none)(ho:FB X E o fo)(hbase:attributeBase o "values" X.env (eval o X.env)=eval o X.env:=by rfl)(hline:(apos.endLine == cpos.line)=true:=by rfl)
  (hs:starEach [.Call (.Attribute o "values" apos) [] [] cpos] X.env=(false,eval (.Call (.Attribute o "values" apos) [] [] cpos) X.env)::starEach [] X.env:=by rfl):
  FN X E (.Call (.Name "list" p) [.Call (.Attribute o "values" apos) [] [] cpos] [] pos) (Hk fo):=
 bx (vG (Hm hc) hg hm rQ (jY (Dl PySem.F.plainAttrs_dict PySem.F.slot_dict_values PySem.F.type_dict_values Th ho hbase hline) qQ hs) (by decide) (by decide) hs rfl) fun σ H Q h=>by
  obtain ⟨O0,M0,H0,ow,m,R,q⟩:=h
  refine ⟨O0,M0,H0,ow,m,R,q.bind.imp (aK.refl _) fun d q v H1 g1 hv=>?_⟩
  cases d with
  |dcu ks ds=>
   obtain ⟨a,kvs,rfl,e,e1,hd⟩:∃a kvs,v=.ref a/\H1 a=some (.dT (KTp X.K) kvs)/\kvs.map (·.1)=ks/\DVs (gx X) (Ow O0 ow) H1 (kvs.map (·.2)) ds:=by
    rcases hv with hv | ⟨a,rfl,_,hv⟩
    ·cases hv with
     |dcu n e a b hs=>subst b; exact ⟨_,_,rfl,e,a,hs⟩
    ·obtain ⟨kvs,vs,e,a1,b1,hs⟩:=hv
     subst b1
     exact ⟨a,kvs,rfl,e,a1,hs⟩
   refine ⟨.inr (.inr (.inl ⟨rfl,.inr ⟨_,kvs,.inl e⟩⟩)),a,kvs,rfl,rfl,e,fun b hb=>?_⟩
   have ne:a≠b:=fun z=>by rw [z,hb] at e; cases e
   refine ⟨b,a,kvs,rfl,aZ,by rw [cL ne]; exact e,fun l hl=>?_⟩
   have nb:l≠b:=fun z=>by rw [z,aZ] at hl; cases hl
   have hl1:H1 l=none:=by rw [cL nb] at hl; exact hl
   have gg:aK H1 (upd (upd H1 b (.ext (Bl b a))) l (.lst (kvs.map (·.2)))):=(bJ hb _).trans (bJ hl _)
   exact q l _ (g1.trans gg) (g1.free hl1) ⟨_,aZ,(hd.bT fun c z=>z.elim .inl fun e=>.inr (by rw [e]; exact hl1)).mono gg⟩
  |_=>exact q.elim
end
open PySem PySem.Spec PyProof.Rows L2 Hd
noncomputable def Wf (K:W.Frag)(tk tv:TE):TE:=fun σ H Q=>∀p,H p=none->tk σ (upd H p (.dT (KTp K) [])) fun x H1=>tv σ H1 fun y H2=>
 H2 p=some (.dT (KTp K) [])/\∃ks b,x=.ref b/\TrT (KTp K) H2 b ks/\Q (.ref p) (upd H2 p (.dT (KTp K) [(ks,y)]))
section
variable {X:Cx}{k v:Expr}{pos:Pos}{tk tv:TE}
theorem O6 (hu:X.A.units+16<cLine)(hk:PE X k tk)(hv:PE X v tv):PE X (.Dict [some k] [v] pos) (Wf X.K tk tv):=by
 intro pins s σ H Q I q
 have hn:=I.hok.fresh (Nat.le_refl s.heap.objs.size)
 have I1:=I.laid (a:=s.heap.objs.size) (o:=.dT (KTp X.K) []) (h':=s.heap.push { cls:=.type "dict",data:=.dict #[] }) (t':=s.toks) (fun _ _ q=>Heap.get?_push_of_some _ q) (Nat.le_refl _) (Fz s.heap I.big)
 have pl:(pairTrees [some k] [v] X.env pos).length=1:=pairTrees_length [some k] [v] X.env pos rfl rfl
 rw [arm_eval_Dict,zip_pairTrees [some k] [v] X.env pos rfl rfl,dictDisplay_pairs _ (fun z=>by rw [z] at pl; cases pl) (by rw [pl]; decide)]
 refine wpAny_bind (wpAny_standAt (wpAny_bind ?_))
 unfold subDict
 refine wpAny_bind (wpAny_alloc (wpAny_bind (wpAny_holding ?_)))
 rw [if_pos (by rw [pl]; decide)]
 refine wpAny_bind (pairTrees_cons_walk (thn (hk pins _ σ _ _ I1 (q _ hn)) fun u s1 ⟨x,H1,J1,rx,q1⟩=>thn (hv pins s1 σ H1 _ J1 q1) fun r s2 ⟨y,H2,I2,ry,e,ks,b,ex,eb,q2⟩=>pairTrees_nil_walk (wpAny_holding ?_)))
 subst ex
 cases (show u=Value.ref b from rx)
 obtain ⟨z,hd,xs,rel,dd⟩:=Oo (yV I2) I2.hok e
 cases rel
 rw [List.forIn_cons]
 refine wpAny_bind (wpAny_bind ?_)
 show wpAny _ _ (dictSet s.heap.objs.size (.ref b) r >>= _) _ _ s2
 refine (wpAny_bind (wpAny_dictSet_heap (hsz:=Nat.zero_le _) (show X.A.units+8<cLine by omega) (vU I2 eb) dd fun h' dd' hs=>wpAny_pure ?_))
 dsimp only
 rw [List.forIn_nil]
 refine wpAny_pure (wpAny_pure (wpAny_pure (wpAny_pure ?_)))
 obtain ⟨qo,es,ep,hq,h2,h3,h4,_,h5⟩:=dd'
 refine ⟨.ref s.heap.objs.size,upd H2 s.heap.objs.size (.dT (KTp X.K) [(ks,y)]),uW I2 (by rw [e]; exact True.intro) hs ⟨qo,hq⟩ ⟨by show 1<=_; decide,hd,_,?_,qo,es,ep,hq,h2,h3,h4,h5⟩,rfl,q2⟩
 refine KT.keeps (H:=H2) (Paired.cons ⟨rfl,eb,ry⟩ .nil) fun c ys ec=>?_
 rw [cL (Qk ec e (fun z=>nomatch z))]
 exact ec
end
noncomputable def Hh (fk fv:Me->Res D):Me->Res D:=fun m=>(fk m).bind fun k=>(fv m).bind fun d=>(ofO (rn k)).bind fun ks=>.ok (.dcu [ks] [d])
section
variable {X:Cx}{E:XK}{k v:Expr}{pos:Pos}{fk fv:Me->Res D}
theorem O7 {j:Nat}(hr:ig j X.A)(hk:FE X E k fk)(hv:FE X E v fv):FN X E (.Dict [some k] [v] pos) (Hh fk fv):=
 bx (O6 (jO hr) hk hv) fun σ H Q ⟨O0,M0,H0,ow,m,R,q⟩ p hp=>by
  have g0:aK H (upd H p (.dT (KTp X.K) [])):=bJ hp _
  have R1:=R.more g0 hp (by rw [aZ]; exact .inr (.inr ⟨(KTp X.K,[]),rfl⟩))
  refine ⟨Op O0 p,M0,H0,ow,m,R1,q.bind.imp g0 fun kd q x H1 g1 hx=>⟨Op O0 p,M0,H0,ow,m,R1.mono g1,q.bind.imp (g0.trans g1) fun d q y H2 g2 hy=>?_⟩⟩
  obtain ⟨ks,h1,q⟩:=q.bind.ofO
  obtain ⟨b,rfl,hb⟩:=qp (.inl (hx.mono g2)) h1
  have e2:H2 p=some (.dT (KTp X.K) []):=g2 _ _ (g1 _ _ aZ)
  have R2:=(R1.mono g1).mono g2
  have kp:Kp (Ow (Op O0 p) ow) H2 (upd H2 p (.dT (KTp X.K) [(ks,y)])):=fun c o e n=>by rw [cL (fun z=>n (.inl (.inr z)))]; exact e
  refine ⟨e2,ks,b,rfl,hb,q p _ (fun c o e=>?_) hp ⟨_,_,aZ,rfl,rfl,.cons ((hy.kp R2.mutk kp).bT fun c z=>.inl ?_) .nil⟩⟩
  ·rw [cL (fun z=>by rw [z,hp] at e; cases e)]
   exact g2 _ _ (g1 _ _ (g0 _ _ e))
  ·rcases z with (z | z) | z
   ·exact .inl (.inl z)
   ·exact .inr z
   ·exact .inl (.inr z)
end
noncomputable def Dh:List ((Me->Res D)×(Me->Res D))->Me->Res (List (D×D))
 |[],_=>.ok []
 |f::r,m=>(f.1 m).bind fun k=>(f.2 m).bind fun d=>(Dh r m).bind fun l=>.ok ((k,d)::l)
inductive DPs (G:Gx)(O:Addr->Prop)(H:Hp):List (V×V)->List (D×D)->Prop where
 |nil:DPs G O H [] []
 |cons {x y:V} {k d:D} {ps:List (V×V)} {l:List (D×D)}:DV G O H x k->DV G O H y d->DPs G O H ps l->DPs G O H ((x,y)::ps) ((k,d)::l)
theorem DPs.mono {G:Gx}{O:Addr->Prop}{H H':Hp}(g:aK H H'):∀{ps:List (V×V)} {l:List (D×D)},DPs G O H ps l->DPs G O H' ps l
 |_,_,.nil=>.nil
 |_,_,.cons a b r=>.cons (a.mono g) (b.mono g) (r.mono g)
noncomputable def Ea:List Key->List D->List (D×D)->Option (List Key×List D)
 |ks,ds,[]=>some (ks,ds)
 |ks,ds,p::r=>(sG p.1).bind fun k=>Ea (putD ks ds k p.2).1 (putD ks ds k p.2).2 r
noncomputable abbrev Mx (X:Cx)(E:XK)(fs:List ((Me->Res D)×(Me->Res D))):List (TE×TE):=fs.map fun f=>(tE (gx X) E f.1,tE (gx X) E f.2)
section
variable {X:Cx}{E:XK}
theorem Pq {G:Gx}{O:Addr->Prop}{H:Hp}:∀{l:List (D×D)} {ps:List (V×V)} {ks rk:List Key} {ds rd:List D} {acc:List (Key×V)},DPs G O H ps l->Ea ks ds l=some (rk,rd)->acc.map (·.1)=ks->DVs G O H (acc.map (·.2)) ds->
  ∃kvs:List (Key×V),ps=kvs.map (fun kv=>(kV kv.1,kv.2))/\(mW acc kvs).map (·.1)=rk/\DVs G O H ((mW acc kvs).map (·.2)) rd
 |_,_,ks,rk,ds,rd,acc,.nil,e,e1,e2=>by cases e; exact ⟨[],rfl,e1,e2⟩
 |_,_,ks,rk,ds,rd,acc,.cons (x:=x) (y:=y) a b r,e,e1,e2=>by
  obtain ⟨k,hk,e⟩:=Option.bind_eq_some_iff.mp e
  have ex:=Hf (.inl a) hk
  obtain ⟨p1,p2⟩:=JK (k:=k) b e2
  rw [e1] at p1 p2
  obtain ⟨kvs,q1,q2,q3⟩:=Pq (acc:=putK acc k y) r e p1 p2
  exact ⟨(k,y)::kvs,by rw [List.map_cons,← q1,ex],q2,q3⟩
theorem DPs.bT {G:Gx}{O O':Addr->Prop}{H:Hp}(s:∀b,O' b->O b\/H b=none):∀{ps:List (V×V)} {l:List (D×D)},DPs G O H ps l->DPs G O' H ps l
 |_,_,.nil=>.nil
 |_,_,.cons a b r=>.cons (a.bT s) (b.bT s) (r.bT s)
theorem DPs.len {G:Gx}{O:Addr->Prop}{H:Hp}:∀{ps:List (V×V)} {l:List (D×D)},DPs G O H ps l->ps.length=l.length
 |_,_,.nil=>rfl
 |_,_,.cons _ _ r=>by rw [List.length_cons,List.length_cons,r.len]
end
open PySem PySem.Spec PyProof.Rows L2 Hd
section
variable {pr:Program}{wo:World}{A:Around}{E:Value->Shared->Prop}{s:Shared}
end
section
variable {pr:Program}{wo:World}{κ:Type}[DecidableEq κ]{kn:KeyKind pr wo κ}{A:Around}{R:Result->Shared->Prop}{I:Addr}{fp wr:List Addr}{G:Array GenState->Array GenState->Prop}{n:Nat}{P:Nat->Value->Prop}{St:Nat->Shared->Prop}
end
section
variable {pr:Program}{wo:World}{κ:Type}[DecidableEq κ]{kn:KeyKind pr wo κ}{A:Around}{E:Value->Shared->Prop}{s:Shared}
end
open PySem PySem.Spec PyProof.Rows L2 Hd
section
variable {X:Cx}{pins:List (Addr×Obj)}{σ:L2.St}{H:Hp}{s:Shared}
end
open PySem PySem.Spec PyProof.Rows L2 Hd
section
variable {X:Cx}{pins:List (Addr×Obj)}{σ:L2.St}{H:Hp}{s:Shared}
end
open PySem PySem.Spec PyProof.Rows L2 Hd
section
variable {prog:Program}{w:World}{A:Around}{E:Value->Shared->Prop}{s:Shared}{d it v:Addr}{es:Array DictEntry}{ep i:Nat}
end
open PySem PySem.Spec PyProof.Rows L2 Hd
section
variable {prog:Program}{w:World}{A:Around}{E:Value->Shared->Prop}{s:Shared}{d it v:Addr}{es:Array DictEntry}{ep i:Nat}
end
section
variable {X:Cx}
end
section
variable {X:Cx}{E:XK}{o:Expr}{fo:Me->Res D}{p pos apos cpos:Pos}
end
section
variable {X:Cx}{tg:Expr}
end
open PySem PySem.Spec PyProof.Rows L2 Hd
noncomputable def Bp (m:Me)(i:Nat):Option (Bool×D):=match m[i]? with
 |some (.ow d)=>some (true,d)
 |some (.io d)=>some (false,d)
 |_=>none
noncomputable def xn (m:Me)(i:Nat)(k:Bool)(d:D):Me:=m.set i (if k then .ow d else .io d)
section
variable {G:Gx}{O0 M0:Addr->Prop}{H0:Hp}{ow:Os}{σ:L2.St}{H:Hp}{m:Me}
theorem RG (R:Rel G O0 M0 H0 ow σ H m){i:Nat}{k:Bool}{d:D}(e:Bp m i=some (k,d)):∃a,ow i=some a/\σ[i]? = some (some (.ref a))/\OV G (Ow O0 ow) H a d/\((m[i]? = some (.ow d)/\k=true)\/(m[i]? = some (.io d)/\k=false)):=by
 unfold Bp at e
 split at e
 ·rename_i q
  cases e
  obtain ⟨a,e1,e2,e3,e4⟩:=R.slot i _ q
  exact ⟨a,e1,e3,e4,.inl ⟨q,rfl⟩⟩
 ·rename_i q
  cases e
  obtain ⟨a,e1,e2,e3,e4⟩:=R.slot i _ q
  exact ⟨a,e1,e3,e4,.inr ⟨q,rfl⟩⟩
 ·cases e
end
noncomputable def j9 {α:Type}(p:Nat)(x:α)(l:List α):List α:=l.take p++x::l.drop p
theorem yl {α:Type}{p:Nat}{x:α}{l:List α}:(j9 p x l).length=l.length+1:=by
 simp [j9]; omega
theorem JF {α:Type}{p:Nat}{x:α}{l:List α}(h:p<=l.length):(j9 p x l)[p]? = some x:=by
 unfold j9
 rw [List.getElem?_append_right (by simp; omega)]
 simp [Nat.min_eq_left h]
theorem Kv {α:Type}{p i:Nat}{x:α}{l:List α}(h:i<p)(hp:p<=l.length):(j9 p x l)[i]? = l[i]?:=by
 unfold j9
 rw [List.getElem?_append_left (by simp; omega),List.getElem?_take_of_lt h]
theorem Ku {α:Type}{p i:Nat}{x:α}{l:List α}(h:p<=i)(hp:p<=l.length):(j9 p x l)[i+1]? = l[i]?:=by
 unfold j9
 rw [List.getElem?_append_right (by simp; omega)]
 have:i+1 - (l.take p).length=(i - p)+1:=by simp [Nat.min_eq_left hp]; omega
 rw [this,List.getElem?_cons_succ,List.getElem?_drop]
 congr 1
 omega
noncomputable def pL (m:Me)(p:Nat):Option D:=match m[p]? with
 |some (.io d)=>some d
 |_=>none
theorem Ov {m:Me}{p:Nat}{d:D}(h:pL m p=some d):m[p]? = some (.io d):=by
 unfold pL at h
 split at h
 ·rename_i q; cases h; exact q
 ·cases h
section
variable {P:Program}{w:World}{K:W.Frag}{mg:Str->Option Value}{base:Heap}
end
noncomputable def tAH (G:Gx)(E:XK)(i p:Nat)(f:Me->Res (List D)):TA:=fun σ H Q=>∃O0 M0 H0 ow m a,Rel G O0 M0 H0 ow σ H m/\σ[i]? = some (some (.ref a))/\Pu G E (f m) H fun ds=>p<=ds.length/\∀us H',aK H H'->DVs G (Ow O0 ow) H' us ds->Q (j9 p (.ref a) us) H'
noncomputable abbrev FAH (X:Cx)(E:XK)(es:List Expr)(i p:Nat)(f:Me->Res (List D)):Prop:=PA X es (tAH (gx X) E i p f)
section
variable {X:Cx}{E:XK}{e:Expr}{es:List Expr}{fa:Me->Res D}{fs:Me->Res (List D)}{i p:Nat}{y:Str}{np:Pos}
theorem rA (ha:FAE X E es fs)(hN:X.N[i]? = some y:=by rfl)(hv:Vis X.env.scope y:=by first | exact Or.inl rfl | exact Or.inr (Or.inl rfl) | exact Or.inr (Or.inr rfl))(hd:(y == ("__debug__" : Str))=false:=by decide)(hcd:(y == ("__classdict__" : Str))=false:=by decide)
  (he:starEach (.Name y np::es) X.env=(false,eval (.Name y np) X.env)::starEach es X.env:=by rfl):FAH X E (.Name y np::es) i 0 fs:=
 oM (jY (iZ hN hv hd hcd) ha he) fun σ H Q ⟨O0,M0,H0,ow,m,a,R,ea,q⟩=>
  ⟨_,ea,O0,M0,H0,ow,m,R,q.imp (aK.refl _) fun ds q vs H' g hv=>q.2 vs H' g hv⟩
theorem uT (ha:FE X E e fa)(hr:FAH X E es i p fs)(he:starEach (e::es) X.env=(false,eval e X.env)::starEach es X.env:=by rfl):FAH X E (e::es) i (p+1) (aj fa fs):=
 oM (jY ha hr he) fun σ H Q ⟨O0,M0,H0,ow,m,a,R,ea,q⟩=>⟨O0,M0,H0,ow,m,R,q.bind.imp (aK.refl _) fun d q v H1 g1 hv=>
  ⟨O0,M0,H0,ow,m,a,R.mono g1,ea,q.bind.imp g1 fun ds q=>⟨by have:=q.1; simpa using this,fun us H2 g2 hus=>q.2 _ H2 (g1.trans g2) (.cons (hv.mono g2) hus)⟩⟩⟩
end
theorem Xs.at {G:Gx}{E:XK}{O0 M0:Addr->Prop}{H0 H H1:Hp}{ow:Os}{σ:L2.St}{α:Type}{r:Res (α×Me)}{k:α->Hp->Prop}(h:Xs G E O0 M0 H0 ow σ H r k)(g:aK H H1):Xs G E O0 M0 H0 ow σ H1 r k:=h.imp (Go.refl g) fun _ _ _ _ _ _ q=>q
open PySem PySem.Spec PyProof.Rows L2 Hd
noncomputable def V5 (i j:Nat)(fs:Me->Res (List D)):Me->Res (Fl×Me):=fun m=>(fs m).bind fun ds=>match ds with
 |[d,e]=>.ok (.nx,(m.set i (.fz d)).set j (.fz e))
 |_=>.stuck
theorem Vq {X:Cx}{E:XK}{i j:Nat}{x y:Str}{a b:Expr}{fs:Me->Res (List D)}{px py pt pos:Pos}{kt k2 pt2}(hc:X.calm=true)(hN:X.N.Nodup)(hi:X.N[i]? = some x)(hj:X.N[j]? = some y)(hij:i≠j)
  (hx:X.env.scope.names.lookup x=some .local) (hy:X.env.scope.names.lookup y=some .local) (ha:FAE X E [a,b] fs)
  (hw:swappedStores [.Tuple [.Name x px,.Name y py] kt pt] (.Tuple [a,b] k2 pt2) X.env=pure (some [x,y]):=by rfl)
  (hs:swapsWithSole [.Tuple [.Name x px,.Name y py] kt pt] (.Tuple [a,b] k2 pt2) pos.line X.env=pure false:=by rfl):
  FS X E (.Assign [.Tuple [.Name x px,.Name y py] kt pt] (.Tuple [a,b] k2 pt2) pos) (V5 i j fs):=
 cF (Vd hc hN hi hj hij hx hy ha hw hs) fun W σ H hE=>xq5 hE fun O0 M0 H0 ow m R q=>⟨O0,M0,H0,ow,m,R.toRel,(Ss.pu R.toRel q).imp (aK.refl _) fun ds q vs H' g hv=>by
  match ds,vs,hv,q with
  |[d,e],_,.cons (v:=v1) h1 (.cons (v:=v2) h2 .nil),q=>
   refine ⟨v1,v2,rfl,?_⟩
   have R1:=(R.mono g).set (i:=i) h1
   have R2:=R1.set (i:=j) (h2.bT fun b z=>.inl z.sub)
   exact q _ _ _ R2 (((Go.refl g).trans Go.set).trans Go.set)⟩
open PySem PySem.Spec PyProof.Rows L2 Hd
section
variable {G:Gx}{O0 M0:Addr->Prop}{H0 H H':Hp}{ow:Os}{σ:L2.St}{m m':Me}
theorem cV.many {ch:Nat->Prop}(R:cV G O0 M0 H0 ow σ H m)(hl:m'.length=m.length)(old:∀i,¬ch i->m'[i]? = m[i]?)(g:Kp (fun b=>∃i,ch i/\ow i=some b) H H')
  (new:∀i s,ch i->m'[i]? = some s->FQ G (Ow O0 ow) M0 H0 (ow i) (σ[i]?) H' s/\∀d,s≠.bw d) (mu:∀i b,ch i->ow i=some b->fO (H' b)/\(H0 b=none\/M0 b)):cV G O0 M0 H0 ow σ H' m'/\Go O0 ow H ow H':=by
 have mn:∀b,fO (H' b)->H' b≠none:=fun b z w=>by rw [w] at z; rcases z with ⟨_,e⟩ | ⟨_,e⟩ | ⟨_,e⟩ <;> cases e
 have kp:Kp (Ow O0 ow) H H':=fun b u e n=>g b u e fun ⟨i,_,z⟩=>n (.inr ⟨i,z⟩)
 have dom:∀b,H b≠none->H' b≠none:=fun b n=>by
  by_cases q:∃i,ch i/\ow i=some b
  ·obtain ⟨i,c,e⟩:=q; exact mn b (mu i b c e).1
  ·cases w:H b with
   |none=>exact absurd w n
   |some o=>rw [g b o w q]; simp
 refine ⟨⟨⟨by rw [hl]; exact R.len,fun b u e n=>?_,fun b z=>dom b (R.m0 b z),fun b z=>?_,R.no0,R.inj,fun j hj=>R.out j (by omega),fun j s e=>?_⟩,fun j d e=>?_⟩,kp,fun j b e=>.inl (.inr ⟨j,e⟩),dom⟩
 ·refine g b u (R.keep b u e n) fun ⟨i,c,z⟩=>?_
  rcases (mu i b c z).2 with w | w
  ·rw [w] at e; cases e
  ·exact n w
 ·by_cases q:∃i,ch i/\ow i=some b
  ·obtain ⟨i,c,e⟩:=q; exact (mu i b c e).1
  ·have:=R.mutk b z
   rcases this with ⟨_,e⟩ | ⟨_,e⟩ | ⟨_,e⟩
   ·exact .inl ⟨_,g b _ e q⟩
   ·exact .inr (.inl ⟨_,g b _ e q⟩)
   ·exact .inr (.inr ⟨_,g b _ e q⟩)
 ·by_cases c:ch j
  ·exact (new j s c e).1
  ·rw [old j c] at e
   have z:=R.slot j s e
   have other:∀{b:Addr} {d:D},ow j=some b->OV G (Ow O0 ow) H b d->OV G (Ow O0 ow) H' b d:=fun {b d} e1 h1=>by
    have nb:¬ ∃i,ch i/\ow i=some b:=fun ⟨i,ci,ei⟩=>c (R.inj j i b e1 ei ▸ ci)
    rcases h1.mut with ⟨_,e⟩ | ⟨_,e⟩ | ⟨_,e⟩ <;> exact h1.kp R.mutk kp (by rw [e]; exact g b _ e nb)
   cases s with
   |un=>exact z
   |fz d=>obtain ⟨b,x,e,q⟩:=z; exact ⟨b,x,e,q.kp R.mutk kp⟩
   |ow d=>obtain ⟨b,x,e,f,q'⟩:=z; exact ⟨b,x,e,f,other x q'⟩
   |io d=>obtain ⟨b,x,e,f,q'⟩:=z; exact ⟨b,x,e,f,other x q'⟩
   |bw d=>exact (R.nb j d e).elim
   |hd w b d=>obtain ⟨x,e,f,q'⟩:=z; exact ⟨x,e,f,other x q'⟩
 ·by_cases c:ch j
  ·exact (new j _ c e).2 d rfl
  ·rw [old j c] at e; exact R.nb j d e
end
noncomputable def Fd (j:Nat)(f:Me->Res D):Me->Res D:=fun m=>(f m).bind fun d=>match d,m[j]? with
 | .adr a,some (.hd _ b d')=>if a=b then .ok d' else .stuck
 |_,_=>.stuck
section
variable {X:Cx}{E:XK}{e b ke:Expr}{f fb fk:Me->Res D}{pos spos:Pos}
theorem Wa {m:Me}{j:Nat}{d r:D}(h:(match d,m[j]? with | .adr a,some (.hd _ b d')=>if a=b then Res.ok d' else .stuck | _,_=>.stuck)=.ok r):∃w a,d=.adr a/\m[j]? = some (.hd w a r):=by
 cases d with
 |adr a=>
  cases q:m[j]? with
  |none=>rw [q] at h; cases h
  |some s=>
   cases s with
   |hd w b d'=>
    rw [q] at h
    by_cases z:a=b
    ·have h:(if a=b then Res.ok d' else .stuck)=.ok r:=h
     rw [if_pos z] at h
     cases h
     exact ⟨w,a,rfl,by rw [z]⟩
    ·have h:(if a=b then Res.ok d' else .stuck)=.ok r:=h
     rw [if_neg z] at h
     cases h
   |_=>rw [q] at h; cases h
 |_=>cases h
theorem Mf {m:Me}{j:Nat}{d:D}{c:Str}:(match d,m[j]? with | .adr a,some (.hd _ b d')=>if a=b then Res.ok d' else .stuck | _,_=>.stuck)≠.exc c:=fun h=>by
 cases d with
 |adr a=>
  cases q:m[j]? with
  |none=>rw [q] at h; cases h
  |some s=>
   cases s with
   |hd w b d'=>
    rw [q] at h
    have h:(if a=b then Res.ok d' else .stuck)=.exc c:=h
    split at h <;> cases h
   |_=>rw [q] at h; cases h
 |_=>cases h
theorem BR (j:Nat)(h:FE X E e f):FB X E e (Fd j f):=bx h fun σ H Q hE=>xq5 hE fun O0 M0 H0 ow m R q=>⟨O0,M0,H0,ow,m,R,q.bind.imp (aK.refl _) fun d q v H' g hv=>by
 cases z:(match d,m[j]? with | .adr a,some (.hd _ b d')=>if a=b then Res.ok d' else .stuck | _,_=>.stuck) with
 |ok r=>
  rw [z] at q
  obtain ⟨w,a,rfl,e⟩:=Wa z
  cases hv
  obtain ⟨x1,x2,x3,x4⟩:=(R.mono g).slot j _ e
  exact q _ H' g (.inr ⟨a,rfl,.inr ⟨j,x1⟩,x4⟩)
 |exc c=>exact (Mf z).elim
 |stuck=>rw [z] at q; exact q.elim⟩
noncomputable def vf (m:Me)(j:Nat):Option (Bool×Addr×D):=match m[j]? with
 |some (.hd w a d)=>some (w,a,d)
 |_=>none
theorem xJ {m:Me}{j:Nat}{w:Bool}{a:Addr}{d:D}(h:vf m j=some (w,a,d)):m[j]? = some (.hd w a d):=by
 unfold vf at h
 split at h
 ·rename_i q; cases h; exact q
 ·cases h
theorem cV.X4 {G:Gx}{O0 M0:Addr->Prop}{H0 H:Hp}{ow:Os}{σ:L2.St}{m:Me}{j:Nat}{w:Bool}{a:Addr}{d d':D}{o:HO}(R:cV G O0 M0 H0 ow σ H m)(e:m[j]? = some (.hd w a d))(hm:fO (some o))
  (h:Kp (Ow O0 ow) H (L2.upd H a o)->OV G (Ow O0 ow) (L2.upd H a o) a d'):cV G O0 M0 H0 ow σ (L2.upd H a o) (m.set j (.hd w a d'))/\Go O0 ow H ow (L2.upd H a o):=by
 obtain ⟨x1,x2,x3,x4⟩:=R.slot j _ e
 have kp:Kp (Ow O0 ow) H (L2.upd H a o):=fun b u eb n=>nT b u eb fun z=>n (z ▸ .inr ⟨j,x1⟩)
 refine R.many (ch:=(· = j)) (by simp) (fun i n=>List.getElem?_set_ne (Ne.symm n)) (fun b u eb n=>nT b u eb fun z=>n ⟨j,rfl,by rw [x1,z]⟩) (fun i s c es=>?_) (fun i b c eb=>?_)
 ·subst c
  rw [List.getElem?_set_self (qO e)] at es
  cases es
  exact ⟨⟨x1,x2,x3,h kp⟩,fun d z=>by cases z⟩
 ·subst c
  rw [x1] at eb
  cases eb
  refine ⟨by rw [L2.aZ]; exact hm,?_⟩
  cases w with
  |true=>exact .inl (x2 rfl)
  |false=>exact .inr (x3 rfl)
noncomputable def uL (j:Nat)(fb fk fv:Me->Res D):Me->Res (Fl×Me):=fun m=>(fv m).bind fun d=>(fb m).bind fun c=>(ofO (vf m j)).bind fun o=>(fk m).bind fun k=>(ofO (rn k)).bind fun k=>match c,o.2.2 with
 | .adr a,.dcu ks ds=>if a=o.2.1/\ks.length<sizeLine then .ok (.nx,m.set j (.hd o.1 a (.dcu (jt ks ds k d).1 (jt ks ds k d).2))) else .stuck
 |_,_=>.stuck
theorem Gi {jj:Nat}(j:Nat)(hr:ig jj X.A)(he:FE X E e f)(hb:FE X E b fb)(hk:FE X E ke fk)
  (hs:swapsWith e (some (.Subscript b ke spos)) pos.line X.env=pure false:=by rfl):FS X E (.Assign [.Subscript b ke spos] e pos) (uL j fb fk f):=
 cF (Bq (jO hr) hb hk he hs) fun W σ H hE=>xq5 hE fun O0 M0 H0 ow m R q=>
  ⟨O0,M0,H0,ow,m,R.toRel,(Ss.pu R.toRel q).imp (aK.refl _) fun d q v H1 g1 hv=>by
   have R1:=R.mono g1
   refine ⟨O0,M0,H0,ow,m,R1.toRel,(Ss.pu R1.toRel (q.go (Go.refl g1))).imp (aK.refl _) fun c q vc H2 g2 hc=>?_⟩
   have R2:=R1.mono g2
   obtain ⟨o,ho,q⟩:=Ss.ofO q
   obtain ⟨w,a,dd⟩:=o
   have ho:=xJ ho
   refine ⟨O0,M0,H0,ow,m,R2.toRel,(Ss.pu R2.toRel (q.go (Go.refl g2))).imp (aK.refl _) fun dk q vk H3 g3 hvk=>?_⟩
   obtain ⟨ky,h1,q⟩:=Ss.ofO q
   obtain ⟨b,rfl,hb⟩:=qp (.inl hvk) h1
   have R3:=R2.mono g3
   cases c with
   |adr a'=>
    cases hc
    cases dd with
    |dcu ks ds=>
     by_cases hz:a'=a/\ks.length<sizeLine
     ·have q':Ss (gx X) E O0 M0 H0 ow H2 W (if a'=a/\ks.length<sizeLine then .ok (.nx,m.set j (.hd w a' (.dcu (jt ks ds ky d).1 (jt ks ds ky d).2))) else .stuck):=q
      rw [if_pos hz] at q'
      clear q
      obtain ⟨rfl,hz⟩:=hz
      obtain ⟨x1,x2,x3,kvs,vs,e4,e5,rfl,e6⟩:=R3.slot j _ ho
      obtain ⟨p1,p2⟩:=Jy (k:=ky) (hv.mono (g2.trans g3)) e6
      rw [e5] at p1 p2
      obtain ⟨R4,g4⟩:=R3.X4 (o:=.dT (KTp X.K) (putK kvs ky v)) (d':=.dcu (jt ks ds ky d).1 (jt ks ds ky d).2) ho (.inr (.inr ⟨(_,_),rfl⟩)) (fun kp=>⟨_,_,L2.aZ,p1,rfl,p2.kp R3.mutk kp⟩)
      exact ⟨a',_,rfl,Bu.t e4 hb (by rw [← List.length_map (f:=(·.1)),e5]; exact hz),q' _ _ _ R4 ((Go.refl g3).trans g4)⟩
     ·have q:Ss (gx X) E O0 M0 H0 ow H2 W (if a'=a/\ks.length<sizeLine then .ok (.nx,m.set j (.hd w a' (.dcu (jt ks ds ky d).1 (jt ks ds ky d).2))) else .stuck):=q
      rw [if_neg hz] at q; exact q.elim
    |_=>exact q.elim
   |_=>exact q.elim⟩
noncomputable def rJ (j:Nat)(fb fk fv:Me->Res D):Me->Res (Fl×Me):=fun m=>(fv m).bind fun d=>(fb m).bind fun c=>(ofO (vf m j)).bind fun o=>(fk m).bind fun k=>match c,o.2.2,k with
 | .adr a,.lst ds,.int n=>if a=o.2.1 then (ofO (ixN ds.length n)).bind fun i=>.ok (.nx,m.set j (.hd o.1 a (.lst (ds.set i d)))) else .stuck
 |_,_,_=>.stuck
theorem Ex (j:Nat)(he:FE X E e f)(hb:FE X E b fb)(hk:FE X E ke fk)
  (ha:∀v,assign (.Subscript b ke spos) X.env v=(do
   let ov ← holding [v] (eval b X.env)
   let iv ← holding [v,ov] (eval ke X.env)
   standAt spos
   holding [v,ov,iv] (setItem ov iv v)
   release [v,ov,iv] []):=by intro _; rfl)
  (hs:swapsWithSole [.Subscript b ke spos] e pos.line X.env=pure false:=by rfl) (hw:swappedStores [.Subscript b ke spos] e X.env=pure none:=by rfl)
  (h1:(assignEach [.Subscript b ke spos] X.env).map (·.2)=[assign (.Subscript b ke spos) X.env]:=by rfl):FS X E (.Assign [.Subscript b ke spos] e pos) (rJ j fb fk f):=
 cF (Gy he (QF hb hk set_list ha) hs hw h1) fun W σ H hE=>xq5 hE fun O0 M0 H0 ow m R q=>
  ⟨O0,M0,H0,ow,m,R.toRel,(Ss.pu R.toRel q).imp (aK.refl _) fun d q v H1 g1 hv=>by
   have R1:=R.mono g1
   refine ⟨O0,M0,H0,ow,m,R1.toRel,(Ss.pu R1.toRel (q.go (Go.refl g1))).imp (aK.refl _) fun c q vc H2 g2 hc=>?_⟩
   have R2:=R1.mono g2
   obtain ⟨o,ho,q⟩:=Ss.ofO q
   obtain ⟨w,a,dd⟩:=o
   have ho:=xJ ho
   refine ⟨O0,M0,H0,ow,m,R2.toRel,(Ss.pu R2.toRel (q.go (Go.refl g2))).imp (aK.refl _) fun dk q vk H3 g3 hvk=>?_⟩
   have R3:=R2.mono g3
   cases c with
   |adr a'=>
    cases hc
    cases dd with
    |lst ds=>
     cases dk with
     |int n=>
      cases hvk
      have q':Ss (gx X) E O0 M0 H0 ow H2 W (if a'=a then (ofO (ixN ds.length n)).bind fun i=>.ok (.nx,m.set j (.hd w a' (.lst (ds.set i d)))) else .stuck):=q
      by_cases hz:a'=a
      ·rw [if_pos hz] at q'
       clear q
       subst hz
       obtain ⟨i,hi,q⟩:=Ss.ofO q'
       obtain ⟨x1,x2,x3,xs,e4,e5⟩:=R3.slot j _ ho
       obtain ⟨R4,g4⟩:=R3.X4 (o:=.lst (xs.set i v)) (d':=.lst (ds.set i d)) ho (.inl ⟨_,rfl⟩) (fun kp=>⟨_,L2.aZ,(vC (hv.mono (g2.trans g3)) i e5).kp R3.mutk kp⟩)
       exact ⟨a',xs,n,i,rfl,rfl,e4,by rw [bN e5]; exact hi,q _ _ _ R4 ((Go.refl g3).trans g4)⟩
      ·rw [if_neg hz] at q'; exact q'.elim
     |_=>exact q.elim
    |_=>exact q.elim
   |_=>exact q.elim⟩
end
open PySem PySem.Spec PyProof.Rows L2 Hd
noncomputable def Ho (G:Gx)(p:Nat)(Φ:List D->D->Addr×D->Addr×D->Res (D×D×D×D)):Sp:=fun vs H Q E=>∃O a us ds d x y,vs=j9 p (.ref a) us/\p<=ds.length/\(∀b,O b->fO (H b))/\(O a/\OV G O H a d)/\(O x.1/\OV G O H x.1 x.2)/\(O y.1/\OV G O H y.1 y.2)/\(a≠x.1/\a≠y.1/\x.1≠y.1)/\DVs G O H us ds/\match Φ ds d x y with
 | .ok (r,d',e,f)=>∀v H',Kp (fun b=>b=a\/b=x.1\/b=y.1) H H'->OV G O H' a d'->OV G O H' x.1 e->OV G O H' y.1 f->DV G O H' v r->Q v H'
 | .exc c=>∀C H',G.mg c=some (.ref C)->Kp (fun b=>b=a\/b=x.1\/b=y.1) H H'->E (.ref C) none H'
 | .stuck=>False
noncomputable def jV (m:Me)(j:Nat)(a:Addr):Option D:=match m[j]? with
 |some (.hd false b d)=>if a=b then some d else none
 |_=>none
theorem Im {m:Me}{j:Nat}{a:Addr}{d:D}(h:jV m j a=some d):m[j]? = some (.hd false a d):=by
 unfold jV at h
 split at h
 ·rename_i b d' q
  split at h
  ·rename_i z; cases h; rw [z]; exact q
  ·cases h
 ·cases h
noncomputable def runST (p N n:Nat)(g:Me->Res (Fl×Me)):List D->D->Addr×D->Addr×D->Res (D×D×D×D):=fun ds d x y=>if ds.length+1=n then match g (j9 p (.io d) (ds.map Sl.fz)++(List.replicate (N - n - 2) Sl.un++[.hd false x.1 x.2,.hd false y.1 y.2])) with
  | .ok (.rt _ r,m')=>(ofO (pL m' p)).bind fun d'=>(ofO (jV m' (N - 2) x.1)).bind fun e=>(ofO (jV m' (N - 1) y.1)).bind fun f=>.ok (r,d',e,f)
  | .ok (.nx,m')=>(ofO (pL m' p)).bind fun d'=>(ofO (jV m' (N - 2) x.1)).bind fun e=>(ofO (jV m' (N - 1) y.1)).bind fun f=>.ok (.non,d',e,f)
  | .exc c=>.exc c
  |_=>.stuck
 else .stuck
noncomputable abbrev FST (P:Program)(w:World)(K:W.Frag)(mg:Str->Option Value)(base:Heap)(k:Nat)(x:Str)(ps:List Str)(p:Nat)(Φ:List D->D->Addr×D->Addr×D->Res (D×D×D×D)):Prop:=Hd.Fn P w K mg base k x ps (Ho ⟨K,mg⟩ p Φ)
noncomputable def ow3 (i j1 j2:Nat)(a a1 a2:Addr):Os:=fun k=>if k=i then some a else if k=j1 then some a1 else if k=j2 then some a2 else none
theorem U9 {O:Addr->Prop}{i j1 j2:Nat}{a a1 a2:Addr}(h:O a)(h1:O a1)(h2:O a2)(n1:i≠j1)(n2:i≠j2)(n3:j1≠j2):Ow (fun b=>O b/\b≠a/\b≠a1/\b≠a2) (ow3 i j1 j2 a a1 a2)=O:=by
 funext b
 refine propext ⟨fun z=>?_,fun z=>?_⟩
 ·rcases z with z | ⟨k,e⟩
  ·exact z.1
  ·unfold ow3 at e
   split at e
   ·cases e; exact h
   ·split at e
    ·cases e; exact h1
    ·split at e
     ·cases e; exact h2
     ·cases e
 ·by_cases q:b=a
  ·exact .inr ⟨i,by unfold ow3; rw [if_pos rfl,q]⟩
  ·by_cases q1:b=a1
   ·exact .inr ⟨j1,by unfold ow3; rw [if_neg (Ne.symm n1),if_pos rfl,q1]⟩
   ·by_cases q2:b=a2
    ·exact .inr ⟨j2,by unfold ow3; rw [if_neg (Ne.symm n2),if_neg (Ne.symm n3),if_pos rfl,q2]⟩
    ·exact .inl ⟨z,q,q1,q2⟩
theorem O9 {G:Gx}{O:Addr->Prop}{H:Hp}{N:List Str}{a:Addr}{us:List V}{ds:List D}{d:D}{x y:Addr×D}{n p:Nat}(hp:p<=ds.length)(hm:∀b,O b->fO (H b))(ho:O a/\OV G O H a d)(hx:O x.1/\OV G O H x.1 x.2)(hy:O y.1/\OV G O H y.1 y.2)(nd:a≠x.1/\a≠y.1/\x.1≠y.1)(hd:DVs G O H us ds)(hn:ds.length+1=n)(hN:n+2<=N.length):
  cV G (fun b=>O b/\b≠a/\b≠x.1/\b≠y.1) (fun b=>b=a\/b=x.1\/b=y.1) H (ow3 p (N.length - 2) (N.length - 1) a x.1 y.1) (L2.start N (j9 p (.ref a) us)) H (j9 p (.io d) (ds.map Sl.fz)++(List.replicate (N.length - n - 2) Sl.un++[.hd false x.1 x.2,.hd false y.1 y.2])):=by
 have hl:=bN hd
 have n1:p≠N.length - 2:=by omega
 have n2:p≠N.length - 1:=by omega
 have n3:N.length - 2≠N.length - 1:=by omega
 have eO:=U9 ho.1 hx.1 hy.1 n1 n2 n3
 have hlen:(j9 p (V.ref a) us).length=n:=by rw [yl,hl]; exact hn
 have hst:∀i v,(j9 p (V.ref a) us)[i]? = some v->(L2.start N (j9 p (.ref a) us))[i]? = some (some v):=fun i v e=>by
  have hi:i<(j9 p (V.ref a) us).length:=(List.getElem?_eq_some_iff.mp e).1
  unfold L2.start
  rw [List.getElem?_append_left (by simpa using hi),List.getElem?_map,e]
  rfl
 have hml:(j9 p (Sl.io d) (ds.map Sl.fz)).length=n:=by rw [yl,List.length_map]; exact hn
 have op:ow3 p (N.length - 2) (N.length - 1) a x.1 y.1 p=some a:=if_pos rfl
 have o1:ow3 p (N.length - 2) (N.length - 1) a x.1 y.1 (N.length - 2)=some x.1:=by unfold ow3; rw [if_neg (Ne.symm n1),if_pos rfl]
 have o2:ow3 p (N.length - 2) (N.length - 1) a x.1 y.1 (N.length - 1)=some y.1:=by unfold ow3; rw [if_neg (Ne.symm n2),if_neg (Ne.symm n3),if_pos rfl]
 have on:∀i,i≠p->i≠N.length - 2->i≠N.length - 1->ow3 p (N.length - 2) (N.length - 1) a x.1 y.1 i=none:=fun i h1 h2 h3=>by unfold ow3; rw [if_neg h1,if_neg h2,if_neg h3]
 have key:∀(i:Nat) (s:Sl),(j9 p (Sl.io d) (ds.map Sl.fz)++(List.replicate (N.length - n - 2) Sl.un++[.hd false x.1 x.2,.hd false y.1 y.2]))[i]? = some s->
   (i=p/\s=.io d)\/(i≠p/\i<n/\∃d1 v,s=.fz d1/\DV G O H v d1/\(j9 p (V.ref a) us)[i]? = some v)\/(n<=i/\i<N.length - 2/\s=.un)\/(i=N.length - 2/\s=.hd false x.1 x.2)\/(i=N.length - 1/\s=.hd false y.1 y.2):=fun i s e=>by
  by_cases hi:i<n
  ·rw [List.getElem?_append_left (by rw [hml]; exact hi)] at e
   by_cases q:i=p
   ·subst q
    rw [JF (by simpa using hp)] at e
    cases e
    exact .inl ⟨rfl,rfl⟩
   ·refine .inr (.inl ⟨q,hi,?_⟩)
    by_cases lt:i<p
    ·rw [Kv lt (by simpa using hp),List.getElem?_map] at e
     cases ed:ds[i]? with
     |none=>rw [ed] at e; cases e
     |some d1=>
      rw [ed] at e
      cases e
      obtain ⟨v,hv,dx⟩:=ud hd ed
      exact ⟨d1,v,rfl,dx,by rw [Kv lt (by omega)]; exact hv⟩
    ·obtain ⟨j,rfl⟩:∃j,i=j+1:=⟨i - 1,by omega⟩
     rw [Ku (by omega) (by simpa using hp),List.getElem?_map] at e
     cases ed:ds[j]? with
     |none=>rw [ed] at e; cases e
     |some d1=>
      rw [ed] at e
      cases e
      obtain ⟨v,hv,dx⟩:=ud hd ed
      exact ⟨d1,v,rfl,dx,by rw [Ku (by omega) (by omega)]; exact hv⟩
  ·rw [List.getElem?_append_right (by rw [hml]; omega),hml] at e
   by_cases hi2:i - n<N.length - n - 2
   ·rw [List.getElem?_append_left (by simpa using hi2),List.getElem?_replicate,if_pos hi2] at e
    cases e
    exact .inr (.inr (.inl ⟨by omega,by omega,rfl⟩))
   ·rw [List.getElem?_append_right (by simpa using hi2),List.length_replicate] at e
    rcases (show i - n - (N.length - n - 2)=0\/i - n - (N.length - n - 2)=1\/2<=i - n - (N.length - n - 2) by omega) with z | z | z
    ·rw [z] at e; cases e
     exact .inr (.inr (.inr (.inl ⟨by omega,rfl⟩)))
    ·rw [z] at e; cases e
     exact .inr (.inr (.inr (.inr ⟨by omega,rfl⟩)))
    ·rw [List.getElem?_eq_none (by simpa using z)] at e; cases e
 refine ⟨⟨?_,fun b o e _=>e,fun b z=>?_,fun b z=>by rw [eO] at z; exact hm b z,fun i b e=>?_,fun i j b e1 e2=>?_,fun i hi=>?_,fun i s e=>?_⟩,fun j d' e=>?_⟩
 ·rw [List.length_append,hml,List.length_append,List.length_replicate]
  unfold L2.start
  rw [List.length_append,List.length_map,hlen,List.length_replicate]
  simp
  omega
 ·have mn:∀b,fO (H b)->H b≠none:=fun b z w=>by rw [w] at z; rcases z with ⟨_,e⟩ | ⟨_,e⟩ | ⟨_,e⟩ <;> cases e
  rcases z with z | z | z
  ·rw [z]; exact mn _ ho.2.mut
  ·rw [z]; exact mn _ hx.2.mut
  ·rw [z]; exact mn _ hy.2.mut
 ·intro z
  unfold ow3 at e
  split at e
  ·cases e; exact z.2.1 rfl
  ·split at e
   ·cases e; exact z.2.2.1 rfl
   ·split at e
    ·cases e; exact z.2.2.2 rfl
    ·cases e
 ·have inv:∀k b,ow3 p (N.length - 2) (N.length - 1) a x.1 y.1 k=some b->(k=p/\b=a)\/(k=N.length - 2/\b=x.1)\/(k=N.length - 1/\b=y.1):=fun k b e=>by
   unfold ow3 at e
   split at e
   ·rename_i q; cases e; exact .inl ⟨q,rfl⟩
   ·split at e
    ·rename_i q; cases e; exact .inr (.inl ⟨q,rfl⟩)
    ·split at e
     ·rename_i q; cases e; exact .inr (.inr ⟨q,rfl⟩)
     ·cases e
  obtain ⟨d1,d2,d3⟩:=nd
  rcases inv i b e1 with ⟨u1,u2⟩ | ⟨u1,u2⟩ | ⟨u1,u2⟩ <;> rcases inv j b e2 with ⟨w1,w2⟩ | ⟨w1,w2⟩ | ⟨w1,w2⟩
  ·rw [u1,w1]
  ·exact absurd (u2.symm.trans w2) d1
  ·exact absurd (u2.symm.trans w2) d2
  ·exact absurd (w2.symm.trans u2) d1
  ·rw [u1,w1]
  ·exact absurd (u2.symm.trans w2) d3
  ·exact absurd (w2.symm.trans u2) d2
  ·exact absurd (w2.symm.trans u2) d3
  ·rw [u1,w1]
 ·rw [List.length_append,hml,List.length_append,List.length_replicate] at hi
  simp at hi
  exact on i (by omega) (by omega) (by omega)
 ·rw [eO]
  rcases key i s e with ⟨rfl,rfl⟩ | ⟨q,hi,d1,v,rfl,dx,hv⟩ | ⟨q1,q2,rfl⟩ | ⟨rfl,rfl⟩ | ⟨rfl,rfl⟩
  ·exact ⟨a,op,.inl rfl,hst _ _ (JF (by omega)),ho.2⟩
  ·exact ⟨on i q (by omega) (by omega),v,hst _ _ hv,dx⟩
  ·exact on i (by omega) (by omega) (by omega)
  ·exact ⟨o1,(fun z=>by cases z),fun _=>.inr (.inl rfl),hx.2⟩
  ·exact ⟨o2,(fun z=>by cases z),fun _=>.inr (.inr rfl),hy.2⟩
 ·rcases key j _ e with ⟨_,z⟩ | ⟨_,_,_,_,z,_⟩ | ⟨_,_,z⟩ | ⟨_,z⟩ | ⟨_,z⟩ <;> cases z
section
variable {P:Program}{w:World}{K:W.Frag}{mg:Str->Option Value}{base:Heap}
theorem yf {x qual:Str}{st:Stmt}{f:Addr}{fd:FuncData}{N ps:List Str}{k:Nat}(p:Nat){g:Me->Res (Fl×Me)}(Fu:Fun K x qual st f fd)(S:aV N ps (aH st))(hN:ps.length+2<=N.length)
  (hbody:∀(cdv:Value) (A:Around) (outer:List Env) (s:Shared) (H:Hp) (E:XK),ig k (A.deeper (envOfC qual (aH st) s.heap.objs.size f cdv))->
   FSs (xW (CX1 P w) P w K mg base N qual (aH st) f cdv A outer s H E) E (iU st) g):cT P w K mg base (CX1 P w) (k+1) f fd ps (Ho ⟨K,mg⟩ p (runST p N.length ps.length g)):=by
 have cond:∀{ds:List D} {d:D} {u v:Addr×D},runST p N.length ps.length g ds d u v≠.stuck->ds.length+1=ps.length:=fun {ds d u v} h=>by
  by_cases z:ds.length+1=ps.length
  ·exact z
  ·unfold runST at h; rw [if_neg z] at h; exact absurd rfl h
 refine JC Fu S (fun vs H Q E h=>?_) (fun cdv A outer s H vs Q E hr h=>?_)
 ·obtain ⟨O,a,us,ds,d,u,v,rfl,_,_,_,_,_,_,hd,q⟩:=h
  rw [yl,bN hd]
  exact cond fun z=>by rw [z] at q; exact q
 ·obtain ⟨O,a,us,ds,d,u,v,rfl,hp,hm,ho,hu,hv,nd,hd,q⟩:=h
  have hn:=cond (ds:=ds) (d:=d) fun z=>by rw [z] at q; exact q
  unfold runST at q
  rw [if_pos hn] at q
  refine ⟨_,hbody cdv A outer s H E hr,_,_,H,_,_,O9 hp hm ho hu hv nd hd hn hN,?_⟩
  have fin:∀{ow' σ' H' m' d' e' f'},cV (⟨K,mg⟩:Gx) (fun b=>O b/\b≠a/\b≠u.1/\b≠v.1) (fun b=>b=a\/b=u.1\/b=v.1) H ow' σ' H' m'->pL m' p=some d'->jV m' (N.length - 2) u.1=some e'->jV m' (N.length - 1) v.1=some f'->
    Kp (fun b=>b=a\/b=u.1\/b=v.1) H H'/\OV ⟨K,mg⟩ O H' a d'/\OV ⟨K,mg⟩ O H' u.1 e'/\OV ⟨K,mg⟩ O H' v.1 f'/\∀z r,DV (⟨K,mg⟩:Gx) (Ow (fun b=>O b/\b≠a/\b≠u.1/\b≠v.1) ow') H' z r->DV ⟨K,mg⟩ O H' z r:=fun {ow' σ' H' m' d' e' f'} R e0 e1 e2=>by
   obtain ⟨a',k1,k2,k3,k4⟩:=R.slot p _ (Ov e0)
   obtain ⟨x1,x2,x3,x4⟩:=R.slot _ _ (Im e1)
   obtain ⟨y1,y2,y3,y4⟩:=R.slot _ _ (Im e2)
   have ea:a'=a:=by
    rcases k2 with z | z | z
    ·exact z
    ·have:=R.inj p _ _ k1 (z ▸ x1); omega
    ·have:=R.inj p _ _ k1 (z ▸ y1); omega
   subst ea
   have sub:∀b,O b->Ow (fun b=>O b/\b≠a'/\b≠u.1/\b≠v.1) ow' b\/H' b=none:=fun b z=>by
    by_cases q:b=a'
    ·exact .inl (.inr ⟨p,by rw [q]; exact k1⟩)
    ·by_cases q1:b=u.1
     ·exact .inl (.inr ⟨_,by rw [q1]; exact x1⟩)
     ·by_cases q2:b=v.1
      ·exact .inl (.inr ⟨_,by rw [q2]; exact y1⟩)
      ·exact .inl (.inl ⟨z,q,q1,q2⟩)
   exact ⟨R.keep,k4.bT sub,x4.bT sub,y4.bT sub,fun z r h=>h.bT sub⟩
  cases z:g (j9 p (.io d) (ds.map Sl.fz)++(List.replicate (N.length - ps.length - 2) Sl.un++[.hd false u.1 u.2,.hd false v.1 v.2])) with
  |exc c=>rw [z] at q; exact fun C H' e kp=>q C H' e kp
  |stuck=>rw [z] at q; exact q.elim
  |ok b=>
   obtain ⟨fl,m'⟩:=b
   rw [z] at q
   cases fl with
   |bk=>exact q.elim
   |ct=>exact q.elim
   |nx=>
    intro ow' σ' H' R' _
    cases e0:pL m' p with
    |none=>simp only [e0] at q; exact q.elim
    |some d'=>
     cases e1:jV m' (N.length - 2) u.1 with
     |none=>simp only [e0,e1,pO,Res.rK] at q; exact q.elim
     |some e'=>
      cases e2:jV m' (N.length - 1) v.1 with
      |none=>simp only [e0,e1,e2,pO,Res.rK] at q; exact q.elim
      |some f'=>
       simp only [e0,e1,e2] at q
       obtain ⟨k1,k2,k3,k4,k5⟩:=fin R' e0 e1 e2
       exact q _ H' k1 k2 k3 k4 .non
   |rt fr r=>
    intro v' ow' σ' H' R' _ hv' _
    cases e0:pL m' p with
    |none=>simp only [e0] at q; exact q.elim
    |some d'=>
     cases e1:jV m' (N.length - 2) u.1 with
     |none=>simp only [e0,e1,pO,Res.rK] at q; exact q.elim
     |some e'=>
      cases e2:jV m' (N.length - 1) v.1 with
      |none=>simp only [e0,e1,e2,pO,Res.rK] at q; exact q.elim
      |some f'=>
       simp only [e0,e1,e2] at q
       obtain ⟨k1,k2,k3,k4,k5⟩:=fin R' e0 e1 e2
       exact q v' H' k1 k2 k3 k4 (k5 _ _ hv')
theorem Xu {k p:Nat}{f:Addr}{fd:FuncData}{ps:List Str}:cT P w K mg base (CX1 P w) k f fd ps (Ho ⟨K,mg⟩ p fun _ _ _ _=>.stuck):=
 ⟨fun _ _ _ _ ⟨_,_,_,_,_,_,_,_,_,_,_,_,_,_,_,q⟩=>q.elim,fun _ _ _ _ _ _ _ _ _ _ _ _ _ ⟨_,_,_,_,_,_,_,_,_,_,_,_,_,_,_,q⟩=>q.elim⟩
end
noncomputable def uh (Φ:List D->D->Addr×D->Addr×D->Res (D×D×D×D))(i p j1 j2:Nat)(fs:Me->Res (List D)):Me->Res (D×Me):=fun m=>(ofO (Bp m i)).bind fun o=>(ofO (vf m j1)).bind fun h1=>(ofO (vf m j2)).bind fun h2=>(fs m).bind fun ds=>if p<=ds.length then (Φ ds o.2 h1.2 h2.2).bind fun r=>.ok (r.1,((xn m i o.1 r.2.1).set j1 (.hd h1.1 h1.2.1 r.2.2.1)).set j2 (.hd h2.1 h2.2.1 r.2.2.2)) else .stuck
theorem Dt {X:Cx}{E:XK}{e0:Expr}{es:List Expr}{fs:Me->Res (List D)}{pos pp:Pos}{j k p:Nat}{x:Str}{ps:List Str}{Φ:List D->D->Addr×D->Addr×D->Res (D×D×D×D)}(i j1 j2:Nat)(Fh:FST X.prog X.w X.K X.mg X.base k x ps p Φ)(hr:ig j X.A)(hx:Passes (CX1 X.prog X.w) X E)(ha:FAH X E (e0::es) i p fs)(hk:k<=j:=by decide)(hg:Gl X x:=by rfl)
  (hj:j1≠j2:=by decide) (hdb:(x == ("__debug__" : Str))=false:=by decide) (he:starEach (e0::es) X.env=(false,eval e0 X.env)::starEach es X.env:=by rfl) (hpl:(backTo pos (starEach es X.env)).any (·.1)=false:=by rfl):
  FX X E (.Call (.Name x pp) (e0::es) [] pos) (uh Φ i p j1 j2 fs):=by
 obtain ⟨f,fd,G,b,kp,m⟩:=Fh.ex
 refine bx (xR G (hr.mono hk) hg m kp b .nil hx ha hdb he hpl) fun σ H Q hE=>xq5 hE fun O0 M0 H0 ow m R q=>?_
 obtain ⟨o,ho,q⟩:=(Xs.pu R.toRel q).ofO
 obtain ⟨h1,hh1,q⟩:=(Xs.pu R.toRel q).ofO
 obtain ⟨h2,hh2,q⟩:=(Xs.pu R.toRel q).ofO
 obtain ⟨kk,d0⟩:=o
 obtain ⟨w1,a1,d1⟩:=h1
 obtain ⟨w2,a2,d2⟩:=h2
 obtain ⟨a,e1,e2,e4,e5⟩:=RG R.toRel ho
 have g1:=xJ hh1
 have g2:=xJ hh2
 obtain ⟨x1,x2,x3,x4⟩:=R.slot j1 _ g1
 obtain ⟨y1,y2,y3,y4⟩:=R.slot j2 _ g2
 have ni1:i≠j1:=fun z=>by subst z; rcases e5 with ⟨s,_⟩ | ⟨s,_⟩ <;> (rw [g1] at s; cases s)
 have ni2:i≠j2:=fun z=>by subst z; rcases e5 with ⟨s,_⟩ | ⟨s,_⟩ <;> (rw [g2] at s; cases s)
 have na1:a≠a1:=fun z=>ni1 (R.inj i j1 a e1 (z ▸ x1))
 have na2:a≠a2:=fun z=>ni2 (R.inj i j2 a e1 (z ▸ y1))
 have na3:a1≠a2:=fun z=>hj (R.inj j1 j2 a1 x1 (z ▸ y1))
 refine ⟨O0,M0,H0,ow,m,a,R.toRel,e2,(Xs.pu R.toRel q).imp (aK.refl _) fun ds q=>?_⟩
 by_cases hp:p<=ds.length
 case neg=>rw [if_neg hp] at q; exact q.elim
 rw [if_pos hp] at q
 refine ⟨hp,fun us H1 g3 hus=>?_⟩
 have R1:=R.mono g3
 have q:Xs (gx X) E O0 M0 H0 ow σ H1 ((Φ ds d0 (a1,d1) (a2,d2)).bind fun r=>.ok (r.1,((xn m i kk r.2.1).set j1 (.hd w1 a1 r.2.2.1)).set j2 (.hd w2 a2 r.2.2.2))) _:=q.at g3
 show Ho _ _ _ (j9 p (V.ref a) us++[]) _ _ _
 rw [List.append_nil]
 refine ⟨Ow O0 ow,a,us,ds,d0,(a1,d1),(a2,d2),rfl,hp,R1.mutk,⟨.inr ⟨i,e1⟩,e4.mono g3⟩,⟨.inr ⟨j1,x1⟩,x4.mono g3⟩,⟨.inr ⟨j2,y1⟩,y4.mono g3⟩,⟨na1,na2,na3⟩,hus,?_⟩
 have m0a:H0 a=none\/M0 a:=by
  rcases e5 with ⟨s,_⟩ | ⟨s,_⟩
  ·obtain ⟨a',s1,s2,_⟩:=R.slot i _ s; rw [e1] at s1; cases s1; exact .inl s2
  ·obtain ⟨a',s1,s2,_⟩:=R.slot i _ s; rw [e1] at s1; cases s1; exact .inr s2
 have m01:H0 a1=none\/M0 a1:=by cases w1 with
  |true=>exact .inl (x2 rfl)
  |false=>exact .inr (x3 rfl)
 have m02:H0 a2=none\/M0 a2:=by cases w2 with
  |true=>exact .inl (y2 rfl)
  |false=>exact .inr (y3 rfl)
 cases z:Φ ds d0 (a1,d1) (a2,d2) with
 |stuck=>rw [z] at q; exact q.elim
 |exc c=>
  rw [z] at q
  refine fun C H' e g=>q C H' e fun b o e n=>?_
  refine g b o (R1.keep b o e n) fun w=>?_
  rcases w with rfl | rfl | rfl
  ·rcases m0a with w | w
   ·rw [w] at e; cases e
   ·exact n w
  ·rcases m01 with w | w
   ·rw [w] at e; cases e
   ·exact n w
  ·rcases m02 with w | w
   ·rw [w] at e; cases e
   ·exact n w
 |ok r=>
  obtain ⟨rr,d',e',f'⟩:=r
  rw [z] at q
  intro v H' g ov1 ov2 ov3 hv
  have hi:i<m.length:=by rcases e5 with ⟨s,_⟩ | ⟨s,_⟩ <;> exact qO s
  have ex:∀c,(((xn m i kk d').set j1 (.hd w1 a1 e')).set j2 (.hd w2 a2 f'))[c]? = if c=j2 then some (.hd w2 a2 f') else if c=j1 then some (.hd w1 a1 e') else if c=i then some (if kk then .ow d' else .io d') else m[c]?:=fun c=>by
   have l1:=qO g1
   have l2:=qO g2
   unfold xn
   by_cases c2:c=j2
   ·subst c2; rw [if_pos rfl,List.getElem?_set_self (by simpa using l2)]
   ·rw [if_neg c2,List.getElem?_set_ne (Ne.symm c2)]
    by_cases c1:c=j1
    ·subst c1; rw [if_pos rfl,List.getElem?_set_self (by simpa using l1)]
    ·rw [if_neg c1,List.getElem?_set_ne (Ne.symm c1)]
     by_cases c0:c=i
     ·subst c0; rw [if_pos rfl,List.getElem?_set_self hi]
     ·rw [if_neg c0,List.getElem?_set_ne (Ne.symm c0)]
  obtain ⟨R2,G2⟩:=R1.many (m':=((xn m i kk d').set j1 (.hd w1 a1 e')).set j2 (.hd w2 a2 f')) (ch:=fun c=>c=i\/c=j1\/c=j2) (by simp [xn]) (fun c n=>by
    rw [ex,if_neg (fun z=>n (.inr (.inr z))),if_neg (fun z=>n (.inr (.inl z))),if_neg (fun z=>n (.inl z))]) (fun b o eb n=>g b o eb fun w=>n (by
    rcases w with rfl | rfl | rfl
    ·exact ⟨i,.inl rfl,e1⟩
    ·exact ⟨j1,.inr (.inl rfl),x1⟩
    ·exact ⟨j2,.inr (.inr rfl),y1⟩)) (fun c s cc es=>by
    rw [ex] at es
    rcases cc with rfl | rfl | rfl
    ·rw [if_neg ni2,if_neg ni1,if_pos rfl] at es
     cases es
     rcases e5 with ⟨s,rfl⟩ | ⟨s,rfl⟩
     ·obtain ⟨a',s1,s2,s3,_⟩:=R.slot c _ s
      rw [e1] at s1; cases s1
      exact ⟨⟨a,e1,s2,s3,ov1⟩,fun d z=>by cases z⟩
     ·obtain ⟨a',s1,s2,s3,_⟩:=R.slot c _ s
      rw [e1] at s1; cases s1
      exact ⟨⟨a,e1,s2,s3,ov1⟩,fun d z=>by cases z⟩
    ·rw [if_neg hj,if_pos rfl] at es
     cases es
     exact ⟨⟨x1,x2,x3,ov2⟩,fun d z=>by cases z⟩
    ·rw [if_pos rfl] at es
     cases es
     exact ⟨⟨y1,y2,y3,ov3⟩,fun d z=>by cases z⟩) (fun c b cc eb=>by
    rcases cc with rfl | rfl | rfl
    ·rw [e1] at eb; cases eb; exact ⟨ov1.mut,m0a⟩
    ·rw [x1] at eb; cases eb; exact ⟨ov2.mut,m01⟩
    ·rw [y1] at eb; cases eb; exact ⟨ov3.mut,m02⟩)
  exact q H' R2 G2 v hv
open PySem PySem.Spec PyProof.Rows L2 Hd
open Classical in
noncomputable def Uc (h:Addr->Addr->Res (Fl×Me))(m:Me):Res (Fl×Me):=
 if H:∃p:Bool×D,∀a1 a2:Addr,a1≠a2->∃m',h a1 a2=.ok (.rt p.1 p.2,m')/\m'.length=m.length then .ok (.rt (Classical.choose H).1 (Classical.choose H).2,m.map fun _=>.un) else .stuck
theorem QL {h:Addr->Addr->Res (Fl×Me)}{m:Me}{fr:Bool}{d:D}(H:∀a1 a2:Addr,a1≠a2->∃m',h a1 a2=.ok (.rt fr d,m')/\m'.length=m.length):Uc h m=.ok (.rt fr d,m.map fun _=>.un):=by
 have Hx:∃p:Bool×D,∀a1 a2:Addr,a1≠a2->∃m',h a1 a2=.ok (.rt p.1 p.2,m')/\m'.length=m.length:=⟨(fr,d),H⟩
 have e:=Classical.choose_spec Hx
 obtain ⟨m1,e1,_⟩:=e 0 1 (by decide)
 obtain ⟨m2,e2,_⟩:=H 0 1 (by decide)
 rw [e1] at e2
 unfold Uc
 rw [dif_pos Hx]
 injection e2 with e2
 injection e2 with e2 _
 injection e2 with e3 e4
 rw [e3,e4]
section
variable {G:Gx}{O0 M0:Addr->Prop}{H0 H H':Hp}{ow:Os}{σ:L2.St}{m:Me}
theorem cV.forget (R:cV G O0 M0 H0 ow σ H m){m':Me}(hl:m'.length=m.length):cV G O0 M0 H0 (fun _=>none) σ H (m'.map fun _=>Sl.un)/\Go O0 ow H (fun _=>none) H:=by
 refine ⟨⟨⟨by rw [List.length_map,hl]; exact R.len,R.keep,R.m0,fun b z=>R.mutk b (z.elim .inl fun ⟨_,e⟩=>by cases e),fun i a e=>(by cases e),fun i j a e _=>(by cases e),fun i _=>rfl,fun i s e=>?_⟩,fun j d e=>?_⟩,fun b o e _=>e,fun i a e=>(by cases e),fun _ n=>n⟩
 ·rw [List.getElem?_map] at e
  cases q:m'[i]? with
  |none=>rw [q] at e; cases e
  |some s0=>rw [q] at e; cases e; rfl
 ·rw [List.getElem?_map] at e
  cases q:m'[j]? with
  |none=>rw [q] at e; cases e
  |some s0=>rw [q] at e; cases e
noncomputable def vV (ow:Os)(i j1 j2:Nat)(a a1 a2:Addr):Os:=fun k=>if k=i then some a else if k=j1 then some a1 else if k=j2 then some a2 else ow k
theorem cV.Zc {i j1 j2:Nat}{p p1 p2:Addr}{d d1 d2:D}(R:cV G O0 M0 H0 ow σ H m)(g:aK H H')(n:H p=none)(n1:H p1=none)(n2:H p2=none)(np1:p≠p1)(np2:p≠p2)(np3:p1≠p2)(hi:i<m.length)(h1:j1<m.length)(h2:j2<m.length)(ij1:i≠j1)(ij2:i≠j2)(jj:j1≠j2)
  (o:OV G (fun b=>Ow O0 ow b\/b=p\/b=p1\/b=p2) H' p d) (o1:OV G (fun b=>Ow O0 ow b\/b=p\/b=p1\/b=p2) H' p1 d1) (o2:OV G (fun b=>Ow O0 ow b\/b=p\/b=p1\/b=p2) H' p2 d2):
  cV G O0 M0 H0 (vV ow i j1 j2 p p1 p2) (σ.set i (some (.ref p))) H' (((m.set i (.ow d)).set j1 (.hd true p1 d1)).set j2 (.hd true p2 d2))/\Go O0 ow H (vV ow i j1 j2 p p1 p2) H':=by
 have q0:=R.toRel.Ek n
 have q1:=R.toRel.Ek n1
 have q2:=R.toRel.Ek n2
 have inv:∀k b,vV ow i j1 j2 p p1 p2 k=some b->(k=i/\b=p)\/(k=j1/\b=p1)\/(k=j2/\b=p2)\/(k≠i/\k≠j1/\k≠j2/\ow k=some b):=fun k b e=>by
  unfold vV at e
  split at e
  ·rename_i q; cases e; exact .inl ⟨q,rfl⟩
  ·split at e
   ·rename_i q; cases e; exact .inr (.inl ⟨q,rfl⟩)
   ·split at e
    ·rename_i q; cases e; exact .inr (.inr (.inl ⟨q,rfl⟩))
    ·rename_i a b c; exact .inr (.inr (.inr ⟨a,b,c,e⟩))
 have out:∀b,Ow O0 (vV ow i j1 j2 p p1 p2) b->Ow O0 ow b\/b=p\/b=p1\/b=p2:=fun b z=>by
  rcases z with z | ⟨k,e⟩
  ·exact .inl (.inl z)
  ·rcases inv k b e with ⟨_,z⟩ | ⟨_,z⟩ | ⟨_,z⟩ | ⟨_,_,_,z⟩
   ·exact .inr (.inl z)
   ·exact .inr (.inr (.inl z))
   ·exact .inr (.inr (.inr z))
   ·exact .inl (.inr ⟨k,z⟩)
 have sub:∀b,Ow O0 (vV ow i j1 j2 p p1 p2) b->Ow O0 ow b\/H b=none:=fun b z=>by
  rcases out b z with z | z | z | z
  ·exact .inl z
  ·rw [z]; exact .inr n
  ·rw [z]; exact .inr n1
  ·rw [z]; exact .inr n2
 have R':=R.mono g
 have e0:vV ow i j1 j2 p p1 p2 i=some p:=if_pos rfl
 have e1:vV ow i j1 j2 p p1 p2 j1=some p1:=by unfold vV; rw [if_neg (Ne.symm ij1),if_pos rfl]
 have e2:vV ow i j1 j2 p p1 p2 j2=some p2:=by unfold vV; rw [if_neg (Ne.symm ij2),if_neg (Ne.symm jj),if_pos rfl]
 have en:∀k,k≠i->k≠j1->k≠j2->vV ow i j1 j2 p p1 p2 k=ow k:=fun k a b c=>by unfold vV; rw [if_neg a,if_neg b,if_neg c]
 have ex:∀c,(((m.set i (.ow d)).set j1 (.hd true p1 d1)).set j2 (.hd true p2 d2))[c]? = if c=j2 then some (.hd true p2 d2) else if c=j1 then some (.hd true p1 d1) else if c=i then some (.ow d) else m[c]?:=fun c=>by
  by_cases c2:c=j2
  ·subst c2; rw [if_pos rfl,List.getElem?_set_self (by simpa using h2)]
  ·rw [if_neg c2,List.getElem?_set_ne (Ne.symm c2)]
   by_cases c1:c=j1
   ·subst c1; rw [if_pos rfl,List.getElem?_set_self (by simpa using h1)]
   ·rw [if_neg c1,List.getElem?_set_ne (Ne.symm c1)]
    by_cases c0:c=i
    ·subst c0; rw [if_pos rfl,List.getElem?_set_self hi]
    ·rw [if_neg c0,List.getElem?_set_ne (Ne.symm c0)]
 refine ⟨⟨⟨by simp [R.len],R'.keep,R'.m0,fun b z=>?_,fun k a e=>?_,fun k l a a1 a2=>?_,fun k hk=>?_,fun k s e=>?_⟩,fun k dd e=>?_⟩,.of g,fun k a e=>?_,(Go.refl (O0:=O0) (ow:=ow) g).dom⟩
 ·rcases out b z with z | z | z | z
  ·exact R'.mutk b z
  ·rw [z]; exact o.mut
  ·rw [z]; exact o1.mut
  ·rw [z]; exact o2.mut
 ·rcases inv k a e with ⟨_,z⟩ | ⟨_,z⟩ | ⟨_,z⟩ | ⟨_,_,_,z⟩
  ·rw [z]; exact fun w=>q0 (.inl w)
  ·rw [z]; exact fun w=>q1 (.inl w)
  ·rw [z]; exact fun w=>q2 (.inl w)
  ·exact R.no0 k a z
 ·rcases inv k a a1 with ⟨u,z⟩ | ⟨u,z⟩ | ⟨u,z⟩ | ⟨_,_,_,z⟩ <;> rcases inv l a a2 with ⟨v,y⟩ | ⟨v,y⟩ | ⟨v,y⟩ | ⟨_,_,_,y⟩
  ·rw [u,v]
  ·exact absurd (z.symm.trans y) np1
  ·exact absurd (z.symm.trans y) np2
  ·exact absurd (.inr ⟨l,z ▸ y⟩) q0
  ·exact absurd (y.symm.trans z) np1
  ·rw [u,v]
  ·exact absurd (z.symm.trans y) np3
  ·exact absurd (.inr ⟨l,z ▸ y⟩) q1
  ·exact absurd (y.symm.trans z) np2
  ·exact absurd (y.symm.trans z) np3
  ·rw [u,v]
  ·exact absurd (.inr ⟨l,z ▸ y⟩) q2
  ·exact absurd (.inr ⟨k,y ▸ z⟩) q0
  ·exact absurd (.inr ⟨k,y ▸ z⟩) q1
  ·exact absurd (.inr ⟨k,y ▸ z⟩) q2
  ·exact R.inj k l a z y
 ·have hk':m.length<=k:=by simpa using hk
  rw [en k (by omega) (by omega) (by omega)]
  exact R.out k hk'
 ·rw [ex] at e
  by_cases c2:k=j2
  ·rw [if_pos c2] at e
   cases e
   rw [c2]
   exact ⟨e2,fun _=>R.toRel.Ef n2,(fun z=>by cases z),o2.bT fun b z=>.inl (out b z)⟩
  ·rw [if_neg c2] at e
   by_cases c1:k=j1
   ·rw [if_pos c1] at e
    cases e
    rw [c1]
    exact ⟨e1,fun _=>R.toRel.Ef n1,(fun z=>by cases z),o1.bT fun b z=>.inl (out b z)⟩
   ·rw [if_neg c1] at e
    by_cases c0:k=i
    ·rw [if_pos c0] at e
     cases e
     rw [c0]
     exact ⟨p,e0,R.toRel.Ef n,by rw [List.getElem?_set_self (by rw [R.len]; exact hi)],o.bT fun b z=>.inl (out b z)⟩
    ·rw [if_neg c0] at e
     rw [en k c0 c1 c2,List.getElem?_set_ne (Ne.symm c0)]
     exact ((R.slot k s e).bT sub fun _ _ b _=>Classical.em _).mono g
 ·rw [ex] at e
  split at e
  ·cases e
  ·split at e
   ·cases e
   ·split at e
    ·cases e
    ·exact R.nb k dd e
 ·rcases inv k a e with ⟨_,z⟩ | ⟨_,z⟩ | ⟨_,z⟩ | ⟨_,_,_,z⟩
  ·rw [z]; exact .inr n
  ·rw [z]; exact .inr n1
  ·rw [z]; exact .inr n2
  ·exact .inl (.inr ⟨k,z⟩)
end
noncomputable def Ul (i j1 j2:Nat)(fs1:List ((Me->Res D)×(Me->Res D)))(k1 f1 k2 f2:Me->Res D)(fs2:List ((Me->Res D)×(Me->Res D)))(k:Me->Res (Fl×Me)):Me->Res (Fl×Me):=fun m=>
 (Dh fs1 m).bind fun l1=>(k1 m).bind fun c1=>(f1 m).bind fun d1=>(k2 m).bind fun c2=>(f2 m).bind fun d2=>(Dh fs2 m).bind fun l2=>
  if l1.length+2+l2.length<=15/\i<m.length/\j1<m.length/\j2<m.length then
   Uc (fun a1 a2=>(ofO (Ea [] [] (l1++(c1,.adr a1)::(c2,.adr a2)::l2))).bind fun r=>k (((m.set i (.ow (.dct r.1 r.2))).set j1 (.hd true a1 d1)).set j2 (.hd true a2 d2))) m
  else .stuck
theorem DPs.app {G:Gx}{O:Addr->Prop}{H:Hp}:∀{ps qs:List (V×V)} {l r:List (D×D)},DPs G O H ps l->DPs G O H qs r->DPs G O H (ps++qs) (l++r)
 |_,_,_,_,.nil,h=>h
 |_,_,_,_,.cons a b t,h=>.cons a b (DPs.app t h)
section
variable {X:Cx}{E:XK}
theorem zy {O0 M0:Addr->Prop}{H0:Hp}{ow:Os}{σ:L2.St}{m:Me}{Hb:Hp}(rest:List (TE×TE)):∀(fs:List ((Me->Res D)×(Me->Res D))) {H:Hp} {K:List (D×D)->Prop} {Q:List (V×V)->Hp->Prop},aK Hb H->Rel (gx X) O0 M0 H0 ow σ H m->Pu (gx X) E (Dh fs m) Hb K->
  (∀l ps H',K l->aK H H'->DPs (gx X) (Ow O0 ow) H' ps l->xZ rest σ H' fun qs H2=>Q (ps++qs) H2)->xZ (Mx X E fs++rest) σ H Q
 |[],H,K,Q,_,R,q,f=>f [] [] H q (aK.refl _) .nil
 |g::r,H,K,Q,gb,R,q,f=>by
  refine ⟨O0,M0,H0,ow,m,R,q.bind.imp gb fun kd q x H1 g1 hx=>⟨O0,M0,H0,ow,m,R.mono g1,q.bind.imp (gb.trans g1) fun d q y H2 g2 hy=>?_⟩⟩
  refine zy rest r ((gb.trans g1).trans g2) ((R.mono g1).mono g2) q.bind fun l ps H3 k g3 hl=>?_
  exact f _ ((x,y)::ps) _ k ((g1.trans g2).trans g3) (.cons ((hx.mono g2).mono g3) (hy.mono g3) hl)
theorem Nk {i j1 j2:Nat}{y:Str}{py pos dpos:Pos}{keys:List (Option Expr)}{values:List Expr}{rest:List Stmt}{fs1 fs2:List ((Me->Res D)×(Me->Res D))}{k1 f1 k2 f2:Me->Res D}{k:Me->Res (Fl×Me)}
  (hN:X.N.Nodup) (hi:X.N[i]? = some y) (hy:Loc X.env.scope y)
  (h:PPs X dpos keys values (Mx X E fs1++(tE (gx X) E k1,tN (gx X) E f1)::(tE (gx X) E k2,tN (gx X) E f2)::(Mx X E fs2++[]))) (hr:FSs X E rest k)
  (hall:keys.all (·.isSome)=true:=by rfl) (hl:keys.length=values.length:=by rfl) (h0:keys≠[]:=by exact (fun z=>nomatch z)) (h15:keys.length<=15:=by decide) (ij1:i≠j1:=by decide) (ij2:i≠j2:=by decide) (jj:j1≠j2:=by decide)
  (hs:swapsWith (.Dict keys values dpos) (some (.Name y py)) pos.line X.env=pure false:=by rfl)
  (hf:X.fn y=true\/X.env.scope.names.lookup y=some .local:=by first | exact .inl rfl | exact .inr rfl | assumption):
  FSs X E (.Assign [.Name y py] (.Dict keys values dpos) pos::rest) (Ul i j1 j2 fs1 k1 f1 k2 f2 fs2 k):=by
 refine uF (DX (zx hN hi hy (RJ h hall hl h0 h15) hs hf) hr) fun W σ H hE=>xq5 hE fun O0 M0 H0 ow m R q=>?_
 intro p hp
 have g0:aK H (upd H p (.dK [])):=bJ hp _
 have R1:=R.toRel.more g0 hp (by rw [aZ]; exact .inr (.inl ⟨[],rfl⟩))
 have ow_of:∀{O1:Addr->Prop} {b:Addr} {l:Addr},Ow (Op O1 l) ow b->Ow O1 ow b\/b=l:=fun z=>Om z
 refine zy _ fs1 g0 R1 (Ss.pu R.toRel q) fun l1 ps1 H2 q g2 hl1=>?_
 have R2:=R1.mono g2
 have hq:=Ss.pu R.toRel q
 refine ⟨_,_,_,_,_,R2,hq.imp (g0.trans g2) fun c1 q x1 H3 g3 hx1=>?_⟩
 have R3:=R2.mono g3
 have hq:=Ss.pu R.toRel q
 refine ⟨_,_,_,_,_,R3,hq.imp ((g0.trans g2).trans g3) fun d1 q p1 H4 g4 n1 ov1=>?_⟩
 have R4:=R3.more g4 n1 ov1.mut
 have hq:=Ss.pu R.toRel q
 refine ⟨_,_,_,_,_,R4,hq.imp (((g0.trans g2).trans g3).trans g4) fun c2 q x2 H5 g5 hx2=>?_⟩
 have R5:=R4.mono g5
 have hq:=Ss.pu R.toRel q
 refine ⟨_,_,_,_,_,R5,hq.imp ((((g0.trans g2).trans g3).trans g4).trans g5) fun d2 q p2 H6 g6 n2 ov2=>?_⟩
 have R6:=R5.more g6 n2 ov2.mut
 have hq:=Ss.pu R.toRel q
 refine zy [] fs2 (((((g0.trans g2).trans g3).trans g4).trans g5).trans g6) R6 hq fun l2 ps2 H7 q g7 hl2=>?_
 have R7:=R6.mono g7
 by_cases hc:l1.length+2+l2.length<=15/\i<m.length/\j1<m.length/\j2<m.length
 case neg=>rw [if_neg hc] at q; exact q.elim
 rw [if_pos hc] at q
 obtain ⟨hlen,li,lj1,lj2⟩:=hc
 unfold Uc at q
 split at q
 case isFalse=>exact q.elim
 rename_i HU
 have sp:=Classical.choose_spec HU
 generalize hfd:Classical.choose HU=fd at sp q
 obtain ⟨fr,dd⟩:=fd
 have gA:aK H H7:=((((((g0.trans g2).trans g3).trans g4).trans g5).trans g6).trans g7)
 have np1:p≠p1:=fun z=>by
  have:H3 p=some (.dK []):=g3 _ _ (g2 _ _ aZ)
  rw [z,n1] at this; cases this
 have np2:p≠p2:=fun z=>by
  have:H5 p=some (.dK []):=g5 _ _ (g4 _ _ (g3 _ _ (g2 _ _ aZ)))
  rw [z,n2] at this; cases this
 have np3:p1≠p2:=fun z=>by
  have m1:=ov1.mut
  have:H5 p1≠none:=fun w=>by
   have w4:H4 p1=none:=g5.free w
   rw [w4] at m1
   rcases m1 with ⟨_,e⟩ | ⟨_,e⟩ | ⟨_,e⟩ <;> cases e
  exact this (z ▸ n2)
 have hp1:H p1=none:=(g0.trans (g2.trans g3)).free n1
 have hp2:H p2=none:=(g0.trans (g2.trans (g3.trans (g4.trans g5)))).free n2
 obtain ⟨m',eq,hlm⟩:=sp p1 p2 np3
 have eq:((ofO (Ea [] [] (l1++(c1,.adr p1)::(c2,.adr p2)::l2))).bind fun r=>k (((m.set i (.ow (.dct r.1 r.2))).set j1 (.hd true p1 d1)).set j2 (.hd true p2 d2)))=.ok (.rt fr dd,m'):=eq
 cases em:Ea [] [] (l1++(c1,.adr p1)::(c2,.adr p2)::l2) with
 |none=>rw [em] at eq; cases eq
 |some r=>
  rw [em] at eq
  simp only [pO,Res.rK] at eq
  let OO:Addr->Prop:=fun b=>Ow O0 ow b\/b=p\/b=p1\/b=p2
  have toOO:∀b,OO b->Ow (Op (Op (Op O0 p) p1) p2) ow b:=fun b z=>by
   rcases z with (z | z) | z | z | z
   ·exact .inl (.inl (.inl (.inl z)))
   ·exact .inr z
   ·exact .inl (.inl (.inl (.inr z)))
   ·exact .inl (.inl (.inr z))
   ·exact .inl (.inr z)
  have fromOO:∀b,Ow (Op (Op (Op O0 p) p1) p2) ow b->OO b:=fun b z=>by
   rcases z with (((z | z) | z) | z) | z
   ·exact .inl (.inl z)
   ·exact .inr (.inl z)
   ·exact .inr (.inr (.inl z))
   ·exact .inr (.inr (.inr z))
   ·exact .inl (.inr z)
  have a1:DPs (gx X) OO H7 ps1 l1:=(hl1.bT (O':=OO) (fun b z=>by
   rcases z with z | z | z | z
   ·exact .inl (z.elim (fun w=>.inl (.inl w)) .inr)
   ·exact .inl (.inl (.inr z))
   ·exact .inr (by rw [z]; exact g3.free n1)
   ·exact .inr (by rw [z]; exact (g3.trans (g4.trans g5)).free n2))).mono (g3.trans (g4.trans (g5.trans (g6.trans g7))))
  have a2:DV (gx X) OO H7 x1 c1:=(hx1.bT (O':=OO) (fun b z=>by
   rcases z with z | z | z | z
   ·exact .inl (z.elim (fun w=>.inl (.inl w)) .inr)
   ·exact .inl (.inl (.inr z))
   ·exact .inr (by rw [z]; exact n1)
   ·exact .inr (by rw [z]; exact (g4.trans g5).free n2))).mono (g4.trans (g5.trans (g6.trans g7)))
  have a3:DV (gx X) OO H7 x2 c2:=(hx2.bT (O':=OO) (fun b z=>by
   rcases z with z | z | z | z
   ·exact .inl (z.elim (fun w=>.inl (.inl (.inl w))) .inr)
   ·exact .inl (.inl (.inl (.inr z)))
   ·exact .inl (.inl (.inr z))
   ·exact .inr (by rw [z]; exact n2))).mono (g6.trans g7)
  have a4:DPs (gx X) OO H7 ps2 l2:=hl2.bT fun b z=>.inl (toOO b z)
  have dps:DPs (gx X) OO H7 (ps1++(x1,.ref p1)::(x2,.ref p2)::ps2) (l1++(c1,.adr p1)::(c2,.adr p2)::l2):=a1.app (.cons a2 (.adr p1) (.cons a3 (.adr p2) a4))
  obtain ⟨kvs,e1,e2,e3⟩:=Pq (acc:=[]) dps em rfl .nil
  have len:=dps.len
  rw [e1,List.length_map] at len
  have len2:kvs.length<=15:=by simp at len; omega
  have e7:H7 p=some (.dK []):=g7 _ _ (g6 _ _ (g5 _ _ (g4 _ _ (g3 _ _ (g2 _ _ aZ)))))
  refine ⟨e7,kvs,by rw [List.append_nil] at *; exact e1,len2,?_⟩
  have mOO:∀b,OO b->fO (H7 b):=fun b z=>R7.mutk b (toOO b z)
  have kp:Kp OO H7 (upd H7 p (.dK (mW [] kvs))):=fun c o e n=>by rw [cL (fun z=>n (.inr (.inl z)))]; exact e
  have gB:aK H (upd H7 p (.dK (mW [] kvs))):=fun c o e=>by
   rw [cL (fun z=>by rw [z,hp] at e; cases e)]
   exact gA _ _ e
  have b1:OV (gx X) OO (upd H7 p (.dK (mW [] kvs))) p (.dct r.1 r.2):=⟨_,_,aZ,e2,rfl,e3.kp mOO kp⟩
  have b2:OV (gx X) OO (upd H7 p (.dK (mW [] kvs))) p1 d1:=by
   refine OV.kp mOO kp (cL (Ne.symm np1)) ?_
   refine (ov1.bT (O':=OO) fun b z=>?_).mono (g5.trans (g6.trans g7))
   rcases z with z | z | z | z
   ·exact .inl (.inl (z.elim (fun w=>.inl (.inl w)) .inr))
   ·exact .inl (.inl (.inl (.inr z)))
   ·exact .inl (.inr z)
   ·exact .inr (by rw [z]; exact g5.free n2)
  have b3:OV (gx X) OO (upd H7 p (.dK (mW [] kvs))) p2 d2:=by
   refine OV.kp mOO kp (cL (Ne.symm np2)) ?_
   refine (ov2.mono g7).bT (O':=OO) fun b z=>.inl ?_
   rcases z with z | z | z | z
   ·exact .inl (z.elim (fun w=>.inl (.inl (.inl w))) .inr)
   ·exact .inl (.inl (.inl (.inr z)))
   ·exact .inl (.inl (.inr z))
   ·exact .inr z
  obtain ⟨R8,g8⟩:=R.Zc gB hp hp1 hp2 np1 np2 np3 li lj1 lj2 ij1 ij2 jj b1 b2 b3
  refine ⟨O0,M0,H0,_,_,R8,?_⟩
  rw [eq]
  intro v ow' σ' H' R9 g9 hv hfr
  obtain ⟨R10,g10⟩:=R9.forget (m':=m) hlm.symm
  refine q v _ σ' H' R10 ((g8.trans g9).trans g10) (hv.bT fun b z=>.inl (z.elim .inl fun ⟨_,e⟩=>by cases e)) fun z=>?_
  obtain ⟨p0,u1,u2,u3⟩:=hfr z
  exact ⟨p0,u1,u2,u3.bT fun b z=>.inl (z.elim (fun w=>.inl (w.elim .inl fun ⟨_,e⟩=>by cases e)) .inr)⟩
end
open PySem PySem.Spec PyProof.Rows L2 Hd
section
variable {X:Cx}{E:XK}{e:Expr}{fa:Me->Res (D×Me)}{pos apos cpos np:Pos}{x:Str}
noncomputable def pP (i:Nat)(f:Me->Res (D×Me)):Me->Res (Fl×Me):=fun m=>(ofO (j8 m i)).bind fun _=>(f m).bind fun p=>(ofO (j8 p.2 i)).bind fun o=>if o.2.length<sizeLine then .ok (.nx,putL p.2 i o.1 (o.2++[p.1])) else .stuck
theorem yQ (i:Nat)(he:FX X E e fa)(hN:X.N[i]? = some x:=by rfl)(hv:Vis X.env.scope x:=by first | exact Or.inl rfl | exact Or.inr (Or.inl rfl) | exact Or.inr (Or.inr rfl))(hd:(x == ("__debug__" : Str))=false:=by decide)(hcd:(x == ("__classdict__" : Str))=false:=by decide)
  (hbase:attributeBase (.Name x np) "append" X.env (eval (.Name x np) X.env)=eval (.Name x np) X.env:=by rfl)
  (hfew:((backTo cpos (starEach [e] X.env)).all (fun x=>!x.1) && (backToKw cpos (keywordEach [] X.env)).all (fun x=>x.1.isSome) && decide ([e].length+([]:List Keyword).length+(if ([]:List Keyword).isEmpty then 0 else 1)<30))=true:=by rfl)
  (hline:(apos.endLine == cpos.line)=true:=by rfl) (hs:starEach [e] X.env=(false,eval e X.env)::starEach [] X.env:=by rfl) (hplain:(backTo cpos (starEach [] X.env)).any (·.1)=false:=by rfl)
  (hsw:swapsWith (.Call (.Attribute (.Name x np) "append" apos) [e] [] cpos) none pos.line X.env=pure false:=by rfl):
  FS X E (.Expr (.Call (.Attribute (.Name x np) "append" apos) [e] [] cpos) pos) (pP i fa):=
 cF (rF (Jr PySem.F.plainAttrs_list PySem.F.slot_list_append PySem.F.type_list_append vH (iZ hN hv hd hcd) (jY he qQ hs) hbase hfew hline hs hplain) hsw) fun W σ H hE=>xq5 hE fun O0 M0 H0 ow m R q=>by
  obtain ⟨o,ho,q⟩:=Ss.ofO q
  obtain ⟨k,ds⟩:=o
  obtain ⟨a,xs,e1,e2,e3,e4,e5⟩:=oV R.toRel ho
  refine ⟨_,e2,.inl ⟨rfl,xs,SqL.of e3⟩,O0,M0,H0,ow,m,R,(Xs.ss (k:=fun d m'=>(ofO (j8 m' i)).bind fun o=>if o.2.length<sizeLine then .ok (.nx,putL m' i o.1 (o.2++[d])) else .stuck) q).imp (Go.refl (aK.refl _)) fun d H1 m1 R1 g1 em q v hv=>?_⟩
  have q:=q m1 em R1
  obtain ⟨o,ho,q⟩:=Ss.ofO q
  obtain ⟨k',ds'⟩:=o
  obtain ⟨a',xs',f1,f2,f3,f4,f5⟩:=oV R1.toRel ho
  rw [e1] at f1
  cases f1
  by_cases hz:ds'.length<sizeLine
  ·have q:Ss (gx X) E O0 M0 H0 ow H1 W (if ds'.length<sizeLine then .ok (.nx,putL m1 i k' (ds'++[d])) else .stuck):=q
   rw [if_pos hz] at q
   obtain ⟨R2,g2⟩:=R1.put (es:=ds'++[d]) (ys:=xs'++[v]) e1 f5 (jh f4 (.cons hv .nil))
   exact ⟨a,xs',v,rfl,rfl,f3,by rw [bN f4]; exact hz,q _ _ _ R2 g2⟩
  ·have q:Ss (gx X) E O0 M0 H0 ow H1 W (if ds'.length<sizeLine then .ok (.nx,putL m1 i k' (ds'++[d])) else .stuck):=q
   rw [if_neg hz] at q; exact q.elim
noncomputable def sZ (f:Me->Res (D×Me)):Me->Res (Fl×Me):=fun m=>(f m).bind fun p=>.ok (.rt false p.1,p.2)
theorem Eg (he:FX X E e fa):FS X E (.Return (some e) pos) (sZ fa):=cF (Cu he) fun W σ H hE=>xq5 hE fun O0 M0 H0 ow m R q=>by
 refine ⟨O0,M0,H0,ow,m,R,(Xs.ss (k:=fun d m'=>.ok (.rt false d,m')) q).imp (Go.refl (aK.refl _)) fun d H1 m1 R1 g1 e1 q v hv=>?_⟩
 exact q m1 e1 R1 v ow σ H1 R1 (Go.refl (aK.refl _)) hv fun z=>by cases z
end
end F
namespace L2
open PySem PySem.Spec PyProof.Rows
noncomputable def Itd (hi:Int)(n:Nat):It:=⟨fun i _=>i<n,fun i H x H'=>H'=H/\x=.int (hi - i),fun i _=>n<=i⟩
theorem Mg {P:Program}{w:World}{K:W.Frag}{tg:Expr}(it:Addr)(hi:Int)(n:Nat):Turn P w K tg (Itd hi n) [it] it (fun i h=>IsRangeIter h it (hi+(i:Nat) * (-1)) ((n:Int) - (i:Nat)) (-1)) where
 mem:=by simp
 obj:=fun i h st b hb=>by
  have e:b=it:=by simpa using hb
  subst e
  exact ⟨_,st,fun v z=>by
   have z':Data.fields _=Data.cell v:=z
   cases z'⟩
 keep:=fun i h h' st k=>k it (by simp) _ st
 item:=by
  intro X hP hw hK hc i pins s σ H E I hf st hg
  subst hP hw hK
  obtain ⟨f0,f1,f2,f3,f4,f5⟩:=hf it (by simp)
  have W:=Walks.range (prog:=X.prog) (w:=X.w) (I.ok.hd hc) it hi (-1) n
  refine W.item i s _ _ hg st fun v h' tk hv st' kk=>?_
  obtain ⟨t,rfl⟩:=hv
  have I1:Inv X pins σ H { s with heap:=h',toks:=tk }:=I.turned (fun b o hb e=>kk b o (by simpa using hb) e) f0 f1 f3 f4 f5
  refine ⟨_,rfl,JB (s:={ s with heap:=h',toks:=tk }) (n:="range_iterator") st' rfl rfl (by decide) ⟨.int (hi - i),H,I1,⟨t,?_⟩,⟨rfl,rfl⟩,st',fun b hb=>(hf b hb).1⟩⟩
  rw [show hi+(i:Int) * (-1)=hi - i by omega]
 done:=by
  intro X hP hw hK hc i pins s σ H E I hf st hg
  subst hP hw hK
  obtain ⟨f0,f1,f2,f3,f4,f5⟩:=hf it (by simp)
  exact wpAny_pyNext_range_end (I.ok.hd hc) st (by have:n<=i:=hg; omega) fun h' eb=>⟨rfl,I.turned (t':=s.toks) (fun b o hb e=>eb b o hb e) f0 f1 f3 f4 f5⟩
 self:=fun _ _ _ _ _ st h=>wpAny_pyIter_rangeiter st h
theorem Ak (a b:Int):Builtin.Range.rangeSize a b (-1)=((a - b).toNat:Int):=by
 unfold Builtin.Range.rangeSize
 rw [if_neg (by decide)]
 split
 ·rw [show -(-1:Int)=1 by decide,Int.ediv_one]; omega
 ·omega
theorem small_down {a b:Int}(ha:-1000000000<=a)(ha':a<=1000000000)(hb:-1000000000<=b)(hb':b<=1000000000):Builtin.Range.small a b (-1)=true:=by
 unfold Builtin.Range.small
 rw [Ak]
 simp only [Builtin.Range.rangeFitsLong,Bool.and_eq_true,Bool.or_eq_true,decide_eq_true_eq,beq_iff_eq,show ¬(-1:Int) > 0 by decide,if_false]
 omega
section
variable {X:Cx}{tg:Expr}
theorem NB {pins:List (Addr×Obj)}{σ:St}{H:Hp}{s:Shared}{R:It->Hp->Prop}{E:Value->Shared->Prop}{hi lo:Int}{t u v:Tok}{tk:Nat}(I:Inv X pins σ H s)(h1:-1000000000<=hi)(h2:hi<=1000000000)(h3:-1000000000<=lo)(h4:lo<=1000000000)
  (q:R (Itd hi (hi - lo).toNat) H):wpAny (model X.prog X.w) X.A (pyIter (.ref s.heap.objs.size)) (PIE X pins σ tg R) E { s with heap:=s.heap.push { cls:=.type "range",data:=.fields #[.int hi t,.int lo u,.int (-1) v] },toks:=tk }:=by
 refine wpAny_pyIter_range (IsRange.new ..) (small_down h1 h2 h3 h4) ?_
 have I1:Inv X pins σ H { s with heap:=s.heap.push { cls:=.type "range",data:=.fields #[.int hi t,.int lo u,.int (-1) v] },toks:=tk }:=I.kept fun b o e=>Heap.get?_push_of_some _ e
 refine ⟨(s.heap.push { cls:=.type "range",data:=.fields #[.int hi t,.int lo u,.int (-1) v] }).objs.size,[(s.heap.push { cls:=.type "range",data:=.fields #[.int hi t,.int lo u,.int (-1) v] }).objs.size],_,_,H,rfl,
  I1.kept (t':=tk) fun b o e=>Heap.get?_push_of_some _ e,Mg _ hi (hi - lo).toNat,?_,fun b hb=>?_,q⟩
 ·have e1:hi+((0:Nat):Int) * (-1)=hi:=by simp
  have e2:(((hi - lo).toNat:Nat):Int) - ((0:Nat):Int)=Builtin.Range.rangeSize hi lo (-1):=by rw [Ak]; omega
  show IsRangeIter _ _ (hi+((0:Nat):Int) * (-1)) ((((hi - lo).toNat:Nat):Int) - ((0:Nat):Int)) (-1)
  rw [e1,e2]
  exact Heap.get?_push_size _ rfl
 ·have e:b=(s.heap.push { cls:=.type "range",data:=.fields #[.int hi t,.int lo u,.int (-1) v] }).objs.size:=by simpa using hb
  subst e
  exact I1.NQ (Nat.le_refl _) (I1.hok.fresh (Nat.le_refl _))
noncomputable def Xa (ta:TA):TI:=fun σ H R=>ta σ H fun vs H1=>∃i j:Int,vs=[.int i,.int j,.int (-1)]/\(-1000000000<=i/\i<=1000000000/\-1000000000<=j/\j<=1000000000)/\R (Itd i (i - j).toNat) H1
theorem K1 {a b c:Expr}{ta:TA}{p pos:Pos}(hg:Gl X "range")(hm:X.mg "range" = none)(ha:PA X [a,b,c] ta)(hs:starEach [a,b,c] X.env=[(false,eval a X.env),(false,eval b X.env),(false,eval c X.env)]:=by rfl)(hs2:starEach [b,c] X.env=[(false,eval b X.env),(false,eval c X.env)]:=by rfl):
  PI X tg (.Call (.Name "range" p) [a,b,c] [] pos) (Xa ta):=by
 intro pins s σ H R I h
 refine Call_ (p6 I hg hm boot_range (PyProof.Rows.callWith_type1 (thn (ha pos pins s σ H _ I h) fun us s1 hE=>xq2 hE fun vs H1 I1 r1 q1=>?_) (by rw [hs,hs2]) (by rw [hs2]; rfl)))
 obtain ⟨i,j,e,⟨q1,q2,q3,q4⟩,q⟩:=q1
 subst e
 cases r1 with
 |cons r rr=>
  cases rr with
  |cons r' rr=>
   cases rr with
   |cons r'' rr=>
    cases rr
    obtain ⟨t,rfl⟩:=r
    obtain ⟨t',rfl⟩:=r'
    obtain ⟨t'',rfl⟩:=r''
    exact call_range_3 (by decide) (NB (tk:=s1.toks) I1 q1 q2 q3 q4 q) (Or.inl (PyProof.noPylong_small (by omega)))
end
end L2
namespace F
open PySem PySem.Spec PyProof.Rows L2 Hd
noncomputable def Q3 (f:Me->Res (List D)):Me->Res (List D):=fun m=>(f m).bind fun d=>match d with
 |[.int i,.int j,.int (-1)]=>if -1000000000<=i/\i<=1000000000/\-1000000000<=j/\j<=1000000000 then .ok ((List.range (i - j).toNat).map fun (k:Nat)=>D.int (i - k)) else .stuck
 |_=>.stuck
theorem S8 {G:Gx}{hi:Int}{n:Nat}{P:(Addr->Prop)->Hp->Prop}:yw G (Itd hi n) ((List.range n).map fun (k:Nat)=>D.int (hi - k)) P:=by
 intro O H _
 refine ⟨fun i hi=>(show i<n by simpa using hi),fun i x H' hi y=>?_,by show n<=_; simp⟩
 obtain ⟨e,y⟩:=y
 subst e y
 have hi':i<n:=by simpa using hi
 exact ⟨aK.refl _,_,by simp [List.getElem?_map,List.getElem?_range hi'],.int _⟩
section
variable {X:Cx}{E:XK}{tg e a b c:Expr}{f:Me->Res D}{fs:Me->Res (List D)}{fa:Me->Res (D×Me)}{p pos:Pos}
theorem RK (hg:Gl X "range")(hm:X.mg "range" = none)(ha:FAB X E [a,b,c] fs)(hs:starEach [a,b,c] X.env=[(false,eval a X.env),(false,eval b X.env),(false,eval c X.env)]:=by rfl)(hs2:starEach [b,c] X.env=[(false,eval b X.env),(false,eval c X.env)]:=by rfl):FI X E tg (.Call (.Name "range" p) [a,b,c] [] pos) (Q3 fs):=
 oK (K1 hg hm ha hs hs2) fun σ H R hE=>xq5 hE fun O0 M0 H0 ow m Re q=>⟨O0,M0,H0,ow,m,Re,q.bind.imp (aK.refl _) fun ds q vs H' g hv=>by
  match ds,vs,hv,q with
  |[.int i,.int j,.int (-1)],_,.cons h1 (.cons h2 (.cons h3 .nil)),q=>
   cases cB h1
   cases cB h2
   cases cB h3
   obtain ⟨⟨z1,z2,z3,z4⟩,k⟩:=yW q
   exact ⟨i,j,rfl,⟨z1,z2,z3,z4⟩,k _ H' g S8⟩⟩
noncomputable def qw:Me->Res (Fl×Me):=fun _=>.stuck
theorem mG {st:Stmt}:FS X E st qw:=fun _ _ _ _ _ _ ⟨_,_,_,_,_,_,z⟩=>z.elim
noncomputable def Fw (f:Me->Res (D×Me))(h:D->Me->Option Me):Me->Res (Fl×Me):=fun m=>(f m).bind fun p=>(ofO (h p.1 p.2)).bind fun m'=>.ok (.nx,m')
theorem Td {k:Nat}{h:D->Me->Option Me}(he:FX X E e fa)(hg:FG X k tg h)(hs:swapsWithSole [tg] e pos.line X.env=pure false:=by rfl)(hw:swappedStores [tg] e X.env=pure none:=by rfl)
  (h1:(assignEach [tg] X.env).map (·.2)=[assign tg X.env]:=by rfl):FS X E (.Assign [tg] e pos) (Fw fa h):=cF (Gy he hg hs hw h1) fun W σ H hE=>xq5 hE fun O0 M0 H0 ow m R q=>by
 refine ⟨O0,M0,H0,ow,m,R,(Xs.ss (k:=fun d m'=>(ofO (h d m')).bind fun m'=>.ok (.nx,m')) q).imp (Go.refl (aK.refl _)) fun d H1 m1 R1 g1 e1 q v hv=>?_⟩
 obtain ⟨m',e,q⟩:=Ss.ofO (q m1 e1 R1)
 exact ⟨O0,M0,H0,ow,m1,d,m',R1.toRel,hv,e,fun ow' σ' R' g2 nb _=>q _ _ _ ⟨R',nb R1.nb⟩ g2⟩
variable {x:Str}{np apos cpos:Pos}
noncomputable def Et (i:Nat):Me->Res (D×Me):=fun m=>(ofO (j8 m i)).bind fun o=>(ofO (o.2[o.2.length - 1]?)).bind fun d=>.ok (d,putL m i o.1 o.2.dropLast)
theorem We (i:Nat)(hN:X.N[i]? = some x:=by rfl)(hv:Vis X.env.scope x:=by first | exact Or.inl rfl | exact Or.inr (Or.inl rfl) | exact Or.inr (Or.inr rfl))(hd:(x == ("__debug__" : Str))=false:=by decide)(hcd:(x == ("__classdict__" : Str))=false:=by decide)
  (hbase:attributeBase (.Name x np) "pop" X.env (eval (.Name x np) X.env)=eval (.Name x np) X.env:=by rfl) (hline:(apos.endLine == cpos.line)=true:=by rfl):
  FX X E (.Call (.Attribute (.Name x np) "pop" apos) [] [] cpos) (Et i):=
 bx (Dl PySem.F.plainAttrs_list PySem.F.slot_list_pop PySem.F.type_list_pop Ph (iZ hN hv hd hcd) hbase hline) fun σ H Q hE=>xq5 hE fun O0 M0 H0 ow m R q=>by
  obtain ⟨o,ho,q⟩:=(Xs.pu R.toRel q).ofO
  obtain ⟨k,ds⟩:=o
  obtain ⟨d,hd',q⟩:=(Xs.pu R.toRel q).ofO
  obtain ⟨a,xs,e1,e2,e3,e4,e5⟩:=oV R.toRel ho
  obtain ⟨v,hv,dv⟩:=ud e4 hd'
  obtain ⟨R2,g2⟩:=R.put (es:=ds.dropLast) (ys:=xs.dropLast) e1 e5 (uI e4)
  have dv2:=dv.go R.mutk g2.ev
  exact ⟨_,e2,.inl ⟨rfl,xs,SqL.of e3⟩,a,xs,v,rfl,rfl,e3,by rw [bN e4]; exact hv,q _ R2 g2 _ dv2⟩
end
noncomputable def J8 (i:Nat)(fk fv:Me->Res D):Me->Res (D×Me):=fun m=>(ofO (wW m i)).bind fun o=>(fk m).bind fun k=>(fv m).bind fun d=>(ofO (rn k)).bind fun k=>
 if o.2.1.length<sizeLine then .ok (match cA o.2.1 o.2.2 k with | some d'=>(d',m) | none=>(d,oN m i o.1 (o.2.1++[k]) (o.2.2++[d]))) else .stuck
section
variable {X:Cx}{E:XK}{e ke:Expr}{f fk:Me->Res D}{pos np apos cpos:Pos}{x:Str}
theorem UJ {jj:Nat}(i:Nat)(hr:ig jj X.A)(hk:FE X E ke fk)(he:FE X E e f)(hm:M2 X (.Name x np) "setdefault" apos ke e cpos)(hN:X.N[i]? = some x:=by rfl)(hv:Vis X.env.scope x:=by first | exact Or.inl rfl | exact Or.inr (Or.inl rfl) | exact Or.inr (Or.inr rfl))(hd:(x == ("__debug__" : Str))=false:=by decide)(hcd:(x == ("__classdict__" : Str))=false:=by decide):
  FX X E (.Call (.Attribute (.Name x np) "setdefault" apos) [ke,e] [] cpos) (J8 i fk f):=
 bx (Pj (jO hr) (iZ hN hv hd hcd) hk he hm) fun σ H Q hE=>xq5 hE fun O0 M0 H0 ow m R q=>by
  obtain ⟨o,ho,q⟩:=(Xs.pu R.toRel q).ofO
  obtain ⟨k,ks,ds⟩:=o
  obtain ⟨a,kvs,e1,e2,e3,e4,e5,e6⟩:=Bk R.toRel ho
  refine ⟨_,e2,a,rfl,.inr ⟨kvs,.inl e3⟩,O0,M0,H0,ow,m,R.toRel,(Xs.pu R.toRel q).imp (aK.refl _) fun dk q vk H1 g1 hvk=>?_⟩
  have R1:=R.mono g1
  refine ⟨O0,M0,H0,ow,m,R1.toRel,(Xs.pu R.toRel q).imp g1 fun d q v H2 g2 hv=>?_⟩
  have R2:=R1.mono g2
  obtain ⟨ky,h1,q⟩:=(Xs.pu R.toRel q).ofO
  obtain ⟨b,rfl,hb⟩:=qp (.inl (hvk.mono g2)) h1
  have e3':=g2 _ _ (g1 _ _ e3)
  have e5':=(e5.mono g1).mono g2
  by_cases hz:ks.length<sizeLine
  ·rw [if_pos hz] at q
   rcases xu (k:=ky) e5' with ⟨v',d',va,vb,dv⟩ | ⟨va,vb⟩
   ·rw [e4] at vb
    have q':=q
    rw [vb] at q'
    refine ⟨kvs,ky,b,e3',rfl,hb,by rw [← List.length_map (f:=(·.1)),e4]; exact hz,fun w ev=>?_,fun ev=>?_⟩
    ·rw [va] at ev; cases ev
     exact q' _ R2 (Go.refl (g1.trans g2)) _ dv
    ·rw [va] at ev; cases ev
   ·rw [e4] at vb
    have q':=q
    rw [vb] at q'
    refine ⟨kvs,ky,b,e3',rfl,hb,by rw [← List.length_map (f:=(·.1)),e4]; exact hz,fun w ev=>?_,fun ev=>?_⟩
    ·rw [va] at ev; cases ev
    ·obtain ⟨R3,g3⟩:=R2.oN (ls:=ks++[ky]) (es:=ds++[d]) (kvs:=kvs++[(ky,v)]) e1 e6 (by simp [e4]) (by rw [List.map_append]; exact jh e5' (.cons hv .nil))
     exact q' _ R3 ((Go.refl (g1.trans g2)).trans g3) _ (hv.go R2.mutk g3.ev)
  ·rw [if_neg hz] at q; exact q.elim
theorem Rq:seqRepeat? (.type "int")=pure none:=by
 have e:typeLookup (.type "int") ("__mul__" : Str)=pure (some (.builtin "int.__mul__")):=PySem.F.slot_int_mul.lookup
 have e2:typeLookup (.type "int") ("__rmul__" : Str)=pure (some (.builtin "int.__rmul__")):=PySem.F.slot_int_rmul.lookup
 have s1:seqSlot? (.type "int") ("__mul__" : Str)=pure none:=by unfold seqSlot?; rw [e,pure_bind,if_pos (by decide +kernel)]
 have s2:seqSlot? (.type "int") ("__rmul__" : Str)=pure none:=by unfold seqSlot?; rw [e2,pure_bind,if_pos (by decide +kernel)]
 unfold seqRepeat?
 rw [s1,s2]
 rfl
theorem KC {prog:Program}{w:World}{A:Around}{E:Value->Shared->Prop}{s:Shared}{x:Str}{n:Int}{t u:Tok}{Q:Value->Shared->Prop}(hok:MulOk x n)(h:∀t' k,Q (.str (Txt.mul x n) t') { s with toks:=k }):
  wpAny (model prog w) A (binaryOp .Mult (.int n u) (.str x t)) Q E s:=by
 have post:(if n<1 then Made.str Str.empty else if (n == 1 || x.length == 0)=true then Made.val (.str x t) else Made.str ⟨(List.replicate n.toNat x.cps).foldl (· ++ ·) #[]⟩).post Q s:=by
  unfold Txt.mul at h
  by_cases h1:n<1
  ·rw [if_pos h1]; have h':=h s.toks (s.toks+1); rw [if_pos h1] at h'; exact ⟨by decide,h'⟩
  ·rw [if_neg h1]; refine post_val_or_made (fun hc=>fits_reps (hok.2.2 h1 (by simpa using hc))) fun t' k=>?_
   have h':=h t' k; rw [if_neg h1] at h'; exact h'
 unfold binaryOp
 refine wpAny_holding ?_
 refine wpAny_bind ?_
 simp only [Operator.info,binaryOp1]
 refine wpAny_bind (wpAny_typeOf (typeIs_int s n u) (wpAny_bind (wpAny_typeOf (typeIs_str s x t) (wpAny_bind (wpAny_of_eq PySem.F.fills_int_mul ?_)))))
 simp only [show (Value.type "int" == Value.type "str")=false by decide,Bool.false_eq_true,if_false]
 refine wpAny_bind (wpAny_of_eq noFill_str_mul ?_)
 simp only [pure_bind,Bool.true_and,Bool.false_and,Bool.and_false,Bool.false_eq_true,if_false,if_true,Bool.not_false,Bool.and_self]
 refine wpAny_bind (wpAny_tryMethod_declines (typeIs_int s n u) PySem.F.slot_int_mul (call_gives PySem.F.slot_int_mul (typeIs_int s n u) PySem.F.entry_int_mul (PySem.F.args_int_mul_2 _ _) (AutoIntG3.int___mul___int_str_0 n u x t) ?_))
 refine ⟨rfl,?_⟩
 refine wpAny_pure ?_
 refine wpAny_bind (wpAny_typeOf (typeIs_int s n u) ?_)
 refine wpAny_bind (wpAny_of_eq Rq ?_)
 refine wpAny_bind (wpAny_typeOf (typeIs_str s x t) ?_)
 refine wpAny_bind (wpAny_of_eq repeat_str ?_)
 unfold sequenceRepeat
 refine wpAny_bind (wpAny_specialOf (typeIs_int s n u) PySem.F.slot_int_index.lookup ?_)
 refine wpAny_bind (wpAny_rule ?_)
 exact call_gives PySem.F.slot_str_mul (typeIs_str s x t) PySem.F.entry_str_mul (PySem.F.args_str_mul_2 _ _) (gives_str_mul x n t u hok.1 hok.2.1 hok.2.2) post
noncomputable def P0:D->D->Option D
 | .int n,.str z=>if 0<=n/\n<=1000/\z.length<=1000 then some (.str (Txt.mul z n)) else none
 |_,_=>none
theorem Nu:OpR X (binaryOp .Mult) (rG (gx X) P0):=by
 intro pins s σ H x y v u Q I rx ry h
 obtain ⟨O,d,e,r,m,hx,hy,hr,q⟩:=h
 match d,e,hr with
 | .int n,.str z,hr=>
  obtain ⟨⟨h0,h1,hz⟩,rfl⟩:=oif hr
  cases cB hx
  cases lC hy
  obtain ⟨t,rfl⟩:=rx
  obtain ⟨t2,rfl⟩:=ry
  exact KC (mulOk_of h0 h1 hz) fun t' k=>Kg (tk:=k) I q
end
end F
namespace L2
open PySem PySem.Spec PyProof.Rows
theorem KD (its:List Value):slicePick its.toArray none none (some (-1))=its.reverse.toArray:=by
 unfold slicePick
 have h:sliceBounds none none (some (-1)) its.toArray.size=((its.length:Int) - 1,-1,-1):=by simp [sliceBounds]
 rw [h]
 congr 1
 have hr:sliceRange ((its.length:Int) - 1) (-1) (-1)=(List.range its.length).map fun (k:Nat)=>its.length - 1 - k:=by
  unfold sliceRange
  rw [if_neg (by decide)]
  have hc:(if (its.length:Int) - 1 > -1 then ((its.length:Int) - 1 - -1 - -1 - 1) / (- -1) else 0).toNat=its.length:=by
   rw [show (- -1:Int)=1 by decide,Int.ediv_one]
   split <;> omega
  show (List.range (if (its.length:Int) - 1 > -1 then ((its.length:Int) - 1 - -1 - -1 - 1) / (- -1) else 0).toNat).map _=_
  rw [hc]
  refine List.map_congr_left fun k _=>?_
  omega
 show List.filterMap _ (sliceRange ((its.length:Int) - 1) (-1) (-1))=_
 rw [hr,List.filterMap_map]
 apply List.ext_getElem?
 intro i
 have e:∀l:List Nat,(∀k∈l,k<its.length)->l.filterMap ((fun k=>its.toArray[k]?) ∘ fun (k:Nat)=>its.length - 1 - k)=l.map fun k=>its.getD (its.length - 1 - k) .none:=by
  intro l hl
  induction l with
  |nil=>rfl
  |cons k l ih=>
   have hk:=hl k (List.mem_cons_self ..)
   have e1:((fun k=>its.toArray[k]?) ∘ fun (k:Nat)=>its.length - 1 - k) k=some (its.getD (its.length - 1 - k) .none):=by
    simp [List.getD_eq_getElem?_getD,List.getElem?_eq_getElem (show its.length - 1 - k<its.length by omega)]
   rw [List.filterMap_cons_some e1,List.map_cons,ih fun j hj=>hl j (List.mem_cons_of_mem _ hj)]
 rw [e _ (fun k hk=>by simpa using hk),List.getElem?_map]
 by_cases hi:i<its.length
 ·rw [List.getElem?_range hi,List.getElem?_reverse hi]
  simp [List.getD_eq_getElem?_getD,List.getElem?_eq_getElem (show its.length - 1 - i<its.length by omega)]
 ·rw [List.getElem?_eq_none (by simp; omega),List.getElem?_eq_none (by simp; omega)]
  rfl
section
variable {X:Cx}{e st:Expr}{te:TE}{tst:TO}{p2 pos:Pos}
noncomputable def tDn (K:W.Frag)(te:TE)(tst:TO):TE:=fun σ H Q=>te σ H fun x H1=>tst σ H1 fun k H2=>k=some (-1)/\∃a xs,x=.ref a/\SqL K H2 a xs/\∀p,H2 p=none->Q (.ref p) (upd H2 p (.lst xs.reverse))
theorem Yr (he:PE X e te)(hst:PO X (some st) tst):PE X (.Subscript e (.Slice none none (some st) p2) pos) (tDn X.K te tst):=by
 intro pins s σ H Q I h
 refine Subscript_ (thn (he pins s σ H _ I h) fun v s1 hE=>xq2 hE fun x H1 I1 r1 q1=>?_)
 refine wpAny_Slice ?_
 rw [evalPart_none]
 refine wpAny_pure ?_
 refine wpAny_pure ?_
 refine thn (hst pins s1 σ H1 _ I1 q1) fun vk s3 ⟨k,H3,I3,pk,q3⟩=>?_
 obtain ⟨rfl,a,xs,rfl,hx,q⟩:=q3
 cases r1
 have I4:Inv X pins σ H3 { s3 with heap:=s3.heap.push { cls:=.type "slice",data:=.fields #[.none,.none,vk] } }:=I3.kept (t':=s3.toks) fun b ob q=>Heap.get?_push_of_some _ q
 obtain ⟨its,r,ht,hz⟩:=I4.list hx
 have hlen:=r.length
 have hg:wpAny (model X.prog X.w) X.A (getItem (.ref a) (.ref s3.heap.objs.size)) (EP X pins σ Q) X.xe { s3 with heap:=s3.heap.push { cls:=.type "slice",data:=.fields #[.none,.none,vk] } }:=by
  refine wpAny_getItem_list_slice ht.isList (Heap.IsSliceOf.new ..) .none .none pk (by decide) ?_ (by rw [List.size_toArray] <;> omega)
  rw [KD]
  refine ⟨.ref _,_,I4.laid (t':=s3.toks) (o:=.lst xs.reverse) (fun b ob q=>Heap.get?_push_of_some _ q) (Nat.le_refl _) ?_,rfl,q _ (I4.hok.fresh (Nat.le_refl _))⟩
  exact ⟨by rw [List.length_reverse]; exact hz,_,0,r.reverse,Heap.get?_push_size _ rfl⟩
 show wpAny (model X.prog X.w) X.A (subscriptTail e (.Slice none none (some st) p2) (.ref a) (.ref s3.heap.objs.size)) (EP X pins σ Q) X.xe { s3 with heap:=s3.heap.push { cls:=.type "slice",data:=.fields #[.none,.none,vk] } }
 exact tail_any (ops:=[.ref a,.ref s3.heap.objs.size]) ht.isList.typeIs slot_list_getitem.lookup hg (by with_unfolding_all rfl)
end
end L2
namespace F
open PySem PySem.Spec PyProof.Rows L2 Hd
section
variable {X:Cx}{E:XK}{e st:Expr}{f:Me->Res D}{fk:Me->Res (Option Int)}{p2 pos:Pos}
noncomputable def QV (f:Me->Res D)(fk:Me->Res (Option Int)):Me->Res D:=fun m=>(f m).bind fun d=>(fk m).bind fun k=>match d,k with
 | .lst ds,some (-1)=>.ok (.lst ds.reverse)
 |_,_=>.stuck
theorem Vt (he:FB X E e f)(hk:FO X E (some st) fk):FN X E (.Subscript e (.Slice none none (some st) p2) pos) (QV f fk):=
 bx (Yr he hk) fun σ H Q hE=>xq5 hE fun O0 M0 H0 ow m R q=>⟨O0,M0,H0,ow,m,R,q.bind.imp (aK.refl _) fun d q v H1 g1 hv=>⟨O0,M0,H0,ow,m,R.mono g1,q.bind.imp g1 fun k q H2 g2=>by
  match d,k,hv,q with
  | .lst ds,some (-1),hv,q=>
   obtain ⟨p,xs,rfl,hp,hd⟩:=iY (hv.mono g2)
   exact ⟨rfl,p,xs,rfl,hp,fun p hp'=>q p _ ((g1.trans g2).trans (bJ hp' _)) ((g1.trans g2).free hp') ⟨_,aZ,((Ay hd).bT fun b z=>z.elim .inl fun e=>.inr (by rw [e]; exact hp')).mono (bJ hp' _)⟩⟩⟩⟩
end
end F
namespace Pk
open PySem L2 Hd F
noncomputable section
noncomputable def ju : Me → Res Bool :=
 (aM gNe (aa 3) (fC (.int 0)))
noncomputable def jC : Me → Res (Fl × Me) :=
 (aL (bC 4 (au bQ (aa 2) (aa 3)))
 (aL (bC 2 (aJ 3))
 (bC 3 (aJ 4))))
noncomputable def nW : Me → Res (Fl × Me) :=
 (ou ju jC)
noncomputable def kI (l_3 : Me → Res (Fl × Me)) : Me → Res (Fl × Me) :=
 (aL (bC 2 (aQ Gf (aj (aa 0) aB)))
 (aL (bC 3 (aQ Gf (aj (aa 1) aB)))
 (aL l_3
 (bU (aJ 2)))))
noncomputable def kO : Me → Res (Fl × Me) :=
 (kI nW)
noncomputable def gj:List D->Res (Bool×D):=bf 5 2 kO
noncomputable def vp (φ_common_divisor : List D → Res (Bool × D)) : Me → Res (Fl × Me) :=
 (aL (bC 2 (fFn φ_common_divisor (aj (aJ 0) (aj (aJ 1) aB))))
 (aL (gIf (aM gLt (aa 1) (fC (.int 0))) (bC 2 (fUn rE (aa 2))) gNx)
 (bU (bz (aj (au eY (aa 0) (aa 2)) (aj (au eY (aa 1) (aa 2)) aB))))))
noncomputable def uD : Me → Res (Fl × Me) :=
 (vp gj)
noncomputable def nQ:List D->Res (Bool×D):=bf 3 2 uD
noncomputable def Gr (φ_lowest : List D → Res (Bool × D)) : Me → Res (Fl × Me) :=
 (bU (fFn φ_lowest (aj (au cC (au mV (au gIx (aa 0) (fC (.int 0))) (au gIx (aa 1) (fC (.int 1)))) (au mV (au gIx (aa 1) (fC (.int 0))) (au gIx (aa 0) (fC (.int 1))))) (aj (au mV (au gIx (aa 0) (fC (.int 1))) (au gIx (aa 1) (fC (.int 1)))) aB))))
noncomputable def Hc : Me → Res (Fl × Me) :=
 (Gr nQ)
noncomputable def yt:List D->Res (Bool×D):=bf 2 2 Hc
noncomputable def Ds : Me → Res (Fl × Me) :=
 (bU (rZ gLt (au mV (au gIx (aa 0) (fC (.int 0))) (au gIx (aa 1) (fC (.int 1)))) (au mV (au gIx (aa 1) (fC (.int 0))) (au gIx (aa 0) (fC (.int 1))))))
noncomputable def CJ : Me → Res (Fl × Me) :=
 Ds
noncomputable def vq:List D->Res (Bool×D):=bf 2 2 CJ
noncomputable def wj : Me → Res (Fl × Me) :=
 (bC 1 (fFn yt (aj (aJ 1) (aj (aJ 2) aB))))
noncomputable def zU : Me → Res (Fl × Me) :=
 (iQ (gH (aJ 0)) (hName 2) wj)
noncomputable def Aw (l_2 : Me → Res (Fl × Me)) : Me → Res (Fl × Me) :=
 (aL (bC 1 (fC (.tup [(.int 0), (.int 1)])))
 (aL l_2
 (bU (aJ 1))))
noncomputable def Bx : Me → Res (Fl × Me) :=
 (Aw zU)
noncomputable def ux:List D->Res (Bool×D):=bf 3 1 Bx
noncomputable def m6 : Me → Res D :=
 (du 2 [] (pK (au gIx (aa 0) (fUn rE (fC (.int 1))))) (iw 2 (aX (hName 0) (aX (hName 1) iH))) jq (aJ 1))
noncomputable def gM (l_1 : Me → Res D) : Me → Res (Fl × Me) :=
 (aL (gIf (aM gEq (au gIx (aa 0) (fC (.int 0))) (fC (.str "end"))) (iV (fV aB)) gNx)
 (iV l_1))
noncomputable def sI : Me → Res (Fl × Me) :=
 (gM m6)
noncomputable def fD:List D->Res (Bool×D):=bf 1 1 sI
noncomputable def o6 : Me → Res D :=
 (bz (aj (au cC (au gIx (aa 2) (fC (.int 0))) (bz (aj (aJ 0) aB))) (aj (aJ 1) aB)))
noncomputable def lK : Me → Res D :=
 (du 2 [3] (U8 (aj (fFn fD (aj (au gIx (aa 3) (fC (.int 1))) aB)) aB)) (iw 2 (aX (hName 0) (aX (hName 1) iH))) jq o6)
noncomputable def lW : Me → Res Bool :=
 (aM gGt (aQ ie (aj (aa 2) aB)) (fC (.int 0)))
noncomputable def lJ : Me → Res (Fl × Me) :=
 (aL (Dn 3 2)
 (aL (cP 1 (aJ 3))
 (aL (bC 4 lK)
 (Ce 2 (aQ Mr (aj (aa 4) aB))))))
noncomputable def zF : Me → Res (Fl × Me) :=
 (ou lW lJ)
noncomputable def oH (l_5 : Me → Res (Fl × Me)) : Me → Res (Fl × Me) :=
 (aL (eX 1 (fV aB))
 (aL (eX 2 (fV (aj (bz (aj (bz aB) (aj (aJ 0) aB))) aB)))
 (aL l_5
 (qF 1))))
noncomputable def wG : Me → Res (Fl × Me) :=
 (oH zF)
noncomputable def dI:List D->Res (Bool×D):=bf 5 1 wG
noncomputable def qx : Me → Res D :=
 (du 2 [] (pK (au gIx (aa 0) (fC (.int 3)))) (iw 2 (aX (hName 0) (aX (hName 1) iH))) jq (aJ 0))
noncomputable def tW (l_1 : Me → Res D) : Me → Res (Fl × Me) :=
 (bU (aQ jZ (aj l_1 aB)))
noncomputable def tV : Me → Res (Fl × Me) :=
 (tW qx)
noncomputable def nZ:List D->Res (Bool×D):=bf 1 1 tV
noncomputable def fP : Me → Res (Fl × Me) :=
 (aL (gIf (aM gNe (au gIx (aa 0) (fC (.int 0))) (fC (.str "move"))) (bU (aJ 1)) gNx)
 (aL (bC 3 (bz (aj (au gIx (aa 0) (fC (.int 2))) (aj (au gIx (au gIx (au gIx (aa 0) (fC (.int 3))) (aa 2)) (fC (.int 0))) aB))))
 (aL (gIf (aM gEq (au gIx (aa 0) (fC (.int 1))) (fC (.int 1))) (bU (bz (aj (au cC (au gIx (aa 1) (fC (.int 0))) (bz (aj (aJ 3) aB))) (aj (au gIx (aa 1) (fC (.int 1))) aB)))) gNx)
 (bU (bz (aj (au gIx (aa 1) (fC (.int 0))) (aj (au cC (au gIx (aa 1) (fC (.int 1))) (bz (aj (aJ 3) aB))) aB)))))))
noncomputable def fW : Me → Res (Fl × Me) :=
 fP
noncomputable def cZ:List D->Res (Bool×D):=bf 4 3 fW
noncomputable def cM : Me → Res (Fl × Me) :=
 (Af 1 (au cC (aa 3) (bz (aj (aJ 5) aB))) (fFn cZ (aj (aJ 4) (aj (au uQ (aa 1) (aa 3)) (aj (aJ 5) aB)))))
noncomputable def fQ : Me → Res (Fl × Me) :=
 (iQ (wB (aj (aQ ie (aj (fFn fD (aj (aJ 4) aB)) aB)) aB)) (hName 5) cM)
noncomputable def aR : Me → Res (Fl × Me) :=
 (aL (cP 2 (bz (aj (aJ 3) (aj (aJ 4) (aj (au uQ (aa 1) (aa 3)) aB)))))
 fQ)
noncomputable def jG : Me → Res (Fl × Me) :=
 (iQ (gH (fFn dI (aj (aJ 0) aB))) (iw 2 (aX (hName 3) (aX (hName 4) iH))) aR)
noncomputable def eE (l_4 : Me → Res (Fl × Me)) : Me → Res (Fl × Me) :=
 (aL (eX 1 (Hh (bz aB) (bz (aj (bz aB) (aj (bz aB) aB)))))
 (aL (eX 2 (fV aB))
 (aL l_4
 (qF 2))))
noncomputable def km : Me → Res (Fl × Me) :=
 (eE jG)
noncomputable def bG:List D->Res (Bool×D):=bf 6 1 km
noncomputable def vg (φ_words_at : List D → Res (Bool × D)) : Me → Res (Fl × Me) :=
 (bU (bz (aj (au gIx (aa 0) (fC (.int 1))) (aj (au gIx (aa 0) (fC (.int 2))) (aj (fFn φ_words_at (aj (aJ 0) aB)) (aj (au gIx (aa 1) (au eN (au gIx (aa 0) (fC (.int 1))) (fC (.int 1)))) aB))))))
noncomputable def uy : Me → Res (Fl × Me) :=
 (vg nZ)
noncomputable def mq:List D->Res (Bool×D):=bf 2 2 uy
noncomputable def gC : Me → Res (Fl × Me) :=
 (gIf (aM gEq (au gIx (aa 3) (fC (.int 0))) (fC (.str "move"))) (S7 1 (bz (aj (au gIx (aa 3) (fC (.int 1))) (aj (au gIx (aa 3) (fC (.int 2))) aB))) (fFn mq (aj (aJ 3) (aj (aJ 4) aB)))) gNx)
noncomputable def vy : Me → Res (Fl × Me) :=
 (iQ (gH (fFn bG (aj (aJ 0) aB))) (iw 3 (aX (hName 2) (aX (hName 3) (aX (hName 4) iH)))) gC)
noncomputable def qj (l_2 : Me → Res (Fl × Me)) : Me → Res (Fl × Me) :=
 (aL (eX 1 wA)
 (aL l_2
 (iV (Hk (aa 1)))))
noncomputable def yg : Me → Res (Fl × Me) :=
 (qj vy)
noncomputable def lG:List D->Res (Bool×D):=bf 5 1 yg
noncomputable def qY : Me → Res D :=
 (du 1 [1] (gH (fFn lG (aj (aJ 0) aB))) (hName 0) (aM gEq (au gIx (aa 0) (fC (.int 0))) (aa 1)) (aJ 0))
noncomputable def v7 (l_1 : Me → Res D) : Me → Res (Fl × Me) :=
 (iV l_1)
noncomputable def vB : Me → Res (Fl × Me) :=
 (v7 qY)
noncomputable def pJ:List D->Res (Bool×D):=bf 2 2 vB
noncomputable def mX : Me → Res D :=
 (aQ ie (aj (au gIx (aa 0) (fC (.int 2))) aB))
noncomputable def m7 : Me → Res D :=
 (du 1 [] (gH (aa 0)) (hName 0) jq mX)
noncomputable def oZ (l_2 : Me → Res D) : Me → Res (Fl × Me) :=
 (bU (aQ M9 (aj l_2 aB)))
noncomputable def pH : Me → Res (Fl × Me) :=
 (oZ m7)
noncomputable def jc:List D->Res (Bool×D):=bf 1 1 pH
noncomputable def lu : Me → Res D :=
 (du 2 [] (pK (au gIx (aa 0) (fC (.int 2)))) (iw 2 (aX (hName 0) (aX (hName 1) iH))) jq (aJ 0))
noncomputable def iD (l_1 : Me → Res D) : Me → Res (Fl × Me) :=
 (aL (gIf (aM gEq (au gIx (aa 0) (fC (.int 0))) (fC (.str "end"))) (iV (fV (aj (au gIx (aa 0) (fC (.int 1))) aB))) gNx)
 (aL (gIf (aM gEq (au gIx (aa 0) (fC (.int 0))) (fC (.str "deal"))) (iV l_1) gNx)
 (iV (fV aB))))
noncomputable def ik : Me → Res (Fl × Me) :=
 (iD lu)
noncomputable def bR:List D->Res (Bool×D):=bf 1 1 ik
noncomputable def tH : Me → Res (Fl × Me) :=
 (bU (fOr (rZ gGt (aQ Gf (aj (au gIx (aa 0) (fC (.int 0))) aB)) (fC (.int 999999999999))) (rZ gGt (au gIx (aa 0) (fC (.int 1))) (fC (.int 999)))))
noncomputable def uo : Me → Res (Fl × Me) :=
 tH
noncomputable def oh:List D->Res (Bool×D):=bf 1 1 uo
noncomputable def fY : Me → Res D :=
 (rZ gGt (aQ ie (aj (aa 0) aB)) (fC (.int 12)))
noncomputable def gh : Me → Res D :=
 (du 2 [] (gH (aa 1)) (iw 2 (aX (hName 0) (aX (hName 1) iH))) jq fY)
noncomputable def gW (φ_places_of : List D → Res (Bool × D)) (l_2 : Me → Res D) : Me → Res (Fl × Me) :=
 (aL (bC 1 (fFn φ_places_of (aj (aJ 0) aB)))
 (aL (gIf (aM gGt (aQ ie (aj (aa 1) aB)) (fC (.int 64))) qw gNx)
 (gIf (fTv (aQ Rn (aj l_2 aB))) qw gNx)))
noncomputable def gQ : Me → Res (Fl × Me) :=
 (gW dI gh)
noncomputable def cW:List D->Res (Bool×D):=bf 2 1 gQ
noncomputable def dH : Me → Res (Fl × Me) :=
 (aL (bC 2 (fFn pJ (aj (aJ 0) (aj (aJ 1) aB))))
 (aL (gIf (aM gGt (aQ ie (aj (aa 2) aB)) (fC (.int 8))) qw gNx)
 (gIf (aM gGt (fFn jc (aj (aJ 2) aB)) (fC (.int 24))) qw gNx)))
noncomputable def gF : Me → Res (Fl × Me) :=
 (iQ (pK (bz (aj (fC (.int 1)) (aj (fC (.int 2)) aB)))) (hName 1) dH)
noncomputable def iK (l_2 : Me → Res (Fl × Me)) : Me → Res (Fl × Me) :=
 l_2
noncomputable def iC : Me → Res (Fl × Me) :=
 (iK gF)
noncomputable def dq:List D->Res (Bool×D):=bf 3 1 iC
noncomputable def iI (φ_refuse_great_places : List D → Res (Bool × D)) (φ_refuse_great_table : List D → Res (Bool × D)) : Me → Res (Fl × Me) :=
 (aL (gEx (fFn φ_refuse_great_places (aj (aJ 0) aB)))
 (gEx (fFn φ_refuse_great_table (aj (aJ 0) aB))))
noncomputable def iu : Me → Res (Fl × Me) :=
 (iI cW dq)
noncomputable def dm:List D->Res (Bool×D):=bf 1 1 iu
noncomputable def dU : Me → Res D :=
 (fFn oh (aj (aJ 0) aB))
noncomputable def dY : Me → Res D :=
 (du 1 [] (gH (fFn bR (aj (aJ 2) aB))) (hName 0) jq dU)
noncomputable def cg : Me → Res (Fl × Me) :=
 (gIf (fTv (aQ Rn (aj dY aB))) qw gNx)
noncomputable def dW : Me → Res (Fl × Me) :=
 (iQ (gH (fFn dI (aj (aJ 0) aB))) (iw 2 (aX (hName 1) (aX (hName 2) iH))) cg)
noncomputable def fL (l_4 : Me → Res (Fl × Me)) : Me → Res (Fl × Me) :=
 l_4
noncomputable def fG : Me → Res (Fl × Me) :=
 (fL dW)
noncomputable def cI:List D->Res (Bool×D):=bf 3 1 fG
noncomputable def nH : Me → Res D :=
 (fFn vq (aj (fC (.tup [(.int 0), (.int 1)])) (aj (aJ 0) aB)))
noncomputable def nY : Me → Res D :=
 (du 1 [] (gH (aa 0)) (hName 0) jq nH)
noncomputable def qg (φ_total : List D → Res (Bool × D)) (l_2 : Me → Res D) : Me → Res (Fl × Me) :=
 (bU (Wx (aQ TQ (aj l_2 aB)) (rZ gEq (fFn φ_total (aj (aJ 0) aB)) (fC (.tup [(.int 1), (.int 1)])))))
noncomputable def qt : Me → Res (Fl × Me) :=
 (qg ux nY)
noncomputable def jM:List D->Res (Bool×D):=bf 1 1 qt
noncomputable def jo : Me → Res (Fl × Me) :=
 (aL (gIf (aM gNe (au gIx (aa 1) (fC (.int 2))) (au gIx (aa 3) (fC (.int 2)))) qw gNx)
 (gIf (aM gNe (au gIx (aa 1) (fC (.int 3))) (au gIx (aa 3) (fC (.int 3)))) qw gNx))
noncomputable def jr : Me → Res (Fl × Me) :=
 jo
noncomputable def cY:List D->Res (Bool×D):=bf 4 4 jr
noncomputable def cJ : Me → Res (Fl × Me) :=
 (aL (gIf (mF (aM gEq (au gIx (aa 3) (fC (.int 0))) (fC (.str "deal"))) (jE (fTv (fFn jM (aj (fFn bR (aj (aJ 3) aB)) aB))))) qw gNx)
 (gIf (aM gEq (au gIx (aa 3) (fC (.int 0))) (fC (.str "move"))) (aL (bC 5 (fFn mq (aj (aJ 3) (aj (aJ 4) aB))))
 (aL (zp 6 (J8 1 (bz (aj (au gIx (aa 3) (fC (.int 1))) (aj (au gIx (aa 3) (fC (.int 2))) aB))) (bz (aj (aJ 2) (aj (aJ 5) aB)))))
 (gEx (fFn cY (aj (aJ 2) (aj (aJ 5) (aj (au gIx (aa 6) (fC (.int 0))) (aj (au gIx (aa 6) (fC (.int 1))) aB)))))))) gNx))
noncomputable def jw : Me → Res (Fl × Me) :=
 (iQ (gH (fFn bG (aj (aJ 0) aB))) (iw 3 (aX (hName 2) (aX (hName 3) (aX (hName 4) iH)))) cJ)
noncomputable def kY (l_2 : Me → Res (Fl × Me)) : Me → Res (Fl × Me) :=
 (aL (eX 1 wA)
 l_2)
noncomputable def kW : Me → Res (Fl × Me) :=
 (kY jw)
noncomputable def fZ:List D->Res (Bool×D):=bf 7 1 kW
noncomputable def GZ (φ_table_of : List D → Res (Bool × D)) (φ_refuse_great_shape : List D → Res (Bool × D)) (φ_refuse_great_fractions : List D → Res (Bool × D)) (φ_refuse_unsound : List D → Res (Bool × D)) : Me → Res (Fl × Me) :=
 (aL (gEx (fFn φ_refuse_great_shape (aj (aJ 0) aB)))
 (aL (gEx (fFn φ_refuse_great_fractions (aj (aJ 0) aB)))
 (aL (gEx (fFn φ_refuse_unsound (aj (aJ 0) aB)))
 (iV (O3 φ_table_of (aj (aJ 0) aB))))))
noncomputable def Hy : Me → Res (Fl × Me) :=
 (GZ lG dm cI fZ)
noncomputable def ur:List D->Res (Bool×D):=bf 1 1 Hy
end
end Pk
namespace K13
open PySem L2 Hd F Pk
noncomputable section
noncomputable def jW : Me → Res (Fl × Me) :=
 (aL (gIf (aM gLt (aa 1) (aQ ie (aj (aa 0) aB))) (bU (au gIx (aa 0) (aa 1))) gNx)
 (bU (fC (.int 0))))
noncomputable def jQ : Me → Res (Fl × Me) :=
 jW
noncomputable def gf:List D->Res (Bool×D):=bf 2 2 jQ
noncomputable def mZ : Me → Res Bool :=
 (aM gNe (aa 3) (fC (.int 0)))
noncomputable def mK : Me → Res (Fl × Me) :=
 (V5 2 3 (aj (aJ 3) (aj (au bQ (aa 2) (aa 3)) aB)))
noncomputable def qI : Me → Res (Fl × Me) :=
 (ou mZ mK)
noncomputable def pq (l_3 : Me → Res (Fl × Me)) : Me → Res (Fl × Me) :=
 (aL (bC 2 (aQ Gf (aj (aa 0) aB)))
 (aL (bC 3 (aJ 1))
 (aL l_3
 (bU (bz (aj (au eY (aa 0) (aa 2)) (aj (au eY (aa 1) (aa 2)) aB)))))))
noncomputable def pB : Me → Res (Fl × Me) :=
 (pq qI)
noncomputable def fK:List D->Res (Bool×D):=bf 4 2 pB
noncomputable def jf : Me → Res (Fl × Me) :=
 (aL (cP 4 (au bQ (aa 0) (fC (.int 36))))
 (bC 0 (au eY (aa 0) (fC (.int 36)))))
noncomputable def pA : Me → Res (Fl × Me) :=
 (iQ (wB (aj (aa 3) aB)) (hName 5) jf)
noncomputable def o9 : Me → Res D :=
 (au gIx (aa 1) (aa 0))
noncomputable def o4 : Me → Res D :=
 (du 1 [2] (gH (aa 4)) (hName 0) jq o9)
noncomputable def lU : Me → Res D :=
 (fSl (au P0 (fC (.int 8)) (aa 1)) fO0 (fO1 (aa 0)))
noncomputable def ph : Me → Res D :=
 (du 1 [6] (JV (aj (fC (.int 1)) (aj (fC (.int 9)) aB))) (hName 0) jq lU)
noncomputable def jg : Me → Res (Fl × Me) :=
 (aL (bC 9 (au gIx (aa 2) (au bQ (au cC (au gIx (aa 4) (aa 7)) (au mV (fC (.int 4)) (aa 5))) (fC (.int 36)))))
 (cP 8 (au cC (au cC (fSl (aa 6) fO0 (fO1 (aa 7))) (aa 9)) (fSl (aa 6) (fO1 (au cC (aa 7) (fC (.int 1)))) fO0))))
noncomputable def sJ : Me → Res (Fl × Me) :=
 (iQ (wB (aj (fC (.int 8)) aB)) (hName 5) jg)
noncomputable def jH (l_2 : Me → Res (Fl × Me)) (l_4 : Me → Res D) (l_6 : Me → Res D) (l_8 : Me → Res (Fl × Me)) : Me → Res (Fl × Me) :=
 (aL (bC 2 (fC (.str "abcdefghijklmnopqrstuvwxyz0123456789")))
 (aL (bC 3 (au cC (fC (.int 1)) (au bQ (aa 0) (fC (.int 8)))))
 (aL (bC 0 (au eY (aa 0) (fC (.int 8))))
 (aL (eX 4 (fV aB))
 (aL l_2
 (aL (bC 6 (J0 "str" DY (fC (.str "")) (aj l_4 aB)))
 (aL (gIf (aM gEq (au bQ (au eY (aa 1) (fC (.int 8))) (fC (.int 3))) (fC (.int 1))) (iV l_6) gNx)
 (aL (bC 7 (au bQ (aa 1) (aa 3)))
 (aL (eX 8 (fV aB))
 (aL l_8
 (qF 8)))))))))))
noncomputable def wD : Me → Res (Fl × Me) :=
 (jH pA o4 ph sJ)
noncomputable def oF:List D->Res (Bool×D):=bf 10 2 wD
noncomputable def nj (φ__law_lowest : List D → Res (Bool × D)) : Me → Res (Fl × Me) :=
 (aL (gIf (aM gEq (au bQ (aa 0) (fC (.int 8))) (fC (.int 3))) (bU (fFn φ__law_lowest (aj (au eN (au bQ (au mV (aa 0) (fC (.int 48271))) (fC (.int 1999999999999))) (fC (.int 999999999999))) (aj (au cC (fC (.int 1)) (au bQ (au eY (aa 0) (fC (.int 8))) (fC (.int 999)))) aB)))) gNx)
 (bU (fFn φ__law_lowest (aj (au eN (au bQ (au eY (aa 0) (fC (.int 8))) (fC (.int 13))) (fC (.int 6))) (aj (au cC (fC (.int 1)) (au bQ (au eY (aa 0) (fC (.int 104))) (fC (.int 3)))) aB)))))
noncomputable def nu : Me → Res (Fl × Me) :=
 (nj fK)
noncomputable def bI:List D->Res (Bool×D):=bf 1 1 nu
noncomputable def eQ : Me → Res (Fl × Me) :=
 (aL (cP 2 (au cC (au cC (fC (.int 1)) (au bQ (aa 0) (fC (.int 4)))) (au mV (au eY (au bQ (au eY (aa 0) (fC (.int 4))) (fC (.int 8))) (fC (.int 7))) (au bQ (au eY (aa 0) (fC (.int 32))) (fC (.int 200))))))
 (bC 0 (au bQ (au mV (aa 0) (fC (.int 48271))) (fC (.int 2147483647)))))
noncomputable def jn : Me → Res (Fl × Me) :=
 (iQ (wB (aj (aa 1) aB)) (hName 3) eQ)
noncomputable def mU : Me → Res D :=
 (fFn fK (aj (aJ 0) (aj (aQ M9 (aj (aa 1) aB)) aB)))
noncomputable def mY : Me → Res D :=
 (du 1 [2] (gH (aa 2)) (hName 0) jq mU)
noncomputable def mj (l_2 : Me → Res (Fl × Me)) (l_4 : Me → Res D) : Me → Res (Fl × Me) :=
 (aL (eX 2 (fV aB))
 (aL l_2
 (iV l_4)))
noncomputable def sH : Me → Res (Fl × Me) :=
 (mj jn mY)
noncomputable def jb:List D->Res (Bool×D):=bf 4 2 sH
noncomputable def uv : Me → Res (Fl × Me) :=
 (bU (au bQ (au mV (au cC (au bQ (aa 0) (fC (.int 2147483647))) (fC (.int 1))) (au cC (fC (.int 48271)) (au mV (fC (.int 7)) (aa 1)))) (fC (.int 2147483647))))
noncomputable def tK : Me → Res (Fl × Me) :=
 uv
noncomputable def cR:List D->Res (Bool×D):=bf 2 2 tK
noncomputable def dX : Me → Res (Fl × Me) :=
 (aL (bC 5 (bz (aj (aJ 1) (aj (aJ 2) (aj (aJ 3) (aj (aJ 4) aB))))))
 (aL (gIf (aM uR (aa 5) (Fd 6 (au cQ (aa 0) (fC (.str "names"))))) (aL (uL 6 (au cQ (aa 0) (fC (.str "names"))) (aJ 5) (au gIx (Fd 7 (au cQ (aa 0) (fC (.str "many")))) (au eN (aa 1) (fC (.int 1)))))
 (rJ 7 (au cQ (aa 0) (fC (.str "many"))) (au eN (aa 1) (fC (.int 1))) (au cC (au gIx (Fd 7 (au cQ (aa 0) (fC (.str "many")))) (au eN (aa 1) (fC (.int 1)))) (fC (.int 1))))) gNx)
 (bU (au uQ (Fd 6 (au cQ (aa 0) (fC (.str "names")))) (aa 5)))))
noncomputable def dZ : Me → Res (Fl × Me) :=
 dX
noncomputable def bZ:List D->D->Addr×D->Addr×D->Res (D×D×D×D):=runST 0 8 5 dZ
noncomputable def gO (Φb : List D → D → Addr × D → Addr × D → Res (D × D × D × D)) : Me → Res (Fl × Me) :=
 (aL (bC 12 (au gIx (aa 8) (au bQ (au cC (au cC (au mV (fC (.int 3)) (aa 7)) (aa 11)) (au eY (au cQ (aa 1) (fC (.str "turn"))) (fC (.int 8)))) (fC (.int 8)))))
 (aL (eX 13 (aQ xU (aj (aa 3) aB)))
 (aL (uw 13 (au eN (aa 5) (fC (.int 1))) (au cC (au gIx (aa 13) (au eN (aa 5) (fC (.int 1)))) (bz (aj (bz (aj (aJ 9) (aj (aJ 12) aB))) aB))))
 (Ni 13 (pP 10 (Aj (qM (fX (aJ 12)) (qM (uh Φb 1 1 14 15 (aj (aJ 0) (aj (au eN (aa 2) (fC (.int 1))) (aj (aJ 13) aB)))) Ae))))))))
noncomputable def lQ (Φb : List D → D → Addr × D → Addr × D → Res (D × D × D × D)) : Me → Res (Fl × Me) :=
 (iQ (wB (aj (aa 6) aB)) (hName 11) (gO Φb))
noncomputable def jJ (φ__law_stake : List D → Res (Bool × D)) (φ__law_name_number : List D → D → Addr × D → Addr × D → Res (D × D × D × D)) (l_2 : Me → Res (Fl × Me)) : Me → Res (Fl × Me) :=
 (aL (bC 5 (au cC (fC (.int 1)) (au bQ (aa 4) (fC (.int 2)))))
 (aL (bC 6 (au cC (fC (.int 1)) (au bQ (au eY (aa 4) (fC (.int 16))) (fC (.int 3)))))
 (aL (zp 7 (uh φ__law_name_number 1 0 14 15 (aj (aJ 5) (aj (au gIx (aa 3) (au eN (aa 5) (fC (.int 1)))) (aj (aJ 6) (aj (au bQ (au eY (aa 4) (fC (.int 48))) (fC (.int 2))) aB))))))
 (aL (gIf (aM gGe (aa 7) (fC (.int 8))) (bU (bz (aj (fC (.str "end")) (aj (fFn φ__law_stake (aj (aJ 4) aB)) aB)))) gNx)
 (aL (jL 1 (fC (.str "room")) (au eN (au cQ (aa 1) (fC (.str "room"))) (aa 6)))
 (aL (bC 8 (au cQ (aa 1) (fC (.str "pool"))))
 (aL (bC 9 (au gIx (aa 8) (au bQ (au cC (aa 7) (au cQ (aa 1) (fC (.str "turn")))) (fC (.int 8)))))
 (aL (eX 10 (fV aB))
 (aL l_2
 (bU (bz (aj (fC (.str "move")) (aj (aJ 5) (aj (aJ 9) (aj (aQ jZ (aj (aa 10) aB)) aB)))))))))))))))
noncomputable def mC (Φb:List D->D->Addr×D->Addr×D->Res (D×D×D×D)):List D->D->Addr×D->Addr×D->Res (D×D×D×D):=runST 1 16 5 ((jJ bI bZ (lQ Φb)))
noncomputable def jT (Φ : List D → D → Addr × D → Addr × D → Res (D × D × D × D)) : Me → Res (Fl × Me) :=
 (pP 8 (Aj (qM (fX (aJ 9)) (qM (uh Φ 1 1 10 11 (aj (aJ 0) (aj (au eN (aa 2) (fC (.int 1))) (aj (aJ 3) aB)))) Ae))))
noncomputable def gk (Φ : List D → D → Addr × D → Addr × D → Res (D × D × D × D)) : Me → Res (Fl × Me) :=
 (iQ (gH (fFn jb (aj (aJ 5) (aj (aJ 7) aB)))) (hName 9) (jT Φ))
noncomputable def dF (φ__law_stake : List D → Res (Bool × D)) (φ__law_mix : List D → Res (Bool × D)) (φ__law_built : List D → D → Addr × D → Addr × D → Res (D × D × D × D)) (l_2 : Me → Res (Fl × Me)) : Me → Res (Fl × Me) :=
 (aL (bC 4 (au cQ (aa 1) (fC (.str "at"))))
 (aL (jL 1 (fC (.str "at")) (au cC (aa 4) (fC (.int 1))))
 (aL (gIf (aM gGe (aa 4) (aQ ie (aj (aa 0) aB))) (bU (bz (aj (fC (.str "end")) (aj (fFn φ__law_stake (aj (fFn φ__law_mix (aj (au cC (au gIx (aa 0) (fUn rE (fC (.int 1)))) (au mV (aa 4) (aa 4))) (aj (aJ 4) aB))) aB)) aB)))) gNx)
 (aL (bC 5 (fFn φ__law_mix (aj (au gIx (aa 0) (aa 4)) (aj (aJ 4) aB))))
 (aL (bC 6 (aJ 5))
 (aL (gIf (fTv (au cQ (aa 1) (fC (.str "level")))) (bC 6 (au cC (au eN (aa 5) (au bQ (aa 5) (fC (.int 48)))) (au bQ (fFn φ__law_mix (aj (au gIx (aa 0) (au bQ (aa 2) (aQ ie (aj (aa 0) aB)))) (aj (aJ 2) aB))) (fC (.int 48))))) gNx)
 (aL (gIf (nU (aM gEq (aa 2) (fC (.int 0))) (nU (aM gLt (au cQ (aa 1) (fC (.str "room"))) (fC (.int 3))) (mF (aM gEq (au bQ (aa 6) (fC (.int 8))) (fC (.int 0))) (aM gGt (aa 4) (fC (.int 0)))))) (bU (bz (aj (fC (.str "end")) (aj (fFn φ__law_stake (aj (aJ 5) aB)) aB)))) gNx)
 (aL (gIf (aM gGt (au bQ (aa 6) (fC (.int 8))) (fC (.int 2))) (sZ (uh (mC φ__law_built) 1 1 10 11 (aj (aJ 0) (aj (aJ 2) (aj (aJ 3) (aj (aJ 6) aB)))))) gNx)
 (aL (bC 7 (au cC (fC (.int 1)) (au bQ (au eY (aa 6) (fC (.int 16))) (fC (.int 3)))))
 (aL (jL 1 (fC (.str "room")) (au eN (au cQ (aa 1) (fC (.str "room"))) (aa 7)))
 (aL (eX 8 (fV aB))
 (aL l_2
 (bU (bz (aj (fC (.str "deal")) (aj (au gIx (au cQ (aa 1) (fC (.str "pool"))) (au bQ (au eY (aa 5) (fC (.int 48))) (fC (.int 8)))) (aj (aQ jZ (aj (aa 8) aB)) aB)))))))))))))))))
noncomputable def aU:Nat->List D->D->Addr×D->Addr×D->Res (D×D×D×D)
 |0=>fun _ _ _ _=>.stuck
 |n+1=>runST 1 12 4
   (dF bI cR (aU n) (gk (aU n)))
noncomputable def oY (φ__law_built : List D → D → Addr × D → Addr × D → Res (D × D × D × D)) : Me → Res (Fl × Me) :=
 (Ul 5 6 7 [((fC (.str "at")), (fC (.int 0))), ((fC (.str "room")), (aJ 3))] (fC (.str "names")) wA (fC (.str "many")) (fV (aj (fC (.int 0)) (aj (fC (.int 0)) aB))) [((fC (.str "pool")), (aJ 4))]
 (aL (jL 5 (fC (.str "turn")) (au bQ (aa 1) (fC (.int 64))))
 (aL (jL 5 (fC (.str "level")) (rZ gEq (au bQ (au eY (aa 1) (fC (.int 64))) (fC (.int 2))) (fC (.int 1))))
 (sZ (uh φ__law_built 5 1 6 7 (aj (aJ 0) (aj (aJ 2) (aj (fV (aj (bz aB) (aj (bz aB) aB))) aB))))))))
noncomputable def wL : Me → Res (Fl × Me) :=
 (oY (aU 13))
noncomputable def jF:List D->Res (Bool×D):=bf 8 5 wL
noncomputable def mL : Me → Res D :=
 (bz (aj (aJ 1) (aj (aJ 2) aB)))
noncomputable def mQ : Me → Res D :=
 (du 2 [5] (pK (au gIx (aa 4) (fC (.int 2)))) (iw 2 (aX (hName 0) (aX (hName 1) iH))) jq mL)
noncomputable def gG : Me → Res (Fl × Me) :=
 (aL (eX 9 (aQ xU (aj (aa 5) aB)))
 (aL (uw 9 (au eN (au gIx (aa 4) (fC (.int 1))) (fC (.int 1))) (au cC (au gIx (aa 9) (au eN (au gIx (aa 4) (fC (.int 1))) (fC (.int 1)))) (bz (aj (bz (aj (au gIx (aa 4) (fC (.int 2))) (aj (aJ 7) aB))) aB))))
 (cP 6 (bz (aj (aJ 8) (aj (aQ jZ (aj (aa 9) aB)) aB))))))
noncomputable def m8 : Me → Res (Fl × Me) :=
 (iQ (pK (au gIx (aa 4) (fC (.int 3)))) (iw 2 (aX (hName 7) (aX (hName 8) iH))) gG)
noncomputable def jl : Me → Res (Fl × Me) :=
 (cP 2 (bz (aj (au cC (aa 3) (bz (aj (aJ 10) aB))) (aj (au gIx (au gIx (aa 6) (aa 10)) (fC (.int 0))) (aj (au gIx (au gIx (aa 6) (aa 10)) (fC (.int 1))) aB)))))
noncomputable def m5 : Me → Res (Fl × Me) :=
 (iQ (Q3 (aj (au eN (aQ ie (aj (aa 6) aB)) (fC (.int 1))) (aj (fUn rE (fC (.int 1))) (aj (fUn rE (fC (.int 1))) aB)))) (hName 10) jl)
noncomputable def jm : Me → Res Bool :=
 (aM gGt (aQ ie (aj (aa 2) aB)) (fC (.int 0)))
noncomputable def eU : Me → Res (Fl × Me) :=
 (aL (Fw (Et 2) (iw 3 (aX (hName 3) (aX (hName 4) (aX (hName 5) iH)))))
 (aL (cP 1 (bz (aj (aJ 3) (aj (aJ 4) (aj (aJ 5) aB)))))
 (aL (eX 6 (fV aB))
 (aL (gIf (aM gEq (au gIx (aa 4) (fC (.int 0))) (fC (.str "deal"))) (eX 6 mQ) gNx)
 (aL (gIf (aM gEq (au gIx (aa 4) (fC (.int 0))) (fC (.str "move"))) m8 gNx)
 m5)))))
noncomputable def w5 : Me → Res (Fl × Me) :=
 (ou jm eU)
noncomputable def lR (l_9 : Me → Res (Fl × Me)) : Me → Res (Fl × Me) :=
 (aL (eX 1 (fV aB))
 (aL (eX 2 (fV (aj (bz (aj (bz aB) (aj (aJ 0) (aj (bz (aj (bz aB) (aj (bz aB) aB))) aB)))) aB)))
 (aL l_9
 (qF 1))))
noncomputable def sU : Me → Res (Fl × Me) :=
 (lR w5)
noncomputable def jd:List D->Res (Bool×D):=bf 11 1 sU
noncomputable def nJ : Me → Res D :=
 (du 2 [] (pK (au gIx (aa 4) (fC (.int 3)))) (iw 2 (aX (hName 0) (aX (hName 1) iH))) jq (aJ 0))
noncomputable def dw : Me → Res (Fl × Me) :=
 (gIf (mF (aM gEq (au gIx (aa 4) (fC (.int 0))) (fC (.str "move"))) (aM uR (bz (aj (au gIx (aa 4) (fC (.int 1))) (aj (au gIx (aa 4) (fC (.int 2))) aB))) (aa 2))) (aL (Af 2 (bz (aj (au gIx (aa 4) (fC (.int 1))) (aj (au gIx (aa 4) (fC (.int 2))) aB))) (fC (.bl true)))
 (aL (bC 6 (aQ jZ (aj nJ aB)))
 (cP 1 (bz (aj (au gIx (aa 4) (fC (.int 1))) (aj (au gIx (aa 4) (fC (.int 2))) (aj (aJ 6) (aj (au gIx (aa 5) (au eN (au gIx (aa 4) (fC (.int 1))) (fC (.int 1)))) aB)))))))) gNx)
noncomputable def nF : Me → Res (Fl × Me) :=
 (iQ (gH (fFn jd (aj (aJ 0) aB))) (iw 3 (aX (hName 3) (aX (hName 4) (aX (hName 5) iH)))) dw)
noncomputable def pZ (l_3 : Me → Res (Fl × Me)) : Me → Res (Fl × Me) :=
 (aL (eX 1 (fV aB))
 (aL (eX 2 wA)
 (aL l_3
 (qF 1))))
noncomputable def qe : Me → Res (Fl × Me) :=
 (pZ nF)
noncomputable def gq:List D->Res (Bool×D):=bf 7 1 qe
noncomputable def qZ : Me → Res (Fl × Me) :=
 (bU (vO "str" (aa 0)))
noncomputable def qT : Me → Res (Fl × Me) :=
 qZ
noncomputable def dB:List D->Res (Bool×D):=bf 1 1 qT
noncomputable def jz : Me → Res (Fl × Me) :=
 (gIf (nU (jE (fTv (vO "tuple" (aa 1)))) (nU (aM gNe (aQ ie (aj (aa 1) aB)) (fC (.int 2))) (nU (jE (fTv (fFn dB (aj (au gIx (aa 1) (fC (.int 0))) aB)))) (jE (fTv (fFn dB (aj (au gIx (aa 1) (fC (.int 1))) aB))))))) (bU (fC (.bl false))) gNx)
noncomputable def nP : Me → Res (Fl × Me) :=
 (iQ (pK (aJ 0)) (hName 1) jz)
noncomputable def lB (l_2 : Me → Res (Fl × Me)) : Me → Res (Fl × Me) :=
 (aL (gIf (jE (fTv (vO "tuple" (aa 0)))) (bU (fC (.bl false))) gNx)
 (aL l_2
 (bU (fC (.bl true)))))
noncomputable def lr : Me → Res (Fl × Me) :=
 (lB nP)
noncomputable def f9:List D->Res (Bool×D):=bf 2 1 lr
noncomputable def jU : Me → Res D :=
 (fFn dB (aj (aJ 0) aB))
noncomputable def jX : Me → Res D :=
 (du 1 [] (pK (au gIx (aa 1) (fC (.int 2)))) (hName 0) jq jU)
noncomputable def jK : Me → Res (Fl × Me) :=
 (aL (gIf (nU (jE (fTv (vO "tuple" (aa 1)))) (nU (aM gNe (aQ ie (aj (aa 1) aB)) (fC (.int 4))) (nU (jE (fTv (vO "int" (au gIx (aa 1) (fC (.int 0)))))) (fTv (vO "bool" (au gIx (aa 1) (fC (.int 0)))))))) (bU (fC (.bl false))) gNx)
 (aL (gIf (nU (jE (fTv (fFn dB (aj (au gIx (aa 1) (fC (.int 1))) aB)))) (nU (jE (fTv (vO "tuple" (au gIx (aa 1) (fC (.int 2)))))) (jE (fTv (fFn f9 (aj (au gIx (aa 1) (fC (.int 3))) aB)))))) (bU (fC (.bl false))) gNx)
 (gIf (jE (fTv (aQ TQ (aj jX aB)))) (bU (fC (.bl false))) gNx)))
noncomputable def oU : Me → Res (Fl × Me) :=
 (iQ (gH (aJ 0)) (hName 1) jK)
noncomputable def mR (l_4 : Me → Res (Fl × Me)) : Me → Res (Fl × Me) :=
 (aL (gIf (jE (fTv (vO "list" (aa 0)))) (bU (fC (.bl false))) gNx)
 (aL l_4
 (bU (fC (.bl true)))))
noncomputable def mO : Me → Res (Fl × Me) :=
 (mR oU)
noncomputable def dD:List D->Res (Bool×D):=bf 2 1 mO
noncomputable def J2 (φ_look : List D → Res (Bool × D)) (φ__law_cell_at : List D → Res (Bool × D)) (φ__law_pool : List D → Res (Bool × D)) (φ__law_game : List D → Res (Bool × D)) (φ__law_table : List D → Res (Bool × D)) (φ__law_is_table : List D → Res (Bool × D)) : Me → Res (Fl × Me) :=
 (aL (bC 1 (fFn φ__law_pool (aj (fFn φ__law_cell_at (aj (aJ 0) (aj (fC (.int 0)) aB))) (aj (fFn φ__law_cell_at (aj (aJ 0) (aj (fC (.int 1)) aB))) aB))))
 (aL (bC 2 (fFn φ__law_cell_at (aj (aJ 0) (aj (fC (.int 2)) aB))))
 (aL (bC 3 (au gIx (fV (aj (fC (.int 5)) (aj (fC (.int 3)) (aj (fC (.int 8)) (aj (fC (.int 12)) aB))))) (au bQ (fFn φ__law_cell_at (aj (aJ 0) (aj (fC (.int 3)) aB))) (fC (.int 4)))))
 (aL (bC 4 (fFn φ__law_game (aj (au cC (fSl (aa 0) (fO1 (fC (.int 6))) (fO1 (fC (.int 63)))) (fV (aj (fFn φ__law_cell_at (aj (aJ 0) (aj (fC (.int 4)) aB))) aB))) (aj (aJ 2) (aj (aJ 3) (aj (fC (.int 63)) (aj (aJ 1) aB)))))))
 (aL (bC 5 (fFn φ__law_table (aj (aJ 4) aB)))
 (aL (eX 6 (O3 φ_look (aj (aJ 4) aB)))
 (aL (gIf (nU (jE (fTv (Vi φ__law_is_table (aj (aa 6) aB)))) (aM gNe (aa 6) (aa 5))) (bU (fC (.bl false))) gNx)
 (aL (bC 7 (fFn φ__law_game (aj (au cC (fSl (aa 0) (fO1 (fC (.int 6))) (fO1 (fC (.int 20)))) (fV (aj (fFn φ__law_cell_at (aj (aJ 0) (aj (fC (.int 5)) aB))) aB))) (aj (au eY (aa 2) (fC (.int 128))) (aj (fC (.int 4)) (aj (fC (.int 63)) (aj (QV (aa 1) (fO1 (fUn rE (fC (.int 1))))) aB)))))))
 (aL (gIf (nU (aM gNe (fFn φ_look (aj (aJ 7) aB)) (fFn φ__law_table (aj (aJ 7) aB))) (aM gNe (aa 6) (aa 5))) (bU (fC (.bl false))) gNx)
 (aL (Bc 6)
 (bU (rZ gEq (fFn φ_look (aj (aJ 4) aB)) (aa 5)))))))))))))
noncomputable def Uo : Me → Res (Fl × Me) :=
 (J2 ur gf oF jF gq dD)
noncomputable def Uw:List D->Res (Bool×D):=bf 8 1 Uo
end
end K13
namespace Hd
noncomputable def gI (a b:Int):Int:=(Int.gcd a b:Nat)
theorem Ip {a b:Int}(ha:0<=a)(hb:0<b):gI b (a % b)=gI a b:=by
 unfold gI Int.gcd
 have e:(a % b).natAbs=a.natAbs % b.natAbs:=by
  obtain ⟨n,rfl⟩:=Int.eq_ofNat_of_zero_le ha
  obtain ⟨m,rfl⟩:=Int.eq_ofNat_of_zero_le (Int.le_of_lt hb)
  rfl
 rw [e,Nat.gcd_comm a.natAbs b.natAbs,Nat.gcd_rec b.natAbs a.natAbs,Nat.gcd_comm]
theorem Jg {a:Int}(ha:0<=a):gI a 0=a:=by
 unfold gI
 rw [Int.gcd_zero_right]
 omega
theorem Ou (a b:Int):gI (if a<0 then -a else a) (if b<0 then -b else b)=gI a b:=by
 unfold gI Int.gcd
 have h:∀x:Int,(if x<0 then -x else x).natAbs=x.natAbs:=fun x=>by split <;> omega
 rw [h,h]
theorem X7 (a b:Int):0<=gI a b:=Int.natCast_nonneg _
theorem Cz {a b:Int}(hb:b≠0):0<gI a b:=by
 have:0<Int.gcd a b:=Nat.pos_of_ne_zero fun h=>hb (Int.gcd_eq_zero_iff.mp h).2
 unfold gI; omega
theorem HS (a b:Int):gI a b ∣ a:=Int.gcd_dvd_left a b
theorem zc (a b:Int):gI a b ∣ b:=Int.gcd_dvd_right a b
theorem Uj {a b:Int}(hb:b≠0):(gI a b).natAbs<=b.natAbs:=by
 have h:(gI a b).natAbs ∣ b.natAbs:=Int.natAbs_dvd_natAbs.mpr (zc a b)
 exact Nat.le_of_dvd (by omega) h
noncomputable def dv (t b:Int):Int:=if b<0 then -gI t b else gI t b
theorem Iv {t b:Int}(hb:b≠0):dv t b≠0:=by
 have:=Cz (a:=t) hb
 unfold dv; split <;> omega
theorem QB (t b:Int):(dv t b).natAbs=(gI t b).natAbs:=by unfold dv; split <;> omega
noncomputable def lt (t b:Int):Int:=t.fdiv (dv t b)
noncomputable def lb (t b:Int):Int:=b.fdiv (dv t b)
theorem zz {a d q:Int}(hd:d≠0)(h:a=d * q):a.fdiv d=q:=by
 rw [h]
 exact Int.mul_fdiv_cancel_left q hd
theorem QW (t b:Int):dv t b ∣ t:=by
 unfold dv; split
 ·exact Int.neg_dvd.mpr (HS t b)
 ·exact HS t b
theorem Qi (t b:Int):dv t b ∣ b:=by
 unfold dv; split
 ·exact Int.neg_dvd.mpr (zc t b)
 ·exact zc t b
theorem lt_mul {t b:Int}(hb:b≠0):dv t b * lt t b=t:=by
 obtain ⟨q,hq⟩:=QW t b
 have e:lt t b=q:=zz (Iv hb) hq
 rw [e]; exact hq.symm
theorem BZ {t b:Int}(hb:b≠0):dv t b * lb t b=b:=by
 obtain ⟨q,hq⟩:=Qi t b
 have e:lb t b=q:=zz (Iv hb) hq
 rw [e]; exact hq.symm
theorem Wb {t b:Int}(hb:b≠0):1<=lb t b:=by
 have e:=BZ (t:=t) hb
 have g:=Cz (a:=t) hb
 by_cases h:lb t b<=0
 ·exfalso
  unfold dv at e
  split at e
  ·have:0<=-gI t b * lb t b:=Int.mul_nonneg_of_nonpos_of_nonpos (by omega) h
   omega
  ·have:gI t b * lb t b<=0:=Int.mul_nonpos_of_nonneg_of_nonpos (by omega) h
   omega
 ·omega
theorem QM {t b:Int}(hb:b≠0):gI (lt t b) (lb t b)=1:=by
 have e1:=lt_mul (t:=t) hb
 have e2:=BZ (t:=t) hb
 have g:=Cz (a:=t) hb
 have q:gI t b=(dv t b).natAbs * gI (lt t b) (lb t b):=by
  have:Int.gcd (dv t b * lt t b) (dv t b * lb t b)=(dv t b).natAbs * Int.gcd (lt t b) (lb t b):=Int.gcd_mul_left ..
  rw [e1,e2] at this
  unfold gI
  rw [this]
  push_cast
  rfl
 have ed:((dv t b).natAbs:Int)=gI t b:=by rw [QB]; have:=X7 t b; omega
 rw [ed] at q
 have h:gI t b * gI (lt t b) (lb t b)=gI t b * 1:=by rw [Int.mul_one]; exact q.symm
 exact Int.eq_of_mul_eq_mul_left (by omega) h
theorem La {t b:Int}(hb:b≠0):lt t b * b=t * lb t b:=by
 have e1:=lt_mul (t:=t) hb
 have e2:=BZ (t:=t) hb
 calc lt t b * b=lt t b * (dv t b * lb t b):=by rw [e2]
  _=(dv t b * lt t b) * lb t b:=by rw [← Int.mul_assoc,Int.mul_comm (lt t b) (dv t b)]
  _=t * lb t b:=by rw [e1]
theorem Ux {t b:Int}(hb:b≠0):(lt t b).natAbs<=t.natAbs:=by
 have e:=lt_mul (t:=t) hb
 have h:(lt t b).natAbs ∣ t.natAbs:=Int.natAbs_dvd_natAbs.mpr ⟨dv t b,by rw [Int.mul_comm]; exact e.symm⟩
 by_cases z:t=0
 ·have:lt t b=0:=by
   have e':dv t b * lt t b=0:=e.trans z
   rcases Int.mul_eq_zero.mp e' with h | h
   ·exact absurd h (Iv hb)
   ·exact h
  rw [this]; exact Nat.zero_le _
 ·exact Nat.le_of_dvd (by omega) h
theorem Uq {t b:Int}(hb:b≠0):(lb t b).natAbs<=b.natAbs:=by
 have e:=BZ (t:=t) hb
 have h:(lb t b).natAbs ∣ b.natAbs:=Int.natAbs_dvd_natAbs.mpr ⟨dv t b,by rw [Int.mul_comm]; exact e.symm⟩
 exact Nat.le_of_dvd (by omega) h
theorem qC {q p s:Int}(c:Int.gcd p q=1)(h:q ∣ p * s):q ∣ s:=by
 have h2:q.natAbs ∣ p.natAbs * s.natAbs:=by rw [← Int.natAbs_mul]; exact Int.natAbs_dvd_natAbs.mpr h
 have c2:Nat.Coprime q.natAbs p.natAbs:=by unfold Nat.Coprime; rw [Nat.gcd_comm]; exact c
 exact Int.natAbs_dvd_natAbs.mp (Nat.Coprime.dvd_of_dvd_mul_left c2 h2)
theorem GP {p q r s:Int}(hq:1<=q)(hs:1<=s)(g1:gI p q=1)(g2:gI r s=1)(h:p * s=r * q):p=r/\q=s:=by
 have c1:Int.gcd p q=1:=by unfold gI at g1; omega
 have c2:Int.gcd r s=1:=by unfold gI at g2; omega
 have d1:q ∣ s:=by
  have:q ∣ p * s:=⟨r,by rw [h,Int.mul_comm]⟩
  exact qC c1 this
 have d2:s ∣ q:=by
  have:s ∣ r * q:=⟨p,by rw [← h,Int.mul_comm]⟩
  exact qC c2 this
 have e:q=s:=Int.dvd_antisymm (by omega) (by omega) d1 d2
 subst e
 exact ⟨Int.eq_of_mul_eq_mul_right (by omega) h,rfl⟩
theorem Dm {a b:Int}{m n:Nat}(ha:a.natAbs<2 ^ m)(hb:b.natAbs<2 ^ n):(a * b).natAbs<2 ^ (m+n):=by
 rw [Int.natAbs_mul,Nat.pow_add]
 exact Nat.mul_lt_mul'' ha hb
theorem Vr {a b:Int}{m:Nat}(ha:a.natAbs<2 ^ m)(hb:b.natAbs<2 ^ m):(a+b).natAbs<2 ^ (m+1):=by
 rw [Nat.pow_succ]
 omega
theorem uJ {n m k:Nat}(h:n<2 ^ m)(hk:m<=k):n<2 ^ k:=Nat.lt_of_lt_of_le h (Nat.pow_le_pow_right (by decide) hk)
theorem WK {t u p q:Int}(hu:u≠0)(hq:1<=q)(g:gI p q=1)(h:t * q=p * u):lt t u=p/\lb t u=q:=by
 refine GP (Wb hu) hq (QM hu) g ?_
 have e:=La (t:=t) hu
 have e2:lt t u * q * u=p * lb t u * u:=by
  calc lt t u * q * u=lt t u * u * q:=by rw [Int.mul_assoc,Int.mul_comm q u,← Int.mul_assoc]
   _=t * lb t u * q:=by rw [e]
   _=t * q * lb t u:=by rw [Int.mul_assoc,Int.mul_comm (lb t u) q,← Int.mul_assoc]
   _=p * u * lb t u:=by rw [h]
   _=p * lb t u * u:=by rw [Int.mul_assoc,Int.mul_comm u,← Int.mul_assoc]
 exact Int.eq_of_mul_eq_mul_right hu e2
noncomputable abbrev Q2:=Int×Int
noncomputable def den:List Q2->Int
 |[]=>1
 |d::ds=>d.2 * den ds
noncomputable def num:List Q2->Int
 |[]=>0
 |d::ds=>d.1 * den ds+num ds * d.2
theorem den_pos:∀{ds:List Q2},(∀d∈ds,1<=d.2)->1<=den ds
 |[],_=>Int.le_refl _
 |d::ds,h=>by
  have h1:=h d List.mem_cons_self
  have h2:=den_pos fun e he=>h e (List.mem_cons_of_mem _ he)
  have:0<d.2 * den ds:=Int.mul_pos (by omega) (by omega)
  show 1<=d.2 * den ds
  omega
end Hd
namespace F
open PySem L2 Hd
@[simp] theorem szl:sizeLine=16777216:=by decide
theorem sV:∀{a b:List Char},a.map Char.toNat=b.map Char.toNat->a=b
 |[],[],_=>rfl
 |[],_::_,h=>by simp at h
 |_::_,[],h=>by simp at h
 |x::a,y::b,h=>by
  have h':x.toNat=y.toNat/\a.map Char.toNat=b.map Char.toNat:=by simpa using h
  rw [Char.toNat_inj.mp h'.1,sV h'.2]
@[simp] theorem YM {a b:String}:(Str.ofString a=Str.ofString b)↔a=b:=by
 constructor
 ·intro h
  rw [Str.ofString_eq_toList,Str.ofString_eq_toList] at h
  have h2:(a.toList.map Char.toNat).toArray=(b.toList.map Char.toNat).toArray:=congrArg Str.cps h
  have h3:a.toList.map Char.toNat=b.toList.map Char.toNat:=by simpa using congrArg Array.toList h2
  exact String.toList_inj.mp (sV h3)
 ·intro h; rw [h]
mutual
noncomputable def okD:D->Bool
 | .non | .bl _ | .int _=>true
 | .str x=>PyData.strOk x
 | .tup xs=>o5 xs
 | .lst xs=>o5 xs
 | .exc _ | .dct _ _ | .dcu _ _ | .dcf _ _ | .adr _=>false
noncomputable def o5:List D->Bool
 |[]=>true
 |x::xs=>okD x && o5 xs
end
mutual
noncomputable def pI:D->Nat
 | .non | .bl _ | .int _ | .str _=>0
 | .tup xs=>n6 xs+1
 | .lst xs=>n6 xs+1
 | .exc _ | .dct _ _ | .dcu _ _ | .dcf _ _ | .adr _=>0
noncomputable def n6:List D->Nat
 |[]=>0
 |x::xs=>max (pI x) (n6 xs)
end
mutual
theorem J4:∀d:D,okD d=true->∃p,toPy d=some p/\p.canLay0=true/\p.depth=pI d/\PyData.eqv p p=true
 | .non,_=>⟨.none,by simp [toPy],by simp [PyData.canLay0],by simp [PyData.depth,pI],by simp [PyData.eqv]⟩
 | .bl b,_=>⟨.bool b,by simp [toPy],by simp [PyData.canLay0],by simp [PyData.depth,pI],by simp [PyData.eqv]⟩
 | .int b,_=>⟨.int b,by simp [toPy],by simp [PyData.canLay0],by simp [PyData.depth,pI],by simp [PyData.eqv]⟩
 | .str b,h=>⟨.str b,by simp [toPy],by simpa [PyData.canLay0,okD] using h,by simp [PyData.depth,pI],by simp [PyData.eqv]⟩
 | .tup xs,h=>by
  obtain ⟨ps,h1,h2,h3,h4⟩:=zq xs (by simpa [okD] using h)
  exact ⟨.tuple ps,by simp [toPy,h1],by simpa [PyData.canLay0] using h2,by simp [PyData.depth,pI,h3],by simpa [PyData.eqv] using h4⟩
 | .lst xs,h=>by
  obtain ⟨ps,h1,h2,h3,h4⟩:=zq xs (by simpa [okD] using h)
  exact ⟨.list ps,by simp [toPy,h1],by simpa [PyData.canLay0] using h2,by simp [PyData.depth,pI,h3],by simpa [PyData.eqv] using h4⟩
 | .exc _,h=>by simp [okD] at h
 | .dct _ _,h=>by simp [okD] at h
 | .dcu _ _,h=>by simp [okD] at h
 | .adr _,h=>by simp [okD] at h
 | .dcf _ _,h=>by simp [okD] at h
theorem zq:∀ds:List D,o5 ds=true->∃ps,wI ds=some ps/\PyData.canLayAll0 ps=true/\PyData.depthAll ps=n6 ds/\PyData.eqvAll ps ps=true
 |[],_=>⟨[],by simp [wI],by simp [PyData.canLayAll0],by simp [PyData.depthAll,n6],by simp [PyData.eqvAll]⟩
 |d::ds,h=>by
  have h':okD d=true/\o5 ds=true:=by simpa [o5] using h
  obtain ⟨p,h1,h2,h3,h4⟩:=J4 d h'.1
  obtain ⟨ps,k1,k2,k3,k4⟩:=zq ds h'.2
  exact ⟨p::ps,by simp [wI,h1,k1],by simp [PyData.canLayAll0,h2,k2],by simp [PyData.depthAll,n6,h3,k3],by simp [PyData.eqvAll,h4,k4]⟩
end
theorem wM {d:D}(h:okD d=true)(hd:pI d<=64):wz d d=some true:=by
 obtain ⟨p,h1,h2,h3,h4⟩:=J4 d h
 unfold wz
 rw [h1]
 have:SeqAt.shaped p=true:=by unfold SeqAt.shaped; rw [h2,decide_eq_true (by omega)]; rfl
 simp [this,h4]
theorem yJ {d:D}(h:okD d=true)(hd:pI d<=64):gEq d d=some true:=by
 cases d with
 |non=>rfl
 |bl b=>simp [gEq]
 |int b=>simp [gEq]
 |str b=>simp [gEq]
 |tup xs=>exact wM h hd
 |lst xs=>exact wM h hd
 |exc c=>simp [okD] at h
 |dct _ _=>simp [okD] at h
 |dcu _ _=>simp [okD] at h
 |adr _=>simp [okD] at h
 |dcf _ _=>simp [okD] at h
theorem yP {d:D}(h:okD d=true)(hd:pI d<=64):gNe d d=some false:=by unfold gNe; rw [yJ h hd]; rfl
@[simp] theorem YK (i j:Int):gEq (.int i) (.int j)=some (decide (i=j)):=rfl
@[simp] theorem YQ (i j:Str):gEq (.str i) (.str j)=some (decide (i=j)):=rfl
@[simp] theorem ZK (i j:Bool):gEq (.bl i) (.bl j)=some (decide (i=j)):=rfl
@[simp] theorem YL (i j:Int):gNe (.int i) (.int j)=some (!decide (i=j)):=rfl
@[simp] theorem YS (i j:Str):gNe (.str i) (.str j)=some (!decide (i=j)):=rfl
@[simp] theorem Zu (i j:Bool):gNe (.bl i) (.bl j)=some (!decide (i=j)):=rfl
noncomputable def qD (d:Q2):D:=.tup [.int d.1,.int d.2]
mutual
inductive Gm where
 |fin (d:Q2)
 |deal (n:Str) (ws:Ws)
 |move (s:Int) (n:Str) (ws:Ws)
inductive Ws where
 |nil
 |cons (l:D) (g:Gm) (r:Ws)
end
mutual
noncomputable def dG:Gm->D
 | .fin d=>.tup [.str "end",qD d]
 | .deal n ws=>.tup [.str "deal",.str n,.tup (dWs ws)]
 | .move s n ws=>.tup [.str "move",.int s,.str n,.tup (dWs ws)]
noncomputable def dWs:Ws->List D
 | .nil=>[]
 | .cons l g r=>.tup [l,dG g]::dWs r
end
mutual
noncomputable def dp:Gm->Nat
 | .fin _=>0
 | .deal _ ws=>dpW ws+1
 | .move _ _ ws=>dpW ws+1
noncomputable def dpW:Ws->Nat
 | .nil=>0
 | .cons _ g r=>max (dp g) (dpW r)
end
noncomputable def jB:Ws->Nat
 | .nil=>0
 | .cons _ _ r=>jB r+1
theorem oX:∀ws:Ws,(dWs ws).length=jB ws
 | .nil=>rfl
 | .cons l g r=>by show (dWs r).length+1=_; rw [oX r]; rfl
mutual
noncomputable def fH:Gm->Prop
 | .fin _=>True
 | .deal _ ws=>jB ws<=100/\wF ws
 | .move _ _ ws=>jB ws<=100/\wF ws
noncomputable def wF:Ws->Prop
 | .nil=>True
 | .cons _ g r=>fH g/\wF r
end
open PySem L2 Hd
noncomputable def xq (zs:List Str):List Nat:=zs.flatMap fun z=>z.cps.toList
theorem Lx:(Str.ofString "").cps=#[]:=by decide +kernel
theorem Ks:∀(zs:List Str) (acc:Array Nat),(zs.foldl (fun acc p=>acc++(Str.ofString "").cps++p.cps) acc).toList=acc.toList++xq zs
 |[],acc=>by simp [xq]
 |z::zs,acc=>by
  rw [List.foldl_cons,Ks zs,Lx]
  simp [xq]
theorem Qs (zs:List Str):(Txt.join (Str.ofString "") zs).cps.toList=xq zs:=by
 show ((zs.drop 1).foldl (fun acc p=>acc++(Str.ofString "").cps++p.cps) (zs.headD Str.empty).cps).toList=_
 rw [Ks]
 cases zs with
 |nil=>simp [xq,Str.empty]
 |cons z zs=>simp [xq]
theorem Ag:∀(zs:List Str) (n:Nat),zs.foldl (fun n z=>n+z.length+(Str.ofString "").length) n=n+(xq zs).length
 |[],n=>by simp [xq]
 |z::zs,n=>by
  rw [List.foldl_cons,Ag zs]
  have:(Str.ofString "").length=0:=by decide +kernel
  rw [this]
  simp [xq,Str.length]
  omega
theorem joinOk_of {zs:List Str}(h:(xq zs).length<=16777216):JoinOk (Str.ofString "") zs=true:=by
 unfold JoinOk
 rw [List.foldl_toArray,Ag]
 simp [Builtin.Str.tooLong]
 omega
theorem Mi (cs:List Nat):xq (cs.map fun c=>(⟨#[c]⟩:Str))=cs:=by
 induction cs with
 |nil=>rfl
 |cons c cs ih=>simp [xq] at ih ⊢; exact ih
theorem Eh {cs:List Nat}(h:∀c∈cs,c<128):PyData.strOk ⟨cs.toArray⟩=true:=by
 unfold PyData.strOk
 simp only [List.all_toArray,List.all_eq_true,decide_eq_true_eq]
 intro c hc
 have:=h c hc
 omega
theorem Px {f:Me->Res (List D)}{m:Me}{j:Int}(h:f m=.ok [.int j])(h1:-1000000000<=j)(h2:j<=1000000000):wB f m=.ok ((List.range j.toNat).map fun (i:Nat)=>D.int i):=by
 unfold wB
 rw [h]
 show (if -(2 ^ 62)<=j/\j<2 ^ 62 then _ else _)=_
 rw [if_pos ⟨by omega,by omega⟩]
theorem Y5 {f:Me->Res (List D)}{m:Me}{i j:Int}(h:f m=.ok [.int i,.int j])(h1:-1000000000<=i)(h2:i<=1000000000)(h3:-1000000000<=j)(h4:j<=1000000000):JV f m=.ok ((List.range (j - i).toNat).map fun (k:Nat)=>D.int (i+k)):=by
 unfold JV
 rw [h]
 show (if -(2 ^ 62)<=i/\i<2 ^ 62/\-(2 ^ 62)<=j/\j<2 ^ 62 then _ else _)=_
 rw [if_pos ⟨by omega,by omega,by omega,by omega⟩]
open PySem PySem.NumText
noncomputable def tx (l:List Nat):Str:=⟨l.toArray⟩
theorem xr (l:List Nat):(tx l).cps.toList=l:=rfl
theorem tQ (l:List Nat):(tx l).length=l.length:=by show l.toArray.size=_; simp
theorem Ju {x:Str}{l:List Nat}(h:x.cps.toList=l):x=tx l:=by
 cases x with
 |mk a=>subst h; unfold tx; simp
theorem Wt (a b:List Nat):tx a++tx b=tx (a++b):=Ju (by show (a.toArray++b.toArray).toList=_; simp)
theorem Qv {a b:List Nat}:tx a=tx b↔a=b:=⟨fun h=>by have:=congrArg (fun z:Str=>z.cps.toList) h; exact this,fun h=>by rw [h]⟩
end F
namespace Pk
open PySem L2 Hd F
noncomputable def je:Ws->List Gm
 | .nil=>[]
 | .cons _ g r=>g::je r
noncomputable def kids:Gm->List Gm
 | .fin _=>[]
 | .deal _ ws=>je ws
 | .move _ _ ws=>je ws
mutual
noncomputable def szG:Gm->Nat
 | .fin _=>1
 | .deal _ ws=>szW ws+1
 | .move _ _ ws=>szW ws+1
noncomputable def szW:Ws->Nat
 | .nil=>0
 | .cons _ g r=>szG g+szW r
end
theorem rT (g:Gm):1<=szG g:=by cases g <;> simp [szG]
mutual
noncomputable def plG:List Int->Gm->List (List Int×Gm)
 |w,.fin d=>[(w,.fin d)]
 |w,.deal n ws=>(w,.deal n ws)::plW w 0 ws
 |w,.move s n ws=>(w,.move s n ws)::plW w 0 ws
noncomputable def plW:List Int->Nat->Ws->List (List Int×Gm)
 |_,_,.nil=>[]
 |w,i,.cons _ g r=>plG (w++[(i:Int)]) g++plW w (i+1) r
end
noncomputable def pD (p:List Int×Gm):D:=.tup [.tup (p.1.map .int),dG p.2]
noncomputable def bh (w:List Int)(g:Gm):List (List Int×Gm):=(kids g).zipIdx.map fun p=>(w++[(p.2:Int)],p.1)
theorem Hv (w:List Int):∀(i:Nat) (ws:Ws),plW w i ws=(((je ws).zipIdx i).map fun p=>(w++[(p.2:Int)],p.1)).flatMap fun p=>plG p.1 p.2
 |i,.nil=>rfl
 |i,.cons l g r=>by
  show plG (w++[(i:Int)]) g++plW w (i+1) r=_
  rw [Hv w (i+1) r]
  rfl
theorem WL (w:List Int)(g:Gm):plG w g=(w,g)::(bh w g).flatMap fun p=>plG p.1 p.2:=by
 cases g with
 |fin d=>rfl
 |deal n ws=>show (w,Gm.deal n ws)::plW w 0 ws=_; rw [Hv]; rfl
 |move s n ws=>show (w,Gm.move s n ws)::plW w 0 ws=_; rw [Hv]; rfl
theorem vL:∀ws:Ws,szW ws=((je ws).map szG).sum
 | .nil=>rfl
 | .cons l g r=>by show szG g+szW r=_; rw [vL r]; rfl
theorem Qp (g:Gm):szG g=((kids g).map szG).sum+1:=by
 cases g with
 |fin d=>rfl
 |deal n ws=>show szW ws+1=_; rw [vL]; rfl
 |move s n ws=>show szW ws+1=_; rw [vL]; rfl
theorem gK:∀ws:Ws,(je ws).length=jB ws
 | .nil=>rfl
 | .cons l g r=>by show (je r).length+1=_; rw [gK r]; rfl
theorem tu:∀{ws:Ws} {g:Gm},wF ws->g∈je ws->fH g
 | .cons l k r,g,h,hg=>by
  rcases List.mem_cons.mp hg with w | w
  ·rw [w]; exact h.1
  ·exact tu h.2 w
theorem z6 {g k:Gm}(h:fH g)(hk:k∈kids g):fH k/\(kids g).length<=100:=by
 cases g with
 |fin d=>cases hk
 |deal n ws=>exact ⟨tu h.2 hk,by show (je ws).length<=100; rw [gK]; exact h.1⟩
 |move s n ws=>exact ⟨tu h.2 hk,by show (je ws).length<=100; rw [gK]; exact h.1⟩
theorem vo {g:Gm}(h:fH g):(kids g).length<=100:=by
 cases g with
 |fin d=>exact Nat.zero_le _
 |deal n ws=>show (je ws).length<=100; rw [gK]; exact h.1
 |move s n ws=>show (je ws).length<=100; rw [gK]; exact h.1
theorem wk:∀ws:Ws,fM (iw 2 (aX (hName 0) (aX (hName 1) iH))) jq (aJ 1) [.un,.un] (dWs ws)=.ok ((je ws).map dG)
 | .nil=>rfl
 | .cons l g r=>by
  have ih:=wk r
  have e:aJ 1 [.fz l,.fz (dG g)]=.ok (dG g):=rfl
  unfold dWs fM
  simp [iw,aX,hName,iH,jq,e,ih,je]
theorem Dj {Q:Me->Res D}{g:Gm}(q:Q [.fz (dG g)]=.ok (.lst ((kids g).map dG))\/kids g=[]/\∃d,g=.fin d):bf 1 1 (gM Q) [dG g]=.ok (true,.lst ((kids g).map dG)):=by
 have x2:∀a b:D,atI [a,b] 0=some a:=fun _ _=>rfl
 have x3:∀a b c:D,atI [a,b,c] 0=some a:=fun _ _ _=>rfl
 have x4:∀a b c d:D,atI [a,b,c,d] 0=some a:=fun _ _ _ _=>rfl
 cases g with
 |fin d=>simp [bf,gM,aL,gIf,aM,au,aa,fC,gIx,dG,x2,iV,Me.let,Sl.let,fV,aB,kids]
 |deal n ws=>
  rcases q with q | ⟨_,d,e⟩
  ·have q':=q
   simp only [dG] at q'
   simp [bf,gM,aL,gIf,aM,au,aa,fC,gIx,dG,x3,iV,Me.let,Sl.let,q',gNx]
  ·cases e
 |move s n ws=>
  rcases q with q | ⟨_,d,e⟩
  ·have q':=q
   simp only [dG] at q'
   simp [bf,gM,aL,gIf,aM,au,aa,fC,gIx,dG,x4,iV,Me.let,Sl.let,q',gNx]
  ·cases e
theorem wC {g:Gm}(h:fH g):fD [dG g]=.ok (true,.lst ((kids g).map dG)):=by
 have x3:∀a b c:D,atI [a,b,c] (-1)=some c:=fun _ _ _=>rfl
 have x4:∀a b c d:D,atI [a,b,c,d] (-1)=some d:=fun _ _ _ _=>rfl
 refine Dj ?_
 cases g with
 |fin d=>exact .inr ⟨rfl,d,rfl⟩
 |deal n ws=>
  have hz:(dWs ws).length<=16777216:=by rw [oX]; have:=h.1; omega
  left
  simp [m6,du,pK,au,aa,fUn,rE,fC,gIx,dG,x3,cMe,hz,wk,kids]
 |move s n ws=>
  have hz:(dWs ws).length<=16777216:=by rw [oX]; have:=h.1; omega
  left
  simp [m6,du,pK,au,aa,fUn,rE,fC,gIx,dG,x4,cMe,hz,wk,kids]
theorem Lj (ks:List Gm):yU (ks.map dG)=ks.zipIdx.map fun p=>D.tup [.int (p.2:Int),dG p.1]:=by
 unfold yU
 rw [List.mapIdx_eq_zipIdx_map,List.zipIdx_map,List.map_map]
 rfl
theorem gJ {α:Type}{h:D->Me->Option Me}{ft:Me->Res Bool}{fe:Me->Res D}{m0:Me}{g f:α->D}:∀l:List α,(∀c∈l,∃m1,h (g c) m0=some m1/\ft m1=.ok true/\fe m1=.ok (f c))->fM h ft fe m0 (l.map g)=.ok (l.map f)
 |[],_=>rfl
 |d::ds,H=>by
  obtain ⟨m1,e1,e2,e3⟩:=H d List.mem_cons_self
  have ih:=gJ ds fun d hd=>H d (List.mem_cons_of_mem _ hd)
  rw [List.map_cons]
  unfold fM
  simp only [e1,e2,e3,ih,List.map_cons]
theorem Ma {w:List Int}{g:Gm}{a s1 s2 s4:Sl}(h:fH g)(hw:w.length<=1000):lK [a,s1,s2,.fz (pD (w,g)),s4]=.ok (.lst ((bh w g).map pD)):=by
 have hb:=wC h
 have hl:=vo h
 have x0:∀a b:D,atI [a,b] 0=some a:=fun _ _=>rfl
 have x1:∀a b:D,atI [a,b] 1=some b:=fun _ _=>rfl
 have e:fM (iw 2 (aX (hName 0) (aX (hName 1) iH))) jq o6 [.un,.un,.fz (pD (w,g))] ((kids g).zipIdx.map fun p=>D.tup [.int (p.2:Int),dG p.1])=.ok ((kids g).zipIdx.map fun p=>pD (w++[(p.2:Int)],p.1)):=gJ _ fun p hp=>by
  refine ⟨[.fz (.int (p.2:Int)),.fz (dG p.1),.fz (pD (w,g))],rfl,rfl,?_⟩
  have hz:(w.map D.int).length+1<=16777216:=by rw [List.length_map]; omega
  have hz':w.length+1<=16777216:=by omega
  simp [o6,bz,aj,aB,au,aa,aJ,fC,gIx,pD,x0,cC,hz']
 have hz:(kids g).length<=16777216:=by omega
 have e':((bh w g).map pD)=(kids g).zipIdx.map fun p=>pD (w++[(p.2:Int)],p.1):=by unfold bh; rw [List.map_map]; rfl
 rw [e']
 simp only [pD] at e ⊢
 simp [lK,du,U8,aj,aB,fFn,au,aa,fC,gIx,x1,hb,Lj,cMe,Sl.bor,hz,e]
noncomputable def szS (st:List (List Int×Gm)):Nat:=(st.map fun p=>szG p.2).sum
theorem WM (w:List Int)(g:Gm):szS (bh w g)+1=szG g:=by
 rw [Qp]
 unfold szS bh
 rw [List.map_map]
 congr 2
 have:((fun p:List Int×Gm=>szG p.2) ∘ fun p:Gm×Nat=>(w++[(p.2:Int)],p.1))=szG ∘ Prod.fst:=rfl
 rw [this,← List.map_map,List.zipIdx_map_fst]
theorem Jh:∀st:List (List Int×Gm),st.length<=szS st
 |[]=>Nat.zero_le _
 |p::st=>by
  have:=Jh st
  have:=rT p.2
  show st.length+1<=szG p.2+szS st
  omega
theorem Ih (a b:List (List Int×Gm)):szS (a++b)=szS a+szS b:=by unfold szS; rw [List.map_append,List.sum_append]
theorem xT {t:Me->Res Bool}{b:Me->Res (Fl×Me)}{n:Nat}{m m':Me}{r:Res (Fl×Me)}(h1:t m=.ok true)(h2:b m=.ok (.nx,m'))(h3:wh t b n m'=some r):wh t b (n+1) m=some r:=by
 unfold wh
 rw [h1,h2]
 exact h3
theorem xF {t:Me->Res Bool}{b:Me->Res (Fl×Me)}{m:Me}(h1:t m=.ok false):wh t b 1 m=some (.ok (.nx,m)):=by
 unfold wh
 rw [h1]
theorem Az {a s3 s4:Sl}{done st:List (List Int×Gm)}{w:List Int}{g:Gm}(h:fH g)(hw:w.length<=1000)(hz:done.length+st.length<=10000000):
  lJ [a,.ow (.lst (done.map pD)),.ow (.lst ((((w,g)::st).map pD).reverse)),s3,s4]=.ok (.nx,[a,.ow (.lst ((done++[(w,g)]).map pD)),.ow (.lst (((bh w g++st).map pD).reverse)),.fz (pD (w,g)),.fz (.lst ((bh w g).map pD))]):=by
 have hl:=vo h
 have hb:(bh w g).length=(kids g).length:=by unfold bh; simp
 have q:∀s1 s2 s4,lK [a,s1,s2,.fz (pD (w,g)),s4]=.ok (.lst ((bh w g).map pD)):=fun s1 s2 s4=>Ma h hw
 have l1:((st.map pD).reverse++[pD (w,g)]).length - 1=(st.map pD).reverse.length:=by simp
 have g1:((st.map pD).reverse++[pD (w,g)])[((st.map pD).reverse++[pD (w,g)]).length - 1]? = some (pD (w,g)):=by rw [l1]; simp
 have d1:((st.map pD).reverse++[pD (w,g)]).dropLast=(st.map pD).reverse:=List.dropLast_concat
 have z1:done.length<16777216:=by omega
 have z2:st.length+(bh w g).length<=16777216:=by rw [hb]; omega
 rw [List.map_cons,List.reverse_cons]
 generalize hS:(st.map pD).reverse=S at *
 have lS:S.length=st.length:=by rw [← hS]; simp
 have e2:((bh w g++st).map pD).reverse=S++((bh w g).map pD).reverse:=by rw [List.map_append,List.reverse_append,hS]
 rw [e2]
 have g1':(S++[pD (w,g)])[S.length]? = some (pD (w,g)):=by simp
 simp [lJ,aL,Dn,j8,putL,cP,aJ,bC,q,Ce,aQ,aj,aB,aa,Mr,z1,lS,z2]
theorem Tu {w:List Int}{g:Gm}(h:fH g):∀p∈bh w g,fH p.2/\p.1.length=w.length+1:=fun p hp=>by
 unfold bh at hp
 obtain ⟨q,hq,rfl⟩:=List.mem_map.mp hp
 have:q.1∈kids g:=by have:=List.mem_map_of_mem (f:=Prod.fst) hq; rwa [List.zipIdx_map_fst] at this
 exact ⟨(z6 h this).1,by simp⟩
theorem Ie {g k:Gm}(hk:k∈kids g):dp k<dp g:=by
 have aux:∀{ws:Ws},k∈je ws->dp k<=dpW ws:=by
  intro ws
  induction ws using Ws.rec (motive_1:=fun _=>True) with
  |nil=>intro h; cases h
  |cons l g r _ ih=>
   intro h
   show dp k<=max (dp g) (dpW r)
   rcases List.mem_cons.mp h with w | w
   ·rw [w]; exact Nat.le_max_left _ _
   ·exact Nat.le_trans (ih w) (Nat.le_max_right _ _)
  |fin=>trivial
  |deal=>trivial
  |move=>trivial
 cases g with
 |fin d=>cases hk
 |deal n ws=>exact Nat.lt_succ_of_le (aux hk)
 |move s n ws=>exact Nat.lt_succ_of_le (aux hk)
theorem Xx {w:List Int}{g:Gm}:∀p∈bh w g,dp p.2<dp g:=fun p hp=>by
 unfold bh at hp
 obtain ⟨q,hq,rfl⟩:=List.mem_map.mp hp
 have:q.1∈kids g:=by have:=List.mem_map_of_mem (f:=Prod.fst) hq; rwa [List.zipIdx_map_fst] at this
 exact Ie this
theorem xG (a:Sl):∀(N:Nat) (done st:List (List Int×Gm)) (s3 s4:Sl),szS st=N->(∀p∈st,fH p.2/\p.1.length+dp p.2<=100)->done.length+szS st<=10000000->
  ∃k s3' s4',wh lW lJ k [a,.ow (.lst (done.map pD)),.ow (.lst ((st.map pD).reverse)),s3,s4]=some (.ok (.nx,[a,.ow (.lst ((done++st.flatMap fun p=>plG p.1 p.2).map pD)),.ow (.lst []),s3',s4'])):=by
 intro N
 induction N using Nat.strongRecOn with
 |_ N ih=>
  intro done st s3 s4 hN hs hz
  cases st with
  |nil=>
   refine ⟨1,s3,s4,?_⟩
   simp only [List.map_nil,List.reverse_nil,List.flatMap_nil,List.append_nil]
   exact xF (by simp [lW,aM,aQ,ie,aj,aB,aa,fC,gGt])
  |cons p st=>
   obtain ⟨w,g⟩:=p
   have h1:fH g/\w.length+dp g<=100:=hs (w,g) (by simp)
   have sb:=WM w g
   have hsum:szS ((w,g)::st)=szG g+szS st:=rfl
   have ls:=Jh st
   have gp:=rT g
   obtain ⟨k,t3,t4,e⟩:=ih (szS (bh w g++st)) (by rw [Ih]; omega) (done++[(w,g)]) (bh w g++st) (.fz (pD (w,g))) (.fz (.lst ((bh w g).map pD))) rfl (fun p hp=>by
    rcases List.mem_append.mp hp with v | v
    ·have v1:=Tu h1.1 p v
     have v2:=Xx p v
     exact ⟨v1.1,by omega⟩
    ·exact hs p (by simp [v])) (by rw [Ih,List.length_append]; simp; omega)
   refine ⟨k+1,t3,t4,?_⟩
   have e3:done++((w,g)::st).flatMap (fun p=>plG p.1 p.2)=done++[(w,g)]++(bh w g++st).flatMap fun p=>plG p.1 p.2:=by
    rw [List.flatMap_cons,List.flatMap_append,WL]
    simp
   rw [e3]
   refine xT ?_ (Az h1.1 (by omega) (by omega)) e
   simp [lW,aM,aQ,ie,aj,aB,aa,fC,gGt]
theorem G9 {L:Me->Res (Fl×Me)}{d:D}{ps:List D}{s3 s4:Sl}(e:L [.fz d,.ow (.lst []),.ow (.lst [.tup [.tup [],d]]),.un,.un]=.ok (.nx,[.fz d,.ow (.lst ps),.ow (.lst []),s3,s4])):bf 5 1 (oH L) [d]=.ok (true,.lst ps):=by
 simp [bf,oH,aL,eX,fV,aj,aB,bz,aJ,e,qF]
theorem places_eq {g:Gm}(h:fH g)(hd:dp g<=50)(hz:szG g<=10000000):dI [dG g]=.ok (true,.lst ((plG [] g).map pD)):=by
 obtain ⟨k,s3,s4,e⟩:=xG (.fz (dG g)) _ [] [([],g)] .un .un rfl (fun p hp=>by rw [List.mem_singleton.mp hp]; exact ⟨h,by simp; omega⟩) (by show 0+(szG g+0)<=_; omega)
 have e2:=rO k e
 simp only [List.nil_append,List.flatMap_cons,List.flatMap_nil,List.append_nil] at e2
 exact G9 (s3:=s3) (s4:=s4) e2
open PySem L2 Hd F
noncomputable def kw (w:List Int):List Kt:=w.map fun i=>.k (.inl i)
theorem BK:∀{v w:List Int},kw v=kw w->v=w
 |[],[],_=>rfl
 |[],_::_,h=>by cases h
 |_::_,[],h=>by cases h
 |a::v,b::w,h=>by
  have h:(Kt.k (.inl a):Kt)::kw v=Kt.k (.inl b)::kw w:=h
  injection h with h1 h2
  injection h1 with h1
  injection h1 with h1
  rw [h1,BK h2]
theorem Uh:∀w:List Int,lM (ktD 7) (w.map D.int)=some (kw w)
 |[]=>rfl
 |a::w=>by
  show ((ktD 7 (.int a)).bind fun k=>(lM (ktD 7) (w.map D.int)).map fun ks=>k::ks)=_
  rw [Uh w]
  rfl
theorem Nr (w:List Int):rn (.tup (w.map D.int))=some (kw w):=Uh w
theorem DK {k k':List Kt}{d:D}:∀{ks:List (List Kt)} {ds:List D},ks.length=ds.length->k∈ks->cA ks (sW ks ds k d) k'=if k=k' then some d else cA ks ds k'
 |[],_,_,h=>by cases h
 |a::ks,[],h,_=>by simp at h
 |a::ks,x::ds,h,hk=>by
  have hl:ks.length=ds.length:=by simpa using h
  unfold sW cA
  by_cases h1:a=k'
  ·rw [if_pos h1,if_pos h1]
   by_cases h2:a=k
   ·rw [if_pos h2,if_pos (h2 ▸ h1)]
   ·rw [if_neg h2,if_neg fun e=>h2 (by rw [h1,e])]
  ·rw [if_neg h1,if_neg h1]
   by_cases h2:k∈ks
   ·exact DK hl h2
   ·have h3:a=k:=by
     rcases List.mem_cons.mp hk with e | e
     ·exact e.symm
     ·exact absurd e h2
    have h4:k≠k':=fun e=>h1 (by rw [h3,e])
    rw [if_neg h4]
    have e:∀{ks:List (List Kt)} {ds:List D},k∉ks->ks.length=ds.length->sW ks ds k d=ds:=by
     intro ks
     induction ks with
     |nil=>intro ds _ hl; cases ds with
      |nil=>rfl
      |cons _ _=>simp at hl
     |cons b ks ih=>intro ds hn hl; cases ds with
      |nil=>simp at hl
      |cons y ds=>
       unfold sW
       rw [if_neg (fun (e:b=k)=>hn (e ▸ List.mem_cons_self)),ih (fun e=>hn (List.mem_cons_of_mem _ e)) (by simpa using hl)]
    rw [e h2 hl]
theorem BW {k k':List Kt}{d:D}:∀{ks:List (List Kt)} {ds:List D},ks.length=ds.length->k∉ks->cA (ks++[k]) (ds++[d]) k'=if k=k' then some d else cA ks ds k'
 |[],[],_,_=>by simp [cA]
 |[],_::_,h,_=>by simp at h
 |a::ks,[],h,_=>by simp at h
 |a::ks,x::ds,h,hk=>by
  have ih:=BW (k:=k) (k':=k') (d:=d) (ks:=ks) (ds:=ds) (by simpa using h) fun e=>hk (List.mem_cons_of_mem _ e)
  have hn:a≠k:=fun e=>hk (e ▸ List.mem_cons_self)
  show cA (a::(ks++[k])) (x::(ds++[d])) k'=_
  unfold cA
  rw [ih]
  by_cases h1:a=k'
  ·rw [if_pos h1,if_neg fun e=>hn (by rw [h1,e]),if_pos h1]
  ·rw [if_neg h1,if_neg h1]
theorem Cp {k:List Kt}{ks:List (List Kt)}:ks.any (fun x=>decide (x=k))=true↔k∈ks:=by
 rw [List.any_eq_true]
 constructor
 ·rintro ⟨x,hx,e⟩
  have:x=k:=by simpa using e
  rw [← this]; exact hx
 ·intro h; exact ⟨k,h,by simp⟩
theorem Fb {k:List Kt}{d:D}:∀{ks:List (List Kt)} {ds:List D},ks.length=ds.length->(sW ks ds k d).length=ks.length
 |[],[],_=>rfl
 |[],_::_,h=>by simp at h
 |a::ks,[],h=>by simp at h
 |a::ks,x::ds,h=>by
  have:=Fb (k:=k) (d:=d) (ks:=ks) (ds:=ds) (by simpa using h)
  simp [sW,this]
theorem uK {ks:List (List Kt)}{ds:List D}{k k':List Kt}{d:D}(hl:ks.length=ds.length):cA (jt ks ds k d).1 (jt ks ds k d).2 k'=if k=k' then some d else cA ks ds k':=by
 unfold jt
 by_cases h:ks.any (fun x=>decide (x=k))=true
 ·rw [if_pos h]; exact DK hl (Cp.mp h)
 ·rw [if_neg h]; exact BW hl fun z=>h (Cp.mpr z)
theorem Bw {ks:List (List Kt)}{ds:List D}{k:List Kt}{d:D}(hl:ks.length=ds.length):(jt ks ds k d).1.length=(jt ks ds k d).2.length/\(jt ks ds k d).1.length<=ks.length+1:=by
 unfold jt
 by_cases h:ks.any (fun x=>decide (x=k))=true
 ·rw [if_pos h]; exact ⟨(Fb hl).symm,by simp⟩
 ·rw [if_neg h]; exact ⟨by simp [hl],by simp⟩
theorem bY {h:D->Me->Option Me}{g:Me->Res (Fl×Me)}{d:D}{ds:List D}{m m1 m2:Me}(h1:h d m=some m1)(h2:g m1=.ok (.nx,m2)):bL h g (d::ds) m=bL h g ds m2:=by
 rw [bL,h1]
 simp only [h2]
noncomputable abbrev Rc:=List D×List D
noncomputable def rD2 (r:Rc):D:=.tup [.tup r.1,.tup r.2]
noncomputable def rbm (s:Int)(n:Str)(r:Rc)(l:D):Rc:=if s=1 then (r.1++[.tup [.str n,l]],r.2) else (r.1,r.2++[.tup [.str n,l]])
noncomputable def gP:Ws->List D
 | .nil=>[]
 | .cons l _ r=>l::gP r
noncomputable def rbg:Gm->Rc->D->Rc
 | .move s n _,r,l=>rbm s n r l
 |_,r,_=>r
noncomputable def vY:Gm->Ws
 | .fin _=>.nil
 | .deal _ ws=>ws
 | .move _ _ ws=>ws
mutual
noncomputable def prG:List Int->Rc->Gm->List (List Int×Gm×Rc)
 |w,r,.fin d=>[(w,.fin d,r)]
 |w,r,.deal n ws=>(w,.deal n ws,r)::prW w (fun _=>r) 0 ws
 |w,r,.move s n ws=>(w,.move s n ws,r)::prW w (rbm s n r) 0 ws
noncomputable def prW:List Int->(D->Rc)->Nat->Ws->List (List Int×Gm×Rc)
 |_,_,_,.nil=>[]
 |w,f,i,.cons l g r=>prG (w++[(i:Int)]) (f l) g++prW w f (i+1) r
end
mutual
theorem Ji:∀(w:List Int) (r:Rc) (g:Gm),(prG w r g).map (fun p=>(p.1,p.2.1))=plG w g
 |w,r,.fin d=>rfl
 |w,r,.deal n ws=>by
  show (w,Gm.deal n ws)::(prW w (fun _=>r) 0 ws).map _=(w,Gm.deal n ws)::plW w 0 ws
  rw [Gv w _ 0 ws]
 |w,r,.move s n ws=>by
  show (w,Gm.move s n ws)::(prW w (rbm s n r) 0 ws).map _=(w,Gm.move s n ws)::plW w 0 ws
  rw [Gv w _ 0 ws]
theorem Gv:∀(w:List Int) (f:D->Rc) (i:Nat) (ws:Ws),(prW w f i ws).map (fun p=>(p.1,p.2.1))=plW w i ws
 |w,f,i,.nil=>rfl
 |w,f,i,.cons l g r=>by
  show (prG (w++[(i:Int)]) (f l) g++prW w f (i+1) r).map _=plG (w++[(i:Int)]) g++plW w (i+1) r
  rw [List.map_append,Ji _ _ g,Gv w f (i+1) r]
end
noncomputable def trD (p:List Int×Gm×Rc):D:=.tup [.tup (p.1.map D.int),dG p.2.1,rD2 p.2.2]
theorem Jj:∀(ws:Ws) (k:Nat) (l:D),(gP ws)[k]? = some l->∃g,(dWs ws)[k]? = some (.tup [l,g])
 | .nil,k,l,h=>by simp [gP] at h
 | .cons a g r,0,l,h=>by
  have:a=l:=by simpa [gP] using h
  exact ⟨dG g,by simp [dWs,this]⟩
 | .cons a g r,k+1,l,h=>by
  obtain ⟨x,e⟩:=Jj r k l (by simpa [gP] using h)
  exact ⟨x,by simpa [dWs] using e⟩
theorem pN:∀ws:Ws,(gP ws).length=jB ws
 | .nil=>rfl
 | .cons _ _ r=>by simp [gP,jB,pN r]
theorem Xr {g:Gm}{r:Rc}{k:Nat}{l:D}(hl:(gP (vY g))[k]? = some l)(hg:fH g)(hr:r.1.length<=1000/\r.2.length<=1000)(hs:∀s n ws,g=.move s n ws->s=1\/s=2):
  cZ [dG g,rD2 r,.int (k:Int)]=.ok (false,rD2 (rbg g r l)):=by
 have x30:∀a b c:D,atI [a,b,c] 0=some a:=fun _ _ _=>rfl
 have x40:∀a b c d:D,atI [a,b,c,d] 0=some a:=fun _ _ _ _=>rfl
 have x41:∀a b c d:D,atI [a,b,c,d] 1=some b:=fun _ _ _ _=>rfl
 have x42:∀a b c d:D,atI [a,b,c,d] 2=some c:=fun _ _ _ _=>rfl
 have x43:∀a b c d:D,atI [a,b,c,d] 3=some d:=fun _ _ _ _=>rfl
 have x20:∀a b:D,atI [a,b] 0=some a:=fun _ _=>rfl
 have x21:∀a b:D,atI [a,b] 1=some b:=fun _ _=>rfl
 cases g with
 |fin d=>simp [vY,gP] at hl
 |deal n ws=>simp [cZ,fW,fP,bf,aL,gIf,aM,au,aa,fC,gIx,dG,x30,bU,aJ,Me.let,Sl.let,rbg]
 |move s n ws=>
  obtain ⟨y,ey⟩:=Jj ws k l hl
  have ez:=qy ey
  have z1:r.1.length+1<=16777216:=by omega
  have z2:r.2.length+1<=16777216:=by omega
  rcases hs s n ws rfl with rfl | rfl
  ·simp [cZ,fW,fP,bf,aL,gIf,aM,au,aa,fC,gIx,dG,x40,x41,x42,x43,bU,aJ,Me.let,Sl.let,rbg,gNx,bC,bz,aj,aB,ez,x20,x21,rD2,cC,z1,rbm]
  ·simp [cZ,fW,fP,bf,aL,gIf,aM,au,aa,fC,gIx,dG,x40,x41,x42,x43,bU,aJ,Me.let,Sl.let,rbg,gNx,bC,bz,aj,aB,ez,x20,x21,rD2,cC,z2,rbm]
theorem Yn (w:List Int)(j:Int):kw (w++[j])≠kw w:=fun h=>by
 have:=BK h
 have:=congrArg List.length this
 simp at this
theorem Vj {w:List Int}{i j:Int}(h:i≠j):kw (w++[i])≠kw (w++[j]):=fun e=>h (by simpa using BK e)
theorem NT {g0 s2 s5:Sl}{ks:List (List Kt)}{ds:List D}{w:List Int}{g:Gm}{r:Rc}{k:Nat}{l:D}(hv:cA ks ds (kw w)=some (rD2 r))(hk:(gP (vY g))[k]? = some l)(hg:fH g)(hr:r.1.length<=1000/\r.2.length<=1000)
  (hs:∀s n ws,g=.move s n ws->s=1\/s=2) (hz:ks.length<=10000000) (hw:w.length<=1000):
  cM [g0,.ow (.dcu ks ds),s2,.fz (.tup (w.map D.int)),.fz (dG g),.fz (.int (k:Int))]=.ok (.nx,[g0,.ow (.dcu (jt ks ds (kw (w++[(k:Int)])) (rD2 (rbg g r l))).1 (jt ks ds (kw (w++[(k:Int)])) (rD2 (rbg g r l))).2),s2,.fz (.tup (w.map D.int)),.fz (dG g),.fz (.int (k:Int))]):=by
 have e:=Xr hk hg hr hs
 have z1:ks.length<16777216:=by omega
 have z2:w.length+1<=16777216:=by omega
 have kk:rn (.tup (w.map D.int++[.int (k:Int)]))=some (kw (w++[(k:Int)])):=by
  rw [← Nr]; simp
 have kk2:rn (.tup (w.map D.int))=some (kw w):=Nr w
 simp [cM,Af,fFn,aj,aB,aJ,au,aa,uQ,dcK,kk2,hv,e,wW,bz,cC,z2,kk,z1,oN]
theorem Fv {g0 s2:Sl}{w:List Int}{g:Gm}{r:Rc}(hg:fH g)(hr:r.1.length<=1000/\r.2.length<=1000)(hs:∀s n ws,g=.move s n ws->s=1\/s=2)(hw:w.length<=1000):
  ∀(c i:Nat) (ks:List (List Kt)) (ds:List D) (s5:Sl),i+c=(gP (vY g)).length->ks.length=ds.length->cA ks ds (kw w)=some (rD2 r)->ks.length+c<=1000000->
   ∃ks' ds' s5',bL (hName 5) cM ((List.range' i c).map fun (k:Nat)=>D.int k) [g0,.ow (.dcu ks ds),s2,.fz (.tup (w.map D.int)),.fz (dG g),s5]=.ok (.nx,[g0,.ow (.dcu ks' ds'),s2,.fz (.tup (w.map D.int)),.fz (dG g),s5'])/\ks'.length=ds'.length/\ks'.length<=ks.length+c/\
    (∀j l,i<=j->(gP (vY g))[j]? = some l->cA ks' ds' (kw (w++[(j:Int)]))=some (rD2 (rbg g r l)))/\(∀k',(∀j:Nat,i<=j->k'≠kw (w++[(j:Int)]))->cA ks' ds' k'=cA ks ds k')
 |0,i,ks,ds,s5,hc,hl,hv,hz=>⟨ks,ds,s5,rfl,hl,by omega,fun j l h1 h2=>by
   have:=(List.getElem?_eq_some_iff.mp h2).1
   omega,fun _ _=>rfl⟩
 |c+1,i,ks,ds,s5,hc,hl,hv,hz=>by
  have hi:i<(gP (vY g)).length:=by omega
  obtain ⟨l,el⟩:∃l,(gP (vY g))[i]? = some l:=⟨_,List.getElem?_eq_getElem hi⟩
  have st:=NT (g0:=g0) (s2:=s2) (s5:=s5) hv el hg hr hs (by omega) hw
  have hv1:cA (jt ks ds (kw (w++[(i:Int)])) (rD2 (rbg g r l))).1 (jt ks ds (kw (w++[(i:Int)])) (rD2 (rbg g r l))).2 (kw w)=some (rD2 r):=by rw [uK hl,if_neg (Yn w i)]; exact hv
  obtain ⟨l1,l2⟩:=Bw (k:=kw (w++[(i:Int)])) (d:=rD2 (rbg g r l)) hl
  obtain ⟨ks',ds',s5',e,a1,a2,a3,a4⟩:=Fv (g0:=g0) (s2:=s2) (w:=w) (g:=g) (r:=r) hg hr hs hw c (i+1) _ _ (.fz (.int (i:Int))) (by omega) l1 hv1 (by omega)
  refine ⟨ks',ds',s5',?_,a1,by omega,fun j l' h1 h2=>?_,fun k' h=>?_⟩
  ·rw [List.range'_succ,List.map_cons]
   rw [bY (m1:=[g0,.ow (.dcu ks ds),s2,.fz (.tup (w.map D.int)),.fz (dG g),.fz (.int (i:Int))]) rfl st]
   exact e
  ·by_cases q:i=j
   ·subst q
    rw [a4 _ fun j hj=>Vj (by omega),uK hl,if_pos rfl]
    rw [el] at h2; cases h2; rfl
   ·exact a3 j l' (by omega) h2
  ·rw [a4 k' fun j hj=>h j (by omega),uK hl,if_neg fun q=>h i (Nat.le_refl _) q.symm]
open PySem L2 Hd F
mutual
noncomputable def sdG:Gm->Prop
 | .fin _=>True
 | .deal _ ws=>sdW ws
 | .move s _ ws=>(s=1\/s=2)/\sdW ws
noncomputable def sdW:Ws->Prop
 | .nil=>True
 | .cons _ g r=>sdG g/\sdW r
end
noncomputable abbrev hPl:D->Me->Option Me:=iw 2 (aX (hName 3) (aX (hName 4) iH))
theorem xO (g:Gm):kids g=je (vY g):=by cases g <;> rfl
theorem yG {g0 s3 s4 s5:Sl}{ks:List (List Kt)}{ds found:List D}{w:List Int}{g:Gm}{r:Rc}(hl:ks.length=ds.length)(hv:cA ks ds (kw w)=some (rD2 r))(hg:fH g)(hr:r.1.length<=1000/\r.2.length<=1000)
  (hs:∀s n ws,g=.move s n ws->s=1\/s=2) (hz:ks.length<=100000) (hf:found.length<=100000) (hw:w.length<=1000):
  ∃ks' ds' s5',(hPl (pD (w,g)) [g0,.ow (.dcu ks ds),.ow (.lst found),s3,s4,s5]=some [g0,.ow (.dcu ks ds),.ow (.lst found),.fz (.tup (w.map D.int)),.fz (dG g),s5])/\
   aR [g0,.ow (.dcu ks ds),.ow (.lst found),.fz (.tup (w.map D.int)),.fz (dG g),s5]=.ok (.nx,[g0,.ow (.dcu ks' ds'),.ow (.lst (found++[trD (w,g,r)])),.fz (.tup (w.map D.int)),.fz (dG g),s5'])/\ks'.length=ds'.length/\ks'.length<=ks.length+jB (vY g)/\
    (∀(j:Nat) (l:D),(gP (vY g))[j]? = some l->cA ks' ds' (kw (w++[(j:Int)]))=some (rD2 (rbg g r l)))/\(∀k',(∀j:Nat,k'≠kw (w++[(j:Int)]))->cA ks' ds' k'=cA ks ds k'):=by
 have hb:=wC hg
 have hk:=vo hg
 have ek:(kids g).length=(gP (vY g)).length:=by rw [xO,gK,pN]
 obtain ⟨ks',ds',s5',e,a1,a2,a3,a4⟩:=Fv (g0:=g0) (s2:=.ow (.lst (found++[trD (w,g,r)]))) (w:=w) (g:=g) (r:=r) hg hr hs hw (kids g).length 0 ks ds s5 (by omega) hl hv (by omega)
 refine ⟨ks',ds',s5',rfl,?_,a1,by rw [← pN,← ek]; exact a2,fun j l h=>a3 j l (Nat.zero_le _) h,fun k' h=>a4 k' fun j _=>h j⟩
 have z1:found.length<16777216:=by omega
 have z3:((kids g).length:Int)<4611686018427387904:=by omega
 have kk2:rn (.tup (w.map D.int))=some (kw w):=Nr w
 have eL:fQ [g0,.ow (.dcu ks ds),.ow (.lst (found++[trD (w,g,r)])),.fz (.tup (w.map D.int)),.fz (dG g),s5]=.ok (.nx,[g0,.ow (.dcu ks' ds'),.ow (.lst (found++[trD (w,g,r)])),.fz (.tup (w.map D.int)),.fz (dG g),s5']):=by
  have e1:(aj (aQ ie (aj (fFn fD (aj (aJ 4) aB)) aB)) aB) [g0,.ow (.dcu ks ds),.ow (.lst (found++[trD (w,g,r)])),.fz (.tup (w.map D.int)),.fz (dG g),s5]=.ok [.int ((kids g).length:Int)]:=by
   simp [aQ,ie,fFn,aj,aB,aJ,hb]
  have e2:=Px e1 (by omega) (by omega)
  unfold fQ iQ
  rw [e2]
  show bL (hName 5) cM ((List.range (kids g).length).map fun (k:Nat)=>D.int k) _=_
  rw [List.range_eq_range']
  exact e
 simp only [trD] at eL ⊢
 simp [aR,aL,cP,bz,aj,aB,aJ,au,aa,uQ,dcK,kk2,hv,j8,putL,z1,eL]
theorem Ba (ws:Ws):(je ws).length<=((je ws).map szG).sum:=by
 induction je ws with
 |nil=>exact Nat.zero_le _
 |cons g l ih=>have:=rT g; simp; omega
mutual
theorem xN:∀(w:List Int) (g:Gm),(plG w g).length=szG g
 |w,.fin d=>rfl
 |w,.deal n ws=>by show (plW w 0 ws).length+1=szW ws+1; rw [Cj w 0 ws]
 |w,.move s n ws=>by show (plW w 0 ws).length+1=szW ws+1; rw [Cj w 0 ws]
theorem Cj:∀(w:List Int) (i:Nat) (ws:Ws),(plW w i ws).length=szW ws
 |w,i,.nil=>rfl
 |w,i,.cons l g r=>by show (plG (w++[(i:Int)]) g++plW w (i+1) r).length=szG g+szW r; rw [List.length_append,xN _ g,Cj w (i+1) r]
end
mutual
theorem NZ (g0:Sl):∀(g:Gm) (w:List Int) (r:Rc) (ks:List (List Kt)) (ds found:List D) (s3 s4 s5:Sl) (rest:List D),ks.length=ds.length->cA ks ds (kw w)=some (rD2 r)->fH g->sdG g->r.1.length+dp g<=1000->r.2.length+dp g<=1000->w.length+dp g<=1000->
  ks.length+szG g<=100001->found.length+szG g<=100000->
  ∃ks' ds' s3' s4' s5',bL hPl aR ((plG w g).map pD++rest) [g0,.ow (.dcu ks ds),.ow (.lst found),s3,s4,s5]=bL hPl aR rest [g0,.ow (.dcu ks' ds'),.ow (.lst (found++(prG w r g).map trD)),s3',s4',s5']/\ks'.length=ds'.length/\ks'.length+1<=ks.length+szG g/\
   (∀k',(∀u:List Int,u≠[]->k'≠kw (w++u))->cA ks' ds' k'=cA ks ds k')
 | .fin d,w,r,ks,ds,found,s3,s4,s5,rest,hl,hv,hg,hs,r1,r2,hw,hz,hf=>by
  have hsz:szG (.fin d)=1:=rfl
  obtain ⟨ks',ds',s5',e1,e2,a1,a2,a3,a4⟩:=yG (g0:=g0) (s3:=s3) (s4:=s4) (s5:=s5) (found:=found) (g:=.fin d) hl hv hg ⟨by omega,by omega⟩ (fun _ _ _ z=>by cases z) (by omega) (by omega) (by omega)
  refine ⟨ks',ds',.fz (.tup (w.map D.int)),.fz (dG (.fin d)),s5',?_,a1,by simpa [vY,jB,szG] using a2,fun k' h=>a4 k' fun j=>h [(j:Int)] (by simp)⟩
  show bL hPl aR (pD (w,.fin d)::rest) _=_
  rw [bY e1 e2]
  rfl
 | .deal n ws,w,r,ks,ds,found,s3,s4,s5,rest,hl,hv,hg,hs,r1,r2,hw,hz,hf=>by
  have hsz:szG (.deal n ws)=szW ws+1:=rfl
  have hdp:dp (.deal n ws)=dpW ws+1:=rfl
  have hlw:jB ws<=szW ws:=by rw [← gK,vL]; exact Ba ws
  obtain ⟨ks',ds',s5',e1,e2,a1,a2,a3,a4⟩:=yG (g0:=g0) (s3:=s3) (s4:=s4) (s5:=s5) (found:=found) (g:=.deal n ws) hl hv hg ⟨by omega,by omega⟩ (fun _ _ _ z=>by cases z) (by omega) (by omega) (by omega)
  have a2:ks'.length<=ks.length+jB ws:=a2
  obtain ⟨kt,dt,t3,t4,t5,e,b1,b2,b3⟩:=GX g0 ws w (fun _=>r) 0 ks' ds' (found++[trD (w,.deal n ws,r)]) (.fz (.tup (w.map D.int))) (.fz (dG (.deal n ws))) s5' rest a1 (fun j l h=>by rw [Nat.zero_add]; exact a3 j l h) hg.2 hs (fun l=>by omega) (fun l=>by omega) (by omega) (by omega) (by rw [List.length_append,List.length_singleton]; omega)
  refine ⟨kt,dt,t3,t4,t5,?_,b1,by omega,fun k' h=>?_⟩
  ·show bL hPl aR (pD (w,.deal n ws)::((plW w 0 ws).map pD++rest)) _=_
   rw [bY e1 e2,e]
   show bL _ _ _ [_,_,.ow (.lst (found++[trD (w,.deal n ws,r)]++(prW w (fun _=>r) 0 ws).map trD)),_,_,_]=bL _ _ _ [_,_,.ow (.lst (found++(trD (w,.deal n ws,r)::(prW w (fun _=>r) 0 ws).map trD))),_,_,_]
   rw [List.append_assoc]; rfl
  ·rw [b3 k' fun j u hu=>h _ (by simp),a4 k' fun j=>h [(j:Int)] (by simp)]
 | .move s n ws,w,r,ks,ds,found,s3,s4,s5,rest,hl,hv,hg,hs,r1,r2,hw,hz,hf=>by
  have hsz:szG (.move s n ws)=szW ws+1:=rfl
  have hdp:dp (.move s n ws)=dpW ws+1:=rfl
  have hlw:jB ws<=szW ws:=by rw [← gK,vL]; exact Ba ws
  obtain ⟨ks',ds',s5',e1,e2,a1,a2,a3,a4⟩:=yG (g0:=g0) (s3:=s3) (s4:=s4) (s5:=s5) (found:=found) (g:=.move s n ws) hl hv hg ⟨by omega,by omega⟩ (fun _ _ _ z=>by cases z; exact hs.1) (by omega) (by omega) (by omega)
  have a2:ks'.length<=ks.length+jB ws:=a2
  have rl:∀l,(rbm s n r l).1.length<=r.1.length+1/\(rbm s n r l).2.length<=r.2.length+1:=fun l=>by
   unfold rbm; split <;> simp
  obtain ⟨kt,dt,t3,t4,t5,e,b1,b2,b3⟩:=GX g0 ws w (rbm s n r) 0 ks' ds' (found++[trD (w,.move s n ws,r)]) (.fz (.tup (w.map D.int))) (.fz (dG (.move s n ws))) s5' rest a1 (fun j l h=>by rw [Nat.zero_add]; exact a3 j l h) hg.2 hs.2 (fun l=>by have:=(rl l).1; omega) (fun l=>by have:=(rl l).2; omega) (by omega) (by omega) (by rw [List.length_append,List.length_singleton]; omega)
  refine ⟨kt,dt,t3,t4,t5,?_,b1,by omega,fun k' h=>?_⟩
  ·show bL hPl aR (pD (w,.move s n ws)::((plW w 0 ws).map pD++rest)) _=_
   rw [bY e1 e2,e]
   show bL _ _ _ [_,_,.ow (.lst (found++[trD (w,.move s n ws,r)]++(prW w (rbm s n r) 0 ws).map trD)),_,_,_]=bL _ _ _ [_,_,.ow (.lst (found++(trD (w,.move s n ws,r)::(prW w (rbm s n r) 0 ws).map trD))),_,_,_]
   rw [List.append_assoc]; rfl
  ·rw [b3 k' fun j u hu=>h _ (by simp),a4 k' fun j=>h [(j:Int)] (by simp)]
theorem GX (g0:Sl):∀(ws:Ws) (w:List Int) (f:D->Rc) (i:Nat) (ks:List (List Kt)) (ds found:List D) (s3 s4 s5:Sl) (rest:List D),ks.length=ds.length->(∀(j:Nat) (l:D),(gP ws)[j]? = some l->cA ks ds (kw (w++[((i+j:Nat):Int)]))=some (rD2 (f l)))->wF ws->sdW ws->
  (∀l,(f l).1.length+dpW ws<=1000)->(∀l,(f l).2.length+dpW ws<=1000)->w.length+1+dpW ws<=1000->ks.length+szW ws<=100000+jB ws->found.length+szW ws<=100000->
  ∃ks' ds' s3' s4' s5',bL hPl aR ((plW w i ws).map pD++rest) [g0,.ow (.dcu ks ds),.ow (.lst found),s3,s4,s5]=bL hPl aR rest [g0,.ow (.dcu ks' ds'),.ow (.lst (found++(prW w f i ws).map trD)),s3',s4',s5']/\ks'.length=ds'.length/\ks'.length+jB ws<=ks.length+szW ws/\
   (∀k',(∀(j:Nat) (u:List Int),u≠[]->k'≠kw (w++((i+j:Nat):Int)::u))->cA ks' ds' k'=cA ks ds k')
 | .nil,w,f,i,ks,ds,found,s3,s4,s5,rest,hl,hv,hg,hs,r1,r2,hw,hz,hf=>⟨ks,ds,s3,s4,s5,by simp [plW,prW],hl,by simp [jB,szW],fun _ _=>rfl⟩
 | .cons l g r,w,f,i,ks,ds,found,s3,s4,s5,rest,hl,hv,hg,hs,r1,r2,hw,hz,hf=>by
  have hsz:szW (.cons l g r)=szG g+szW r:=rfl
  have hdp:dpW (.cons l g r)=max (dp g) (dpW r):=rfl
  have hlw:jB (.cons l g r)=jB r+1:=rfl
  have hl2:jB r<=szW r:=by rw [← gK,vL]; exact Ba r
  have hp:=rT g
  have q1:=r1 l
  have q2:=r2 l
  obtain ⟨ks',ds',t3,t4,t5,e,a1,a2,a3⟩:=NZ g0 g (w++[(i:Int)]) (f l) ks ds found s3 s4 s5 ((plW w (i+1) r).map pD++rest) hl (hv 0 l rfl) hg.1 hs.1 (by omega) (by omega) (by rw [List.length_append,List.length_singleton]; omega) (by omega) (by omega)
  have pl:(prG (w++[(i:Int)]) (f l) g).length=szG g:=by rw [← List.length_map (f:=fun p=>(p.1,p.2.1)),Ji]; exact xN _ g
  obtain ⟨kt,dt,u3,u4,u5,e',b1,b2,b3⟩:=GX g0 r w f (i+1) ks' ds' (found++(prG (w++[(i:Int)]) (f l) g).map trD) t3 t4 t5 rest a1 (fun j l' h=>by
   rw [a3 _ fun u hu z=>?_,← hv (j+1) l' (by simpa [gP] using h),show i+(j+1)=i+1+j by omega]
   have:=BK z
   simp at this
   omega) hg.2 hs.2 (fun l=>by have:=r1 l; omega) (fun l=>by have:=r2 l; omega) (by omega) (by omega) (by rw [List.length_append,List.length_map,pl]; omega)
  refine ⟨kt,dt,u3,u4,u5,?_,b1,by omega,fun k' h=>?_⟩
  ·show bL _ _ ((plG (w++[(i:Int)]) g++plW w (i+1) r).map pD++rest) _=_
   rw [List.map_append,List.append_assoc,e,e']
   show _=bL _ _ _ [_,_,.ow (.lst (found++(prG (w++[(i:Int)]) (f l) g++prW w f (i+1) r).map trD)),_,_,_]
   rw [List.map_append,List.append_assoc]
  ·rw [b3 k' fun j u hu=>by have:=h (j+1) u hu; rw [show i+(j+1)=i+1+j by omega] at this; exact this]
   refine a3 k' fun u hu=>?_
   have:=h 0 u hu
   simpa using this
end
open PySem L2 Hd F
theorem Tj {L:Me->Res (Fl×Me)}{d:D}{ps:List D}{a s3 s4 s5:Sl}(e:L [.fz d,.ow (.dcu [[]] [rD2 ([],[])]),.ow (.lst []),.un,.un,.un]=.ok (.nx,[.fz d,a,.ow (.lst ps),s3,s4,s5])):bf 6 1 (eE L) [d]=.ok (true,.lst ps):=by
 have k0:rn (.tup [])=some []:=rfl
 simp only [rD2] at e
 simp [bf,eE,aL,eX,Hh,bz,aB,aj,k0,fV,e,qF]
theorem O2 {g:Gm}(h:fH g)(hs:sdG g)(hd:dp g<=50)(hz:szG g<=10000):bG [dG g]=.ok (true,.lst ((prG [] ([],[]) g).map trD)):=by
 have e:=places_eq h hd (by omega)
 obtain ⟨ks',ds',s3',s4',s5',e2,_⟩:=NZ (.fz (dG g)) g [] ([],[]) [[]] [rD2 ([],[])] [] .un .un .un [] rfl (by simp [cA,kw]) h hs (by simp; omega) (by simp; omega) (by simp; omega) (by simp; omega) (by simp; omega)
 refine Tj (a:=.ow (.dcu ks' ds')) (s3:=s3') (s4:=s4') (s5:=s5') ?_
 have e1:gH (fFn dI (aj (aJ 0) aB)) [.fz (dG g),.ow (.dcu [[]] [rD2 ([],[])]),.ow (.lst []),.un,.un,.un]=.ok ((plG [] g).map pD):=by
  simp [gH,fFn,aj,aB,aJ,e]
 unfold jG iQ
 rw [e1]
 rw [List.append_nil] at e2
 exact e2
noncomputable def v8 (r:Rc)(s:Int):List D:=if s=1 then r.1 else r.2
noncomputable def jy (s:Int)(n:Str)(ws:Ws)(r:Rc):D:=.tup [.int s,.str n,.tup (gP ws),.tup (v8 r s)]
theorem rR:∀ws:Ws,fM (iw 2 (aX (hName 0) (aX (hName 1) iH))) jq (aJ 0) [.un,.un] (dWs ws)=.ok (gP ws)
 | .nil=>rfl
 | .cons l g r=>by
  have ih:=rR r
  have e:aJ 0 [.fz l,.fz (dG g)]=.ok l:=rfl
  unfold dWs fM
  simp [iw,aX,hName,iH,jq,e,ih,gP]
theorem PX {s:Int}{n:Str}{ws:Ws}(h:jB ws<=100):nZ [dG (.move s n ws)]=.ok (false,.tup (gP ws)):=by
 have x4:∀a b c d:D,atI [a,b,c,d] 3=some d:=fun _ _ _ _=>rfl
 have hz:(gP ws).length<=16777216:=by rw [pN]; omega
 have hz2:(dWs ws).length<=16777216:=by rw [oX]; omega
 have e:qx [.fz (dG (.move s n ws))]=.ok (.lst (gP ws)):=by
  simp [qx,du,pK,au,aa,fC,gIx,dG,x4,cMe,rR,hz,hz2]
 simp [nZ,tV,tW,bf,bU,aQ,aj,aB,Me.let,Sl.let,e,jZ,hz]
theorem Ob {s:Int}{n:Str}{ws:Ws}{r:Rc}(h:jB ws<=100)(hs:s=1\/s=2):mq [dG (.move s n ws),rD2 r]=.ok (false,jy s n ws r):=by
 have e:=PX (s:=s) (n:=n) h
 have x1:∀a b c d:D,atI [a,b,c,d] 1=some b:=fun _ _ _ _=>rfl
 have x2:∀a b c d:D,atI [a,b,c,d] 2=some c:=fun _ _ _ _=>rfl
 have y0:∀a b:D,atI [a,b] 0=some a:=fun _ _=>rfl
 have y1:∀a b:D,atI [a,b] 1=some b:=fun _ _=>rfl
 simp only [dG] at e
 rcases hs with rfl | rfl
 ·simp [mq,uy,vg,bf,bU,Me.let,Sl.let,bz,aj,aB,au,aa,fC,gIx,dG,x1,x2,fFn,aJ,e,rD2,F.eN,y0,y1,jy,v8]
 ·simp [mq,uy,vg,bf,bU,Me.let,Sl.let,bz,aj,aB,au,aa,fC,gIx,dG,x1,x2,fFn,aJ,e,rD2,F.eN,y0,y1,jy,v8]
noncomputable abbrev Tb:=List (List Kt)×List D
noncomputable def kn (s:Int)(n:Str):List Kt:=[.k (.inl s),.k (.inr n)]
noncomputable def tst (T:Tb)(p:List Int×Gm×Rc):Tb:=match p.2.1 with
 | .move s n ws=>if (cA T.1 T.2 (kn s n)).isSome then T else (T.1++[kn s n],T.2++[jy s n ws p.2.2])
 |_=>T
noncomputable def tbl (l:List (List Int×Gm×Rc)):Tb:=l.foldl tst ([],[])
theorem J5 (T:Tb)(p:List Int×Gm×Rc):(tst T p).1.length<=T.1.length+1:=by
 unfold tst
 split
 ·split <;> simp
 ·omega
noncomputable def okP (p:List Int×Gm×Rc):Prop:=match p.2.1 with
 | .move s _ ws=>(s=1\/s=2)/\jB ws<=100
 |_=>True
theorem Mq {g0 s2 s3 s4:Sl}{T:Tb}{p:List Int×Gm×Rc}(hp:okP p)(hz:T.1.length<=100000):∃m1,iw 3 (aX (hName 2) (aX (hName 3) (aX (hName 4) iH))) (trD p) [g0,.ow (.dcu T.1 T.2),s2,s3,s4]=some m1/\
  gC m1=.ok (.nx,[g0,.ow (.dcu (tst T p).1 (tst T p).2),.fz (.tup (p.1.map D.int)),.fz (dG p.2.1),.fz (rD2 p.2.2)]):=by
 refine ⟨[g0,.ow (.dcu T.1 T.2),.fz (.tup (p.1.map D.int)),.fz (dG p.2.1),.fz (rD2 p.2.2)],rfl,?_⟩
 obtain ⟨w,g,r⟩:=p
 have x20:∀a b:D,atI [a,b] 0=some a:=fun _ _=>rfl
 have x30:∀a b c:D,atI [a,b,c] 0=some a:=fun _ _ _=>rfl
 have x40:∀a b c d:D,atI [a,b,c,d] 0=some a:=fun _ _ _ _=>rfl
 have x41:∀a b c d:D,atI [a,b,c,d] 1=some b:=fun _ _ _ _=>rfl
 have x42:∀a b c d:D,atI [a,b,c,d] 2=some c:=fun _ _ _ _=>rfl
 cases g with
 |fin d=>simp [gC,gIf,aM,au,aa,fC,gIx,dG,x20,gNx,tst]
 |deal n ws=>simp [gC,gIf,aM,au,aa,fC,gIx,dG,x30,gNx,tst]
 |move s n ws=>
  have hp:(s=1\/s=2)/\jB ws<=100:=hp
  have e:=Ob (n:=n) (r:=r) hp.2 hp.1
  simp only [dG] at e
  have kk:rn (.tup [.int s,.str n])=some (kn s n):=rfl
  have z1:T.1.length<16777216:=by omega
  by_cases q:(cA T.1 T.2 (kn s n)).isSome=true
  ·simp [gC,gIf,aM,au,aa,fC,gIx,dG,x40,x41,x42,S7,wW,bz,aj,aB,fFn,aJ,e,kk,z1,tst,q,oN]
  ·simp [gC,gIf,aM,au,aa,fC,gIx,dG,x40,x41,x42,S7,wW,bz,aj,aB,fFn,aJ,e,kk,z1,tst,q,oN]
theorem DG {g0:Sl}:∀(l:List (List Int×Gm×Rc)) (T:Tb) (s2 s3 s4:Sl),(∀p∈l,okP p)->T.1.length+l.length<=100000->∃s2' s3' s4',bL (iw 3 (aX (hName 2) (aX (hName 3) (aX (hName 4) iH)))) gC (l.map trD) [g0,.ow (.dcu T.1 T.2),s2,s3,s4]=.ok (.nx,[g0,.ow (.dcu (l.foldl tst T).1 (l.foldl tst T).2),s2',s3',s4'])
 |[],T,s2,s3,s4,_,_=>⟨s2,s3,s4,rfl⟩
 |p::l,T,s2,s3,s4,hp,hz=>by
  have hz':T.1.length+(l.length+1)<=100000:=hz
  obtain ⟨m1,e1,e2⟩:=Mq (g0:=g0) (s2:=s2) (s3:=s3) (s4:=s4) (T:=T) (hp p List.mem_cons_self) (by omega)
  have:=J5 T p
  obtain ⟨a,b,c,e⟩:=DG l (tst T p) (.fz (.tup (p.1.map D.int))) (.fz (dG p.2.1)) (.fz (rD2 p.2.2)) (fun q hq=>hp q (List.mem_cons_of_mem _ hq)) (by omega)
  exact ⟨a,b,c,by rw [List.map_cons,bY e1 e2,e]; rfl⟩
theorem tab_run {L:Me->Res (Fl×Me)}{d:D}{ks:List (List Kt)}{ds:List D}{s2 s3 s4:Sl}(e:L [.fz d,.ow (.dcu [] []),.un,.un,.un]=.ok (.nx,[.fz d,.ow (.dcu ks ds),s2,s3,s4])):bf 5 1 (qj L) [d]=.ok (true,.lst ds):=by
 simp [bf,qj,aL,eX,wA,e,iV,Me.let,Sl.let,Hk,aa]
mutual
theorem zT:∀(w:List Int) (r:Rc) (g:Gm),fH g->sdG g->∀p∈prG w r g,okP p
 |w,r,.fin d,_,_,p,hp=>by
  have:p=(w,.fin d,r):=by simpa [prG] using hp
  rw [this]; exact True.intro
 |w,r,.deal n ws,h,hs,p,hp=>by
  rcases List.mem_cons.mp (show p∈(w,Gm.deal n ws,r)::prW w (fun _=>r) 0 ws from hp) with e | e
  ·rw [e]; exact True.intro
  ·exact HQ w _ 0 ws h.2 hs p e
 |w,r,.move s n ws,h,hs,p,hp=>by
  rcases List.mem_cons.mp (show p∈(w,Gm.move s n ws,r)::prW w (rbm s n r) 0 ws from hp) with e | e
  ·rw [e]; exact ⟨hs.1,h.1⟩
  ·exact HQ w _ 0 ws h.2 hs.2 p e
theorem HQ:∀(w:List Int) (f:D->Rc) (i:Nat) (ws:Ws),wF ws->sdW ws->∀p∈prW w f i ws,okP p
 |w,f,i,.nil,_,_,p,hp=>by cases hp
 |w,f,i,.cons l g r,h,hs,p,hp=>by
  rcases List.mem_append.mp (show p∈prG (w++[(i:Int)]) (f l) g++prW w f (i+1) r from hp) with e | e
  ·exact zT _ _ g h.1 hs.1 p e
  ·exact HQ w f (i+1) r h.2 hs.2 p e
end
theorem Dg (w:List Int)(r:Rc)(g:Gm):(prG w r g).length=szG g:=by rw [← List.length_map (f:=fun p=>(p.1,p.2.1)),Ji]; exact xN _ g
theorem table_eq {g:Gm}(h:fH g)(hs:sdG g)(hd:dp g<=50)(hz:szG g<=10000):lG [dG g]=.ok (true,.lst (tbl (prG [] ([],[]) g)).2):=by
 have e:=O2 h hs hd hz
 obtain ⟨a,b,c,e2⟩:=DG (g0:=.fz (dG g)) (prG [] ([],[]) g) ([],[]) .un .un .un (zT _ _ g h hs) (by rw [Dg]; simp; omega)
 refine tab_run (ks:=(tbl (prG [] ([],[]) g)).1) (s2:=a) (s3:=b) (s4:=c) ?_
 have e1:gH (fFn bG (aj (aJ 0) aB)) [.fz (dG g),.ow (.dcu [] []),.un,.un,.un]=.ok ((prG [] ([],[]) g).map trD):=by
  simp [gH,fFn,aj,aB,aJ,e]
 unfold vy iQ
 rw [e1]
 exact e2
end Pk
namespace F
open PySem L2 Hd
noncomputable def rq (r:Rat):Q2:=(r.num,(r.den:Int))
noncomputable def rD (r:Rat):D:=qD (rq r)
theorem Qg (r:Rat):rD r=.tup [.int r.num,.int r.den]:=rfl
theorem p7 (r:Rat):1<=(r.den:Int):=by have:=r.den_pos; omega
theorem Wv (r:Rat):gI r.num r.den=1:=by
 unfold gI
 have:=r.reduced
 unfold Nat.Coprime at this
 show ((Int.gcd r.num (r.den:Int):Nat):Int)=1
 unfold Int.gcd
 simp [this]
theorem Dc {t b:Int}(hb:b≠0):(lt t b,lb t b)=rq (Rat.divInt t b):=by
 have h:=Rat.num_divInt_den (Rat.divInt t b)
 have hd:((Rat.divInt t b).den:Int)≠0:=by have:=p7 (Rat.divInt t b); omega
 have h2:=(Rat.divInt_eq_divInt_iff hd hb).mp h
 obtain ⟨z1,z2⟩:=WK hb (p7 (Rat.divInt t b)) (Wv (Rat.divInt t b)) (t:=t) h2.symm
 exact Prod.ext z1 z2
theorem Qq (r:Rat):Rat.divInt r.num r.den=r:=Rat.num_divInt_den r
theorem Us (a b:Rat):Rat.divInt (a.num * b.den+b.num * a.den) (a.den * b.den)=a+b:=by
 have ha:=p7 a
 have hb:=p7 b
 rw [← Rat.divInt_add_divInt _ _ (by omega) (by omega),Qq,Qq]
noncomputable def Sz (k:Nat)(r:Rat):Prop:=r.num.natAbs<2 ^ k/\r.den<2 ^ k
theorem Nj {t b:Int}{k:Nat}(hb:b≠0)(h1:t.natAbs<2 ^ k)(h2:b.natAbs<2 ^ k):Sz k (Rat.divInt t b):=by
 have e:=Dc (t:=t) hb
 have e1:=congrArg Prod.fst e
 have e2:=congrArg Prod.snd e
 have e1:lt t b=(Rat.divInt t b).num:=e1
 have e2:lb t b=((Rat.divInt t b).den:Int):=e2
 have l1:=Ux (t:=t) hb
 have l2:=Uq (t:=t) hb
 rw [e1] at l1
 rw [e2] at l2
 exact ⟨by omega,by omega⟩
theorem V8 {a b:Rat}{k l:Nat}(ha:Sz k a)(hb:Sz l b):Sz (k+l+1) (a+b):=by
 rw [← Us]
 have pa:=p7 a
 have pb:=p7 b
 have h1:(a.num * b.den).natAbs<2 ^ (k+l):=Dm ha.1 (by simpa using hb.2)
 have h2:(b.num * a.den).natAbs<2 ^ (k+l):=by rw [Nat.add_comm]; exact Dm hb.1 (by simpa using ha.2)
 have h3:((a.den:Int) * b.den).natAbs<2 ^ (k+l):=Dm (by simpa using ha.2) (by simpa using hb.2)
 refine Nj ?_ (Vr h1 h2) (uJ h3 (by omega))
 exact Int.mul_ne_zero (by omega) (by omega)
theorem Km:Sz 1 0:=⟨by decide,by decide⟩
theorem Iw {k:Nat}{r:Rat}(h:Sz k r)(hk:k<=4000):Bg r.num/\Bg (r.den:Int):=⟨uJ h.1 hk,by unfold Bg; exact uJ (by simpa using h.2) hk⟩
theorem WW {k l:Nat}{a b:Rat}(h:Sz k a)(g:Sz l b)(hk:k+l<=4000):Bg ((a.den:Int) * b.den):=uJ (Dm (by simpa using h.2) (by simpa using g.2)) hk
theorem Oj (a b:Rat):(a.den:Int) * b.den≠0:=Int.mul_ne_zero (by have:=p7 a; omega) (by have:=p7 b; omega)
end F
namespace Pk
open PySem L2 Hd F
theorem Ti (x y:Sl):∀(n:Nat) (a b:Int) (z:Sl),b.toNat=n->0<=a->0<=b->∃k z',wh ju jC k [x,y,.fz (.int a),.fz (.int b),z] =
  some (.ok (.nx,[x,y,.fz (.int (gI a b)),.fz (.int 0),z'])):=by
 intro n
 induction n using Nat.strongRecOn with
 |_ n ih=>
  intro a b z hn ha hb
  by_cases h0:b=0
  ·subst h0
   refine ⟨1,z,?_⟩
   rw [Jg ha]
   exact xF rfl
  ·have hb':0<b:=by omega
   have hm:=Int.emod_lt_of_pos a hb'
   have hm0:=Int.emod_nonneg a h0
   obtain ⟨k,z',e⟩:=ih (a % b).toNat (by omega) b (a % b) (.fz (.int (a % b))) rfl hb hm0
   rw [Ip ha hb'] at e
   refine ⟨k+1,z',xT (m':=[x,y,.fz (.int b),.fz (.int (a % b)),.fz (.int (a % b))]) ?_ ?_ e⟩
   ·simp [ju,aM,aa,fC,h0]
   ·simp [jC,aL,bC,au,aa,aJ,bQ,mdI,h0,hb']
theorem m9 (a b:Int):gj [.int a,.int b]=.ok (false,.int (gI a b)):=by
 obtain ⟨k,z',e⟩:=Ti (.fz (.int a)) (.fz (.int b)) _ (if a<0 then -a else a) (if b<0 then -b else b) .un rfl (by split <;> omega) (by split <;> omega)
 rw [Ou] at e
 have e2:=rO k e
 simp [gj,bf,kO,kI,nW,aL,bC,aQ,aj,aB,aa,Gf,e2,bU,Me.let,Sl.let,aJ]
theorem Yq {i:Int}{k:Nat}(h:i.natAbs<2 ^ k)(hk:k<=4000:=by decide):Bg i:=uJ h hk
theorem Fq {t b:Int}(hb:b≠0)(hB:Bg b):nQ [.int t,.int b]=.ok (false,.tup [.int (lt t b),.int (lb t b)]):=by
 have hd:=Iv (t:=t) hb
 have hB':Bg (dv t b):=by
  have h1:=Uj (a:=t) hb
  have h2:=QB t b
  unfold Bg at hB ⊢
  omega
 have e1:dvI t (dv t b)=lt t b:=by
  unfold dvI lt
  split
  ·rw [Int.fdiv_eq_ediv_of_nonneg t (by omega)]
  ·rfl
 have e2:dvI b (dv t b)=lb t b:=by
  unfold dvI lb
  split
  ·rw [Int.fdiv_eq_ediv_of_nonneg b (by omega)]
  ·rfl
 by_cases h:b<0
 ·have e:dv t b=-gI t b:=if_pos h
  rw [e] at e1 e2 hd hB'
  have hg:gI t b≠0:=by omega
  simp [hg,nQ,bf,uD,vp,aL,bC,fFn,aj,aB,aJ,aa,m9,gIf,aM,fC,gLt,h,fUn,rE,bU,Me.let,Sl.let,bz,au,eY,hB',e1,e2]
 ·have e:dv t b=gI t b:=if_neg h
  rw [e] at e1 e2 hd hB'
  have hg:gI t b≠0:=by omega
  simp [hg,nQ,bf,uD,vp,aL,bC,fFn,aj,aB,aJ,aa,m9,gIf,aM,fC,gLt,h,gNx,bU,Me.let,Sl.let,bz,au,eY,hB',e1,e2,hd]
theorem ix0 {a b:D}:atI [a,b] 0=some a:=rfl
theorem ix1 {a b:D}:atI [a,b] 1=some b:=rfl
theorem Hu {t b:Int}(hb:b≠0)(hB:Bg b):nQ [.int t,.int b]=.ok (false,rD (Rat.divInt t b)):=by
 rw [Fq hb hB]
 have e:=Dc (t:=t) hb
 show _=Res.ok (false,qD (rq (Rat.divInt t b)))
 rw [← e]
 rfl
theorem MK {a b:Rat}{k l:Nat}(ha:Sz k a)(hb:Sz l b)(hk:k+l<=4000):yt [rD a,rD b]=.ok (false,rD (a+b)):=by
 obtain ⟨a1,a2⟩:=Iw ha (by omega)
 obtain ⟨b1,b2⟩:=Iw hb (by omega)
 have e:=Hu (t:=a.num * b.den+b.num * a.den) (Oj a b) (WW ha hb hk)
 rw [Us] at e
 simp [yt,bf,Hc,Gr,bU,Me.let,Sl.let,fFn,aj,aB,au,aa,fC,gIx,Qg,ix0,ix1,mV,cC,a1,a2,b1,b2]
 rw [e]
 simp [Qg]
theorem LC {a b:Rat}{k l:Nat}(ha:Sz k a)(hb:Sz l b)(hk:k+l<=4000):vq [rD a,rD b]=.ok (false,.bl (decide (a.num * b.den<b.num * a.den))):=by
 obtain ⟨a1,a2⟩:=Iw ha (by omega)
 obtain ⟨b1,b2⟩:=Iw hb (by omega)
 simp [vq,bf,CJ,Ds,bU,Me.let,Sl.let,rZ,aj,aB,au,aa,fC,gIx,Qg,ix0,ix1,mV,a1,a2,b1,b2,gLt]
theorem Dz {a:Sl}(k:Nat):∀(l:List Rat) (q:Rat) (j:Nat) (s2:Sl),Sz j q->(∀x∈l,Sz k x)->j+l.length * (k+1)<=2000->k<=2000->
  ∃s2',bL (hName 2) wj (l.map rD) [a,.fz (rD q),s2]=.ok (.nx,[a,.fz (rD (q+l.sum)),s2'])
 |[],q,j,s2,_,_,_,_=>⟨s2,by simp [bL,Rat.add_zero]⟩
 |x::l,q,j,s2,hq,hl,hj,hk=>by
  have hx:=hl x List.mem_cons_self
  have hj':j+(l.length+1) * (k+1)<=2000:=hj
  rw [Nat.add_mul] at hj'
  have e:=MK hq hx (by omega)
  obtain ⟨s2',e'⟩:=Dz k l (q+x) (j+k+1) (.fz (rD x)) (V8 hq hx) (fun y hy=>hl y (List.mem_cons_of_mem _ hy)) (by omega) hk
  refine ⟨s2',?_⟩
  rw [List.map_cons,bY (m1:=[a,.fz (rD q),.fz (rD x)]) (m2:=[a,.fz (rD (q+x)),.fz (rD x)]) rfl (by simp [wj,bC,fFn,aj,aB,aJ,e]),e',List.sum_cons,Rat.add_assoc]
theorem Lb {l:List Rat}{k:Nat}(hl:∀x∈l,Sz k x)(hj:1+l.length * (k+1)<=2000)(hk:k<=2000):ux [.lst (l.map rD)]=.ok (false,rD l.sum):=by
 obtain ⟨s2',e⟩:=Dz (a:=.fz (.lst (l.map rD))) k l 0 1 .un Km hl hj hk
 have e0:rD 0=.tup [.int 0,.int 1]:=rfl
 rw [Rat.zero_add,e0] at e
 simp [ux,bf,Bx,Aw,zU,aL,bC,fC,iQ,gH,aJ,aa,e,bU,Me.let,Sl.let]
open PySem L2 Hd F
mutual
theorem O5:∀(w:List Int) (g:Gm),∀p∈plG w g,p.1.length<=w.length+dp g
 |w,.fin d,p,hp=>by
  have:p=(w,.fin d):=by simpa [plG] using hp
  rw [this]; simp
 |w,.deal n ws,p,hp=>by
  rcases List.mem_cons.mp (show p∈(w,Gm.deal n ws)::plW w 0 ws from hp) with e | e
  ·rw [e]; simp
  ·have:=By w 0 ws p e
   show p.1.length<=w.length+(dpW ws+1)
   omega
 |w,.move s n ws,p,hp=>by
  rcases List.mem_cons.mp (show p∈(w,Gm.move s n ws)::plW w 0 ws from hp) with e | e
  ·rw [e]; simp
  ·have:=By w 0 ws p e
   show p.1.length<=w.length+(dpW ws+1)
   omega
theorem By:∀(w:List Int) (i:Nat) (ws:Ws),∀p∈plW w i ws,p.1.length<=w.length+1+dpW ws
 |w,i,.nil,p,hp=>by cases hp
 |w,i,.cons l g r,p,hp=>by
  have hd:dpW (.cons l g r)=max (dp g) (dpW r):=rfl
  rcases List.mem_append.mp (show p∈plG (w++[(i:Int)]) g++plW w (i+1) r from hp) with e | e
  ·have:=O5 _ g p e
   rw [List.length_append,List.length_singleton] at this
   omega
  ·have:=By w (i+1) r p e
   omega
end
theorem v5 {α:Type}{f:α->D}{b:α->Bool}:∀l:List α,(∀x∈l,f x=.bl (b x))->vd (l.map f)=some (l.map b)
 |[],_=>rfl
 |x::l,h=>by
  have ih:=v5 l fun y hy=>h y (List.mem_cons_of_mem _ hy)
  simp [vd,h x List.mem_cons_self,ih]
theorem Qj {α:Type}{f:α->D}{l:List α}(h:∀x∈l,f x=.bl false):Rn [.lst (l.map f)]=some (.bl false):=by
 have:=v5 (b:=fun _=>false) l h
 show (vd (l.map f)).map (fun bs=>D.bl (bs.any id))=_
 rw [this]
 simp
theorem W4 {g:Gm}(h:fH g)(hd:dp g<=12)(hz:szG g<=64):cW [dG g]=.ok (false,.non):=by
 have e:=places_eq h (by omega) (by omega)
 have hl:(plG [] g).length<=64:=by rw [xN]; exact hz
 have ec:fM (iw 2 (aX (hName 0) (aX (hName 1) iH))) jq fY [.un,.un] ((plG [] g).map pD)=.ok ((plG [] g).map fun _=>.bl false):=gJ _ fun p hp=>by
  refine ⟨[.fz (.tup (p.1.map D.int)),.fz (dG p.2)],rfl,rfl,?_⟩
  have:=O5 [] g p hp
  have q:¬((p.1.length:Int) > 12):=by simp at this; omega
  have q':¬(12:Int)<(p.1.length:Int):=q
  simp [fY,rZ,aQ,ie,aj,aB,aa,fC,gGt,q,q']
 have q1:¬((plG [] g).length:Int) > 64:=by omega
 have z1:(plG [] g).length<=16777216:=by omega
 have eq:gh [.fz (dG g),.fz (.lst ((plG [] g).map pD))]=.ok (.lst ((plG [] g).map fun _=>.bl false)):=by
  simp [gh,du,gH,aa,cMe,ec,z1]
 have ea:=Qj (f:=fun _:List Int×Gm=>D.bl false) (l:=plG [] g) fun _ _=>rfl
 simp [cW,gQ,gW,bf,aL,bC,fFn,aj,aB,aJ,e,gIf,aM,aQ,ie,aa,fC,gGt,q1,gNx,fTv,eq,ea]
noncomputable def sdD:D->Int
 | .tup [.int s,_,_,_]=>s
 |_=>0
noncomputable def wdD:D->Nat
 | .tup [_,_,.tup ws,_]=>ws.length
 |_=>0
noncomputable def Qf (d:D):Prop:=∃s n ws r,d=jy s n ws r
theorem wK {h:D->Me->Option Me}{ft:Me->Res Bool}{fe:Me->Res D}{m0:Me}(P:D->Bool):∀ds:List D,(∀d∈ds,∃m1,h d m0=some m1/\ft m1=.ok (P d)/\fe m1=.ok d)->fM h ft fe m0 ds=.ok (ds.filter P)
 |[],_=>rfl
 |d::ds,H=>by
  obtain ⟨m1,e1,e2,e3⟩:=H d List.mem_cons_self
  have ih:=wK P ds fun d hd=>H d (List.mem_cons_of_mem _ hd)
  unfold fM
  rw [List.filter_cons]
  by_cases q:P d=true
  ·simp only [e1,e2,q,e3,ih,if_pos]
  ·have q':P d=false:=by simpa using q
   simp only [e1,e2,q',ih]
   simp
theorem Bm:∀(l:List (List Int×Gm×Rc)) (T:Tb) (d:D),d∈(l.foldl tst T).2->d∈T.2\/∃p∈l,∃s n ws,p.2.1=.move s n ws/\d=jy s n ws p.2.2
 |[],T,d,h=>.inl h
 |p::l,T,d,h=>by
  rcases Bm l (tst T p) d h with e | ⟨q,hq,e⟩
  ·unfold tst at e
   split at e
   ·rename_i s n ws ep
    split at e
    ·exact .inl e
    ·rcases List.mem_append.mp e with e | e
     ·exact .inl e
     ·exact .inr ⟨p,List.mem_cons_self,s,n,ws,ep,by simpa using e⟩
   ·exact .inl e
  ·exact .inr ⟨q,List.mem_cons_of_mem _ hq,e⟩
theorem Js {l:List (List Int×Gm×Rc)}{d:D}(h:d∈(tbl l).2):Qf d:=by
 rcases Bm l ([],[]) d h with e | ⟨p,_,s,n,ws,_,e⟩
 ·cases e
 ·exact ⟨s,n,ws,p.2.2,e⟩
theorem RX {g:Gm}{s:Int}(h:fH g)(hs:sdG g)(hd:dp g<=50)(hz:szG g<=10000):pJ [dG g,.int s]=.ok (true,.lst ((tbl (prG [] ([],[]) g)).2.filter fun d=>decide (sdD d=s))):=by
 have e:=table_eq h hs hd hz
 have ec:fM (hName 0) (aM gEq (au gIx (aa 0) (fC (.int 0))) (aa 1)) (aJ 0) [.un,.fz (.int s)] (tbl (prG [] ([],[]) g)).2=.ok ((tbl (prG [] ([],[]) g)).2.filter fun d=>decide (sdD d=s)):=wK _ _ fun d hd=>by
  obtain ⟨a,n,ws,r,rfl⟩:=Js hd
  refine ⟨[.fz (jy a n ws r),.fz (.int s)],rfl,?_,rfl⟩
  have x0:∀a b c d:D,atI [a,b,c,d] 0=some a:=fun _ _ _ _=>rfl
  simp [aM,au,aa,fC,gIx,jy,x0,sdD]
  exact decide_eq_decide.mpr Iff.rfl
 have z1:(tbl (prG [] ([],[]) g)).2.length<=16777216:=by
  have:∀(l:List (List Int×Gm×Rc)) (T:Tb),(l.foldl tst T).2.length<=T.2.length+l.length:=by
   intro l
   induction l with
   |nil=>intro T; simp
   |cons p l ih=>
    intro T
    have:=ih (tst T p)
    have q:(tst T p).2.length<=T.2.length+1:=by
     unfold tst
     split
     ·split <;> simp
     ·omega
    simp only [List.foldl_cons,List.length_cons]
    omega
  have:=this (prG [] ([],[]) g) ([],[])
  rw [Dg] at this
  simp at this
  have e:tbl (prG [] ([],[]) g)=(prG [] ([],[]) g).foldl tst ([],[]):=rfl
  rw [e]
  omega
 have eq:qY [.fz (dG g),.fz (.int s)]=.ok (.lst ((tbl (prG [] ([],[]) g)).2.filter fun d=>decide (sdD d=s))):=by
  simp [qY,du,gH,fFn,aj,aB,aJ,e,cMe,Sl.bor,ec,z1]
 simp [pJ,vB,v7,bf,iV,Me.let,Sl.let,eq]
theorem Du:∀l:List D,uU (l.map fun d=>D.int (wdD d:Int))=some (l.map fun d=>(wdD d:Int))
 |[]=>rfl
 |d::l=>by simp [uU,Du l]
theorem count_eq {l:List D}(h:∀d∈l,Qf d)(hz:l.length<=10000):jc [.lst l]=.ok (false,.int (l.map fun d=>(wdD d:Int)).sum):=by
 have ec:fM (hName 0) jq mX [.un] (l.map id)=.ok (l.map fun d=>D.int (wdD d:Int)):=gJ l fun d hd=>by
  obtain ⟨a,n,ws,r,rfl⟩:=h d hd
  refine ⟨[.fz (jy a n ws r)],rfl,rfl,?_⟩
  have x2:∀a b c d:D,atI [a,b,c,d] 2=some c:=fun _ _ _ _=>rfl
  simp [mX,aQ,ie,aj,aB,au,aa,fC,gIx,jy,x2,wdD]
 rw [List.map_id] at ec
 have z1:l.length<=16777216:=by omega
 have eq:m7 [.fz (.lst l)]=.ok (.lst (l.map fun d=>D.int (wdD d:Int))):=by
  simp [m7,du,gH,aa,cMe,ec,z1]
 have es:M9 [.lst (l.map fun d=>D.int (wdD d:Int))]=some (.int (l.map fun d=>(wdD d:Int)).sum):=by
  show (uU _).map _=_
  rw [Du]; rfl
 simp [jc,pH,oZ,bf,bU,Me.let,Sl.let,aQ,aj,aB,eq,es]
noncomputable def okT (l:List D)(s:Int):Prop:=(l.filter fun d=>decide (sdD d=s)).length<=8/\((l.filter fun d=>decide (sdD d=s)).map fun d=>(wdD d:Int)).sum<=24
theorem Ew {g:Gm}{s:Int}{s1 s2:Sl}(h:fH g)(hs:sdG g)(hd:dp g<=50)(hz:szG g<=10000)(ht:okT (tbl (prG [] ([],[]) g)).2 s):∃s2',dH [.fz (dG g),.fz (.int s),s2]=.ok (.nx,[.fz (dG g),.fz (.int s),s2']):=by
 have e:=RX (s:=s) h hs hd hz
 generalize hl:((tbl (prG [] ([],[]) g)).2.filter fun d=>decide (sdD d=s))=l at e
 have hr:∀d∈l,Qf d:=fun d hd=>by rw [← hl] at hd; exact Js (List.mem_filter.mp hd).1
 have t1:l.length<=8:=by rw [← hl]; exact ht.1
 have t2:(l.map fun d=>(wdD d:Int)).sum<=24:=by rw [← hl]; exact ht.2
 have ec:=count_eq hr (by omega)
 have q1:¬(l.length:Int) > 8:=by omega
 have q2:¬(l.map fun d=>(wdD d:Int)).sum > 24:=by omega
 refine ⟨.fz (.lst l),?_⟩
 simp [dH,aL,bC,fFn,aj,aB,aJ,e,gIf,aM,aQ,ie,aa,fC,gGt,q1,gNx,ec,q2]
theorem Wu {g:Gm}(h:fH g)(hs:sdG g)(hd:dp g<=50)(hz:szG g<=10000)(h1:okT (tbl (prG [] ([],[]) g)).2 1)(h2:okT (tbl (prG [] ([],[]) g)).2 2):dq [dG g]=.ok (false,.non):=by
 obtain ⟨a,e1⟩:=Ew (s1:=.un) (s2:=.un) h hs hd hz h1
 obtain ⟨b,e2⟩:=Ew (s1:=.un) (s2:=a) h hs hd hz h2
 have e:gF [.fz (dG g),.un,.un]=.ok (.nx,[.fz (dG g),.fz (.int 2),b]):=by
  have ei:pK (bz (aj (fC (.int 1)) (aj (fC (.int 2)) aB))) [.fz (dG g),.un,.un]=.ok [.int 1,.int 2]:=rfl
  unfold gF iQ
  rw [ei]
  show bL (hName 1) dH [.int 1,.int 2] _=_
  rw [bY (m1:=[.fz (dG g),.fz (.int 1),.un]) rfl e1,bY (m1:=[.fz (dG g),.fz (.int 2),a]) rfl e2]
  rfl
 simp [dq,iC,iK,bf,e]
theorem WQ {g:Gm}(h:fH g)(hs:sdG g)(hd:dp g<=12)(hz:szG g<=64)(h1:okT (tbl (prG [] ([],[]) g)).2 1)(h2:okT (tbl (prG [] ([],[]) g)).2 2):dm [dG g]=.ok (false,.non):=by
 have e1:=W4 h hd hz
 have e2:=Wu h hs (by omega) (by omega) h1 h2
 simp [dm,iu,iI,bf,aL,gEx,fFn,aj,aB,aJ,e1,e2]
open PySem L2 Hd F
noncomputable def smQ (d:Q2):Prop:=d.1.natAbs<=999999999999/\d.2<=999
noncomputable def Rt (ws:Ws):Prop:=∃l:List Rat,gP ws=l.map rD/\(∀x∈l,Sz 20 x/\smQ (rq x)/\0<x.num)/\l.length<=3/\l.sum=1
noncomputable def okF (g:Gm):Prop:=match g with
 | .fin d=>smQ d
 | .deal _ ws=>Rt ws
 |_=>True
theorem V0 {d:Q2}:bR [dG (.fin d)]=.ok (true,.lst [qD d]):=by
 have x0:∀a b:D,atI [a,b] 0=some a:=fun _ _=>rfl
 have x1:∀a b:D,atI [a,b] 1=some b:=fun _ _=>rfl
 simp [bR,ik,iD,bf,aL,gIf,aM,au,aa,fC,gIx,dG,x0,x1,iV,Me.let,Sl.let,fV,aj,aB]
theorem J7 {n:Str}{ws:Ws}(h:jB ws<=100):bR [dG (.deal n ws)]=.ok (true,.lst (gP ws)):=by
 have x0:∀a b c:D,atI [a,b,c] 0=some a:=fun _ _ _=>rfl
 have x2:∀a b c:D,atI [a,b,c] 2=some c:=fun _ _ _=>rfl
 have hz:(gP ws).length<=16777216:=by rw [pN]; omega
 have hz2:(dWs ws).length<=16777216:=by rw [oX]; omega
 have e:lu [.fz (dG (.deal n ws))]=.ok (.lst (gP ws)):=by
  simp [lu,du,pK,au,aa,fC,gIx,dG,x2,cMe,rR,hz,hz2]
 simp only [dG] at e
 simp [bR,ik,iD,bf,aL,gIf,aM,au,aa,fC,gIx,dG,x0,iV,Me.let,Sl.let,gNx,e]
theorem Rv {s:Int}{n:Str}{ws:Ws}:bR [dG (.move s n ws)]=.ok (true,.lst []):=by
 have x0:∀a b c d:D,atI [a,b,c,d] 0=some a:=fun _ _ _ _=>rfl
 simp [bR,ik,iD,bf,aL,gIf,aM,au,aa,fC,gIx,dG,x0,iV,Me.let,Sl.let,gNx,fV,aB]
theorem QK {d:Q2}(h:smQ d):oh [qD d]=.ok (false,.bl false):=by
 have x0:∀a b:D,atI [a,b] 0=some a:=fun _ _=>rfl
 have x1:∀a b:D,atI [a,b] 1=some b:=fun _ _=>rfl
 have q1:¬(if d.1<0 then -d.1 else d.1) > 999999999999:=by have:=h.1; split <;> omega
 have q2:¬d.2 > 999:=by have:=h.2; omega
 simp [oh,uo,tH,bf,bU,Me.let,Sl.let,fOr,fTv,rZ,aQ,Gf,aj,aB,au,aa,fC,gIx,qD,x0,x1,gGt,q1,q2]
theorem Qt {g0 : Sl} {w : D} {g : Gm} (h : okF g) (hl : fH g) : cg [g0, .fz w, .fz (dG g)] = .ok (.nx, [g0, .fz w, .fz (dG g)]) := by
  have main : ∀ l : List Q2, (∀ d ∈ l, smQ d) → l.length ≤ 1000 → bR [dG g] = .ok (true, .lst (l.map qD)) → cg [g0, .fz w, .fz (dG g)] = .ok (.nx, [g0, .fz w, .fz (dG g)]) := fun l hl hz e => by
    have ec : fM (hName 0) jq dU [.un] (l.map qD) = .ok (l.map fun _ => .bl false) := gJ l fun d hd => by
      refine ⟨[.fz (qD d)], rfl, rfl, ?_⟩
      simp [dU, fFn, aj, aB, aJ, QK (hl d hd)]
    have z1 : l.length ≤ 16777216 := by omega
    have eq : dY [g0, .fz w, .fz (dG g)] = .ok (.lst (l.map fun _ => .bl false)) := by
      simp [dY, du, gH, fFn, aj, aB, aJ, e, cMe, ec, z1]
    have ea := Qj (f := fun _ : Q2 => D.bl false) (l := l) fun _ _ => rfl
    simp [cg, gIf, fTv, aQ, aj, aB, eq, ea, gNx]
  cases g with
  | fin d => exact main [d] (fun x hx => by have : x = d := by simpa using hx
                                            rw [this]; exact h) (by simp) V0
  | deal n ws =>
    obtain ⟨l, e, h1, h2, _⟩ := h
    refine main (l.map rq) (fun d hd => ?_) (by simp; omega) ?_
    · obtain ⟨x, hx, rfl⟩ := List.mem_map.mp hd
      exact (h1 x hx).2.1
    · rw [J7 hl.1, e, List.map_map]; rfl
  | move s n ws => exact main [] (fun _ z => by cases z) (by simp) Rv
theorem Fj {g0:Sl}:∀(l:List (List Int×Gm)) (s1 s2:Sl),(∀p∈l,okF p.2/\fH p.2)->∃s1' s2',bL (iw 2 (aX (hName 1) (aX (hName 2) iH))) cg (l.map pD) [g0,s1,s2]=.ok (.nx,[g0,s1',s2'])
 |[],s1,s2,_=>⟨s1,s2,rfl⟩
 |p::l,s1,s2,h=>by
  obtain ⟨a,b,e⟩:=Fj l (.fz (.tup (p.1.map D.int))) (.fz (dG p.2)) fun q hq=>h q (List.mem_cons_of_mem _ hq)
  obtain ⟨h1,h2⟩:=h p List.mem_cons_self
  exact ⟨a,b,by rw [List.map_cons,bY (m1:=[g0,.fz (.tup (p.1.map D.int)),.fz (dG p.2)]) rfl (Qt h1 h2),e]⟩
theorem VP {g:Gm}(h:fH g)(hd:dp g<=50)(hz:szG g<=10000)(hf:∀p∈plG [] g,okF p.2/\fH p.2):cI [dG g]=.ok (false,.non):=by
 have e:=places_eq h hd (by omega)
 obtain ⟨a,b,e2⟩:=Fj (g0:=.fz (dG g)) (plG [] g) .un .un hf
 have eL:dW [.fz (dG g),.un,.un]=.ok (.nx,[.fz (dG g),a,b]):=by
  have e1:gH (fFn dI (aj (aJ 0) aB)) [.fz (dG g),.un,.un]=.ok ((plG [] g).map pD):=by
   simp [gH,fFn,aj,aB,aJ,e]
  unfold dW iQ
  rw [e1]
  exact e2
 simp [cI,fG,fL,bf,eL]
theorem HW {α:Type}{f:α->D}{l:List α}(h:∀x∈l,f x=.bl true):TQ [.lst (l.map f)]=some (.bl true):=by
 have:=v5 (b:=fun _=>true) l h
 show (vd (l.map f)).map (fun bs=>D.bl (bs.all id))=_
 rw [this]
 simp
theorem Ly {ws:Ws}(h:Rt ws):jM [.lst (gP ws)]=.ok (false,.bl true):=by
 obtain ⟨l,e,h1,h2,h3⟩:=h
 rw [e]
 have et:=Lb (k:=20) (fun x hx=>(h1 x hx).1) (by omega) (by omega)
 rw [h3] at et
 have ec:fM (hName 0) jq nH [.un] (l.map rD)=.ok (l.map fun _=>.bl true):=gJ l fun x hx=>by
  refine ⟨[.fz (rD x)],rfl,rfl,?_⟩
  have eu:=LC Km (h1 x hx).1 (by omega)
  have e0:rD 0=.tup [.int 0,.int 1]:=rfl
  have q:(0:Rat).num * x.den<x.num * (0:Rat).den:=by
   have:=(h1 x hx).2.2
   show 0 * (x.den:Int)<x.num * 1
   omega
  rw [e0,decide_eq_true q] at eu
  simp [nH,fFn,aj,aB,fC,aJ,eu]
 have z1:l.length<=16777216:=by omega
 have eq:nY [.fz (.lst (l.map rD))]=.ok (.lst (l.map fun _=>.bl true)):=by
  simp [nY,du,gH,aa,cMe,ec,z1]
 have ea:=HW (f:=fun _:Rat=>D.bl true) (l:=l) fun _ _=>rfl
 have e1:rD 1=.tup [.int 1,.int 1]:=rfl
 rw [e1] at et
 have eg:gEq (.tup [.int 1,.int 1]) (.tup [.int 1,.int 1])=some true:=yJ (by simp [okD,o5]) (by simp [pI,n6])
 simp [jM,qt,qg,bf,bU,Me.let,Sl.let,Wx,fTv,aQ,aj,aB,eq,ea,rZ,fFn,aJ,et,fC,eg]
open PySem L2 Hd F
noncomputable def okR (d:D):Prop:=okD d=true/\pI d<=20
theorem Ny {w w':D}{s:Int}{n:Str}{ws:Ws}{r:Rc}(h:okR (jy s n ws r)):cY [w,jy s n ws r,w',jy s n ws r]=.ok (false,.non):=by
 have x2:∀a b c d:D,atI [a,b,c,d] 2=some c:=fun _ _ _ _=>rfl
 have x3:∀a b c d:D,atI [a,b,c,d] 3=some d:=fun _ _ _ _=>rfl
 obtain ⟨h1,h2⟩:=h
 simp [jy,okD,o5] at h1
 simp [jy,pI,n6] at h2
 have e1:gNe (.tup (gP ws)) (.tup (gP ws))=some false:=yP (by simp [okD,h1]) (by simp [pI]; omega)
 have e2:gNe (.tup (v8 r s)) (.tup (v8 r s))=some false:=yP (by simp [okD,h1]) (by simp [pI]; omega)
 simp [cY,jr,jo,bf,aL,gIf,aM,au,aa,fC,gIx,jy,x2,x3,e1,e2,gNx]
theorem Wz {s t:Int}{n m:Str}(h:kn s n=kn t m):s=t/\n=m:=by
 unfold kn at h
 injection h with h1 h2
 injection h1 with h1
 injection h1 with h1
 injection h2 with h2
 injection h2 with h2
 injection h2 with h2
 exact ⟨h1,h2⟩
noncomputable def UT (ρ:Int->Str->D)(p:List Int×Gm×Rc):Prop:=∀s n ws,p.2.1=.move s n ws->jy s n ws p.2.2=ρ s n/\okR (ρ s n)
noncomputable def Fst (ρ:Int->Str->D)(ks:List (List Kt))(ds:List D):Prop:=∀s n d,cA ks ds (kn s n)=some d->∃w:D,d=.tup [w,ρ s n]
theorem RD {ρ:Int->Str->D}{g0 s2 s3 s4 s5 s6:Sl}{ks:List (List Kt)}{ds:List D}{p:List Int×Gm×Rc}(hl:ks.length=ds.length)(hz:ks.length<=100000)(hp:okP p)(hf:okF p.2.1)(hg:fH p.2.1)(hs:UT ρ p)(hi:Fst ρ ks ds):
  ∃m1 ks' ds' s5' s6',iw 3 (aX (hName 2) (aX (hName 3) (aX (hName 4) iH))) (trD p) [g0,.ow (.dcu ks ds),s2,s3,s4,s5,s6]=some m1/\
   cJ m1=.ok (.nx,[g0,.ow (.dcu ks' ds'),.fz (.tup (p.1.map D.int)),.fz (dG p.2.1),.fz (rD2 p.2.2),s5',s6'])/\ks'.length=ds'.length/\ks'.length<=ks.length+1/\Fst ρ ks' ds':=by
 obtain ⟨w,g,r⟩:=p
 have x20:∀a b:D,atI [a,b] 0=some a:=fun _ _=>rfl
 have x21:∀a b:D,atI [a,b] 1=some b:=fun _ _=>rfl
 have x30:∀a b c:D,atI [a,b,c] 0=some a:=fun _ _ _=>rfl
 have x40:∀a b c d:D,atI [a,b,c,d] 0=some a:=fun _ _ _ _=>rfl
 have x41:∀a b c d:D,atI [a,b,c,d] 1=some b:=fun _ _ _ _=>rfl
 have x42:∀a b c d:D,atI [a,b,c,d] 2=some c:=fun _ _ _ _=>rfl
 cases g with
 |fin d=>
  refine ⟨_,ks,ds,s5,s6,rfl,?_,hl,by omega,hi⟩
  simp [cJ,aL,gIf,mF,aM,au,aa,fC,gIx,dG,x20,gNx]
 |deal n ws=>
  have e1:=J7 (n:=n) hg.1
  have e2:=Ly hf
  simp only [dG] at e1
  refine ⟨_,ks,ds,s5,s6,rfl,?_,hl,by omega,hi⟩
  simp [cJ,aL,gIf,mF,aM,au,aa,fC,gIx,dG,x30,gNx,jE,fTv,fFn,aj,aB,aJ,e1,e2]
 |move s n ws=>
  have hp:(s=1\/s=2)/\jB ws<=100:=hp
  obtain ⟨hr,hk⟩:=hs s n ws rfl
  have hr:jy s n ws r=ρ s n:=hr
  have e:=Ob (n:=n) (r:=r) hp.2 hp.1
  have kk:rn (.tup [.int s,.str n])=some (kn s n):=rfl
  have z1:ks.length<16777216:=by omega
  have eo:∀a b:D,cY [a,jy s n ws r,b,jy s n ws r]=.ok (false,.non):=fun a b=>Ny (by rw [hr]; exact hk)
  simp only [dG] at e
  cases q:cA ks ds (kn s n) with
  |some d=>
   obtain ⟨w',rfl⟩:=hi s n d q
   rw [← hr] at q
   refine ⟨_,ks,ds,.fz (jy s n ws r),.fz (.tup [w',jy s n ws r]),rfl,?_,hl,by omega,hi⟩
   simp [cJ,aL,gIf,mF,aM,au,aa,fC,gIx,dG,x40,x41,x42,gNx,bC,fFn,aj,aB,aJ,e,zp,J8,wW,bz,kk,z1,q,gEx,x20,x21,eo]
  |none=>
   have hn:kn s n∉ks:=fun hk=>by
    have:∀{ks:List (List Kt)} {ds:List D},ks.length=ds.length->kn s n∈ks->cA ks ds (kn s n)≠none:=by
     intro ks
     induction ks with
     |nil=>intro ds _ h; cases h
     |cons a ks ih=>
      intro ds hl h
      cases ds with
      |nil=>simp at hl
      |cons x ds=>
       unfold cA
       by_cases qa:a=kn s n
       ·rw [if_pos qa]; simp
       ·rw [if_neg qa]
        rcases List.mem_cons.mp h with e | e
        ·exact absurd e.symm qa
        ·exact ih (by simpa using hl) e
    exact this hl hk q
   refine ⟨_,ks++[kn s n],ds++[.tup [.tup (w.map D.int),jy s n ws r]],.fz (jy s n ws r),.fz (.tup [.tup (w.map D.int),jy s n ws r]),rfl,?_,by simp [hl],by simp,fun s' n' d' h=>?_⟩
   ·simp [cJ,aL,gIf,mF,aM,au,aa,fC,gIx,dG,x40,x41,x42,gNx,bC,fFn,aj,aB,aJ,e,zp,J8,wW,bz,kk,z1,q,gEx,x20,x21,eo,oN]
   ·rw [BW hl hn] at h
    by_cases qk:kn s n=kn s' n'
    ·rw [if_pos qk] at h
     obtain ⟨rfl,rfl⟩:=Wz qk
     cases h
     exact ⟨_,by rw [hr]⟩
    ·rw [if_neg qk] at h
     exact hi s' n' d' h
theorem Kd {ρ:Int->Str->D}{g0:Sl}:∀(l:List (List Int×Gm×Rc)) (ks:List (List Kt)) (ds:List D) (s2 s3 s4 s5 s6:Sl),ks.length=ds.length->ks.length+l.length<=100000->(∀p∈l,okP p/\okF p.2.1/\fH p.2.1/\UT ρ p)->Fst ρ ks ds->
  ∃m',bL (iw 3 (aX (hName 2) (aX (hName 3) (aX (hName 4) iH)))) cJ (l.map trD) [g0,.ow (.dcu ks ds),s2,s3,s4,s5,s6]=.ok (.nx,m')
 |[],ks,ds,s2,s3,s4,s5,s6,_,_,_,_=>⟨_,rfl⟩
 |p::l,ks,ds,s2,s3,s4,s5,s6,hl,hz,hp,hi=>by
  have hz':ks.length+(l.length+1)<=100000:=hz
  obtain ⟨p1,p2,p3,p4⟩:=hp p List.mem_cons_self
  obtain ⟨m1,ks',ds',s5',s6',e1,e2,a1,a2,a3⟩:=RD (g0:=g0) (s2:=s2) (s3:=s3) (s4:=s4) (s5:=s5) (s6:=s6) hl (by omega) p1 p2 p3 p4 hi
  obtain ⟨m',e⟩:=Kd (ρ:=ρ) (g0:=g0) l ks' ds' (.fz (.tup (p.1.map D.int))) (.fz (dG p.2.1)) (.fz (rD2 p.2.2)) s5' s6' a1 (by omega) (fun q hq=>hp q (List.mem_cons_of_mem _ hq)) a3
  exact ⟨m',by rw [List.map_cons,bY e1 e2,e]⟩
structure Gd (g:Gm):Prop where
 len:fH g
 sd:sdG g
 dep:dp g<=12
 sz:szG g<=64
 row:∃ρ,∀p∈prG [] ([],[]) g,UT ρ p
 fr:∀p∈prG [] ([],[]) g,okF p.2.1/\fH p.2.1
 t1:okT (tbl (prG [] ([],[]) g)).2 1
 t2:okT (tbl (prG [] ([],[]) g)).2 2
theorem Yo {g:Gm}(G:Gd g):fZ [dG g]=.ok (false,.non):=by
 have e:=O2 G.len G.sd (by have:=G.dep; omega) (by have:=G.sz; omega)
 obtain ⟨ρ,hr⟩:=G.row
 have ok:=zT [] ([],[]) g G.len G.sd
 obtain ⟨m',e2⟩:=Kd (ρ:=ρ) (g0:=.fz (dG g)) (prG [] ([],[]) g) [] [] .un .un .un .un .un rfl (by rw [Dg]; have:=G.sz; simp; omega) (fun p hp=>⟨ok p hp,(G.fr p hp).1,(G.fr p hp).2,hr p hp⟩) (fun s n d h=>by cases h)
 have eL:jw [.fz (dG g),.ow (.dcu [] []),.un,.un,.un,.un,.un]=.ok (.nx,m'):=by
  have e1:gH (fFn bG (aj (aJ 0) aB)) [.fz (dG g),.ow (.dcu [] []),.un,.un,.un,.un,.un]=.ok ((prG [] ([],[]) g).map trD):=by
   simp [gH,fFn,aj,aB,aJ,e]
  unfold jw iQ
  rw [e1]
  exact e2
 simp [fZ,kW,kY,bf,aL,eX,wA,eL]
theorem TV {g:Gm}(G:Gd g):ur [dG g]=.ok (true,.lst (tbl (prG [] ([],[]) g)).2):=by
 have e1:=WQ G.len G.sd G.dep G.sz G.t1 G.t2
 have e2:=VP G.len (by have:=G.dep; omega) (by have:=G.sz; omega) fun p hp=>by
  rw [← Ji [] ([],[]) g] at hp
  obtain ⟨q,hq,rfl⟩:=List.mem_map.mp hp
  exact G.fr q hq
 have e3:=Yo G
 have e4:=table_eq G.len G.sd (by have:=G.dep; omega) (by have:=G.sz; omega)
 simp [ur,Hy,GZ,bf,aL,gEx,fFn,aj,aB,aJ,e1,e2,e3,iV,Me.let,Sl.let,O3,e4]
end Pk
namespace K13
open PySem L2 Hd F Pk
theorem itD {f:Me->Res (List D)}{m:Me}{i j:Int}(h:f m=.ok [.int i,.int j,.int (-1)])(h1:-1000000000<=i)(h2:i<=1000000000)(h3:-1000000000<=j)(h4:j<=1000000000):Q3 f m=.ok ((List.range (i - j).toNat).map fun (k:Nat)=>D.int (i - k)):=by
 unfold Q3
 rw [h]
 show (if -1000000000<=i/\i<=1000000000/\-1000000000<=j/\j<=1000000000 then _ else _)=_
 rw [if_pos ⟨h1,h2,h3,h4⟩]
noncomputable def ptW (f:D->Rc):Ws->List (Gm×Rc)
 | .nil=>[]
 | .cons l g r=>(g,f l)::ptW f r
noncomputable def ptG (g:Gm)(r:Rc):List (Gm×Rc):=ptW (rbg g r) (vY g)
noncomputable def iW (p:Gm×Rc):D:=.tup [dG p.1,rD2 p.2]
noncomputable def ch (w:List Int)(L:List (Gm×Rc))(i:Nat):List (List Int×Gm×Rc):=(L.zipIdx i).map fun p=>(w++[(p.2:Int)],p.1.1,p.1.2)
theorem Hz (w:List Int)(f:D->Rc):∀(i:Nat) (ws:Ws),prW w f i ws=(ch w (ptW f ws) i).flatMap fun p=>prG p.1 p.2.2 p.2.1
 |i,.nil=>rfl
 |i,.cons l g r=>by
  show prG (w++[(i:Int)]) (f l) g++prW w f (i+1) r=_
  rw [Hz w f (i+1) r]
  rfl
theorem UG (w:List Int)(r:Rc)(g:Gm):prG w r g=(w,g,r)::(ch w (ptG g r) 0).flatMap fun p=>prG p.1 p.2.2 p.2.1:=by
 cases g with
 |fin d=>rfl
 |deal n ws=>show (w,Gm.deal n ws,r)::prW w (fun _=>r) 0 ws=_; rw [Hz]; rfl
 |move s n ws=>show (w,Gm.move s n ws,r)::prW w (rbm s n r) 0 ws=_; rw [Hz]; rfl
theorem JW (f:D->Rc):∀ws:Ws,(ptW f ws).length=jB ws
 | .nil=>rfl
 | .cons l g r=>by show (ptW f r).length+1=_; rw [JW f r]; rfl
theorem Ca (f:D->Rc):∀ws:Ws,(ptW f ws).map (·.1)=je ws
 | .nil=>rfl
 | .cons l g r=>by show g::(ptW f r).map (·.1)=_; rw [Ca f r]; rfl
theorem yN {n:Str}{r:Rc}:∀ws:Ws,fM (iw 2 (aX (hName 0) (aX (hName 1) iH))) jq mL [.un,.un,.fz (rD2 r)] (dWs ws)=.ok ((ptW (fun _=>r) ws).map iW)
 | .nil=>rfl
 | .cons l g rr=>by
  have ih:=yN (n:=n) (r:=r) rr
  have e:mL [.fz l,.fz (dG g),.fz (rD2 r)]=.ok (iW (g,r)):=rfl
  unfold dWs fM
  simp [iw,aX,hName,iH,jq,e,ih,ptW]
theorem yc {g0 s1 s2 s3 s10:Sl}{s:Int}{n:Str}{W:D}{r:Rc}(hs:s=1\/s=2)(hr:r.1.length<=1000/\r.2.length<=1000):∀(ws:Ws) (P:List D) (s7 s8 s9:Sl),P.length+jB ws<=1000->
  ∃s7' s8' s9',bL (iw 2 (aX (hName 7) (aX (hName 8) iH))) gG (dWs ws) [g0,s1,s2,s3,.fz (.tup [.str "move",.int s,.str n,W]),.fz (rD2 r),.ow (.lst P),s7,s8,s9,s10]=.ok (.nx,[g0,s1,s2,s3,.fz (.tup [.str "move",.int s,.str n,W]),.fz (rD2 r),.ow (.lst (P++(ptW (rbm s n r) ws).map iW)),s7',s8',s9',s10])
 | .nil,P,s7,s8,s9,_=>⟨s7,s8,s9,by simp [dWs,bL,ptW]⟩
 | .cons l g rr,P,s7,s8,s9,hz=>by
  have hz':P.length+(jB rr+1)<=1000:=hz
  obtain ⟨a,b,c,e⟩:=yc (g0:=g0) (s1:=s1) (s2:=s2) (s3:=s3) (s10:=s10) (s:=s) (n:=n) (W:=W) (r:=r) hs hr rr (P++[iW (g,rbm s n r l)]) (.fz l) (.fz (dG g)) (.ow (.lst [.tup (rbm s n r l).1,.tup (rbm s n r l).2])) (by rw [List.length_append,List.length_singleton]; omega)
  refine ⟨a,b,c,?_⟩
  have x41:∀a b c d:D,atI [a,b,c,d] 1=some b:=fun _ _ _ _=>rfl
  have x42:∀a b c d:D,atI [a,b,c,d] 2=some c:=fun _ _ _ _=>rfl
  have x20:∀a b:D,atI [a,b] 0=some a:=fun _ _=>rfl
  have x21:∀a b:D,atI [a,b] 1=some b:=fun _ _=>rfl
  have n0:ixN 2 0=some 0:=rfl
  have n1:ixN 2 1=some 1:=rfl
  have z1:r.1.length+1<=16777216:=by omega
  have z2:r.2.length+1<=16777216:=by omega
  have z3:P.length<16777216:=by omega
  have st:gG [g0,s1,s2,s3,.fz (.tup [.str "move",.int s,.str n,W]),.fz (rD2 r),.ow (.lst P),.fz l,.fz (dG g),s9,s10]=.ok (.nx,[g0,s1,s2,s3,.fz (.tup [.str "move",.int s,.str n,W]),.fz (rD2 r),.ow (.lst (P++[iW (g,rbm s n r l)])),.fz l,.fz (dG g),.ow (.lst [.tup (rbm s n r l).1,.tup (rbm s n r l).2]),s10]):=by
   rcases hs with rfl | rfl
   ·simp [gG,aL,eX,aQ,xU,aj,aB,aa,rD2,uw,au,gIx,x41,x42,fC,F.eN,x20,x21,j8,putL,bz,aJ,cC,z1,n0,cP,jZ,z3,iW,rbm]
   ·simp [gG,aL,eX,aQ,xU,aj,aB,aa,rD2,uw,au,gIx,x41,x42,fC,F.eN,x20,x21,j8,putL,bz,aJ,cC,z2,n1,cP,jZ,z3,iW,rbm]
  show bL _ _ (.tup [l,dG g]::dWs rr) _=_
  rw [bY (m1:=[g0,s1,s2,s3,.fz (.tup [.str "move",.int s,.str n,W]),.fz (rD2 r),.ow (.lst P),.fz l,.fz (dG g),s9,s10]) rfl st,e]
  rw [List.append_assoc]
  rfl
theorem zA {g0 s1 s4 s5 s7 s8 s9:Sl}{w:List Int}{L:List (Gm×Rc)}(hw:w.length<=1000):∀(c:Nat) (S:List D) (s10:Sl),c<=L.length->S.length+c<=100000->
  ∃s10',bL (hName 10) jl ((List.range c).map fun (k:Nat)=>D.int ((c:Int) - 1 - k)) [g0,s1,.ow (.lst S),.fz (.tup (w.map D.int)),s4,s5,.ow (.lst (L.map iW)),s7,s8,s9,s10]=.ok (.nx,[g0,s1,.ow (.lst (S++(((ch w L 0).take c).map trD).reverse)),.fz (.tup (w.map D.int)),s4,s5,.ow (.lst (L.map iW)),s7,s8,s9,s10'])
 |0,S,s10,_,_=>⟨s10,by simp [bL]⟩
 |c+1,S,s10,hc,hz=>by
  have hi:c<L.length:=by omega
  obtain ⟨a,e⟩:=zA (g0:=g0) (s1:=s1) (s4:=s4) (s5:=s5) (s7:=s7) (s8:=s8) (s9:=s9) (L:=L) hw c (S++[trD (w++[(c:Int)],L[c].1,L[c].2)]) (.fz (.int (c:Int))) (by omega) (by rw [List.length_append,List.length_singleton]; omega)
  refine ⟨a,?_⟩
  have el:(L.map iW)[c]? = some (iW L[c]):=by rw [List.getElem?_map,List.getElem?_eq_getElem hi]; rfl
  have ea:=qy el
  have x20:∀a b:D,atI [a,b] 0=some a:=fun _ _=>rfl
  have x21:∀a b:D,atI [a,b] 1=some b:=fun _ _=>rfl
  have z1:w.length+1<=16777216:=by omega
  have z2:S.length<16777216:=by omega
  have st:jl [g0,s1,.ow (.lst S),.fz (.tup (w.map D.int)),s4,s5,.ow (.lst (L.map iW)),s7,s8,s9,.fz (.int (c:Int))]=.ok (.nx,[g0,s1,.ow (.lst (S++[trD (w++[(c:Int)],L[c].1,L[c].2)])),.fz (.tup (w.map D.int)),s4,s5,.ow (.lst (L.map iW)),s7,s8,s9,.fz (.int (c:Int))]):=by
   simp [jl,cP,j8,putL,bz,aj,aB,au,aa,aJ,cC,z1,gIx,ea,iW,x20,x21,fC,z2,trD]
  have er:(List.range (c+1)).map (fun (k:Nat)=>D.int (((c+1:Nat):Int) - 1 - k))=D.int (c:Int)::(List.range c).map fun (k:Nat)=>D.int ((c:Int) - 1 - k):=by
   rw [List.range_succ_eq_map,List.map_cons,List.map_map]
   congr 1
   ·congr 1; omega
   ·refine List.map_congr_left fun k _=>?_
    show D.int _=D.int _
    congr 1
    simp only [Nat.succ_eq_add_one]
    omega
  rw [er,bY (m1:=[g0,s1,.ow (.lst S),.fz (.tup (w.map D.int)),s4,s5,.ow (.lst (L.map iW)),s7,s8,s9,.fz (.int (c:Int))]) rfl st,e]
  have et:(ch w L 0).take (c+1)=(ch w L 0).take c++[(w++[(c:Int)],L[c].1,L[c].2)]:=by
   have hl:c<(ch w L 0).length:=by unfold ch; simp; exact hi
   rw [List.take_succ_eq_append_getElem hl]
   congr 1
   simp [ch]
  rw [et,List.map_append,List.reverse_append]
  simp
theorem TX {g0 s3 s4 s5 s6 s7 s8 s9 s10:Sl}{F0 S:List D}{w:List Int}{g:Gm}{r:Rc}(h:fH g)(hs:∀s n ws,g=.move s n ws->s=1\/s=2)(hr:r.1.length<=1000/\r.2.length<=1000)(hw:w.length<=1000)(hf:F0.length<=100000)(hS:S.length<=90000):
  ∃t3 t4 t5 t6 t7 t8 t9 t10,eU [g0,.ow (.lst F0),.ow (.lst (S++[trD (w,g,r)])),s3,s4,s5,s6,s7,s8,s9,s10]=.ok (.nx,[g0,.ow (.lst (F0++[trD (w,g,r)])),.ow (.lst (S++((ch w (ptG g r) 0).map trD).reverse)),t3,t4,t5,t6,t7,t8,t9,t10]):=by
 have x20:∀a b:D,atI [a,b] 0=some a:=fun _ _=>rfl
 have x30:∀a b c:D,atI [a,b,c] 0=some a:=fun _ _ _=>rfl
 have x32:∀a b c:D,atI [a,b,c] 2=some c:=fun _ _ _=>rfl
 have x40:∀a b c d:D,atI [a,b,c,d] 0=some a:=fun _ _ _ _=>rfl
 have x43:∀a b c d:D,atI [a,b,c,d] 3=some d:=fun _ _ _ _=>rfl
 have z1:F0.length<16777216:=by omega
 have main:∀(P:List (Gm×Rc)) (u7 u8 u9:Sl),P=ptG g r->P.length<=100->∃t10,m5 [g0,.ow (.lst (F0++[trD (w,g,r)])),.ow (.lst S),.fz (.tup (w.map D.int)),.fz (dG g),.fz (rD2 r),.ow (.lst (P.map iW)),u7,u8,u9,s10] =
   .ok (.nx,[g0,.ow (.lst (F0++[trD (w,g,r)])),.ow (.lst (S++((ch w (ptG g r) 0).map trD).reverse)),.fz (.tup (w.map D.int)),.fz (dG g),.fz (rD2 r),.ow (.lst (P.map iW)),u7,u8,u9,t10]):=fun P u7 u8 u9 hP hl=>by
  obtain ⟨t10,e⟩:=zA (g0:=g0) (s1:=.ow (.lst (F0++[trD (w,g,r)]))) (s4:=.fz (dG g)) (s5:=.fz (rD2 r)) (s7:=u7) (s8:=u8) (s9:=u9) (w:=w) (L:=P) hw P.length S s10 (Nat.le_refl _) (by omega)
  refine ⟨t10,?_⟩
  have e1:(aj (au eN (aQ ie (aj (aa 6) aB)) (fC (.int 1))) (aj (fUn rE (fC (.int 1))) (aj (fUn rE (fC (.int 1))) aB))) [g0,.ow (.lst (F0++[trD (w,g,r)])),.ow (.lst S),.fz (.tup (w.map D.int)),.fz (dG g),.fz (rD2 r),.ow (.lst (P.map iW)),u7,u8,u9,s10]=.ok [.int ((P.length:Int) - 1),.int (-1),.int (-1)]:=by
   simp [aj,aB,au,aQ,ie,aa,fC,F.eN,fUn,rE]
  have e2:=itD e1 (by omega) (by omega) (by omega) (by omega)
  unfold m5 iQ
  rw [e2]
  have e3:((P.length:Int) - 1 - -1).toNat=P.length:=by omega
  rw [e3]
  have e4:(ch w P 0).take P.length=ch w P 0:=List.take_of_length_le (by unfold ch; simp)
  rw [e4,hP] at e
  rw [hP]
  exact e
 have hlp:(ptG g r).length<=100:=by
  unfold ptG
  rw [JW,← gK,← xO]
  exact vo h
 cases g with
 |fin d=>
  obtain ⟨t10,e⟩:=main [] s7 s8 s9 rfl (by simp)
  refine ⟨.fz (.tup (w.map D.int)),.fz (dG (.fin d)),.fz (rD2 r),.ow (.lst []),s7,s8,s9,t10,?_⟩
  simp only [trD,dG,List.map_nil] at e ⊢
  simp [eU,aL,Fw,Et,j8,putL,iw,aX,hName,iH,cP,bz,aj,aB,aJ,z1,eX,fV,gIf,aM,au,aa,fC,gIx,x20,gNx,e]
 |deal n ws=>
  obtain ⟨t10,e⟩:=main (ptW (fun _=>r) ws) s7 s8 s9 rfl hlp
  have ec:=yN (n:=n) (r:=r) ws
  have hz2:(dWs ws).length<=16777216:=by rw [oX]; have:=h.1; omega
  have eq:∀a b c,mQ [g0,a,b,c,.fz (dG (.deal n ws)),.fz (rD2 r),.ow (.lst []),s7,s8,s9,s10]=.ok (.lst ((ptW (fun _=>r) ws).map iW)):=fun a b c=>by
   simp [mQ,du,pK,au,aa,fC,gIx,dG,x32,cMe,Sl.bor,ec,hz2]
  refine ⟨.fz (.tup (w.map D.int)),.fz (dG (.deal n ws)),.fz (rD2 r),.ow (.lst ((ptW (fun _=>r) ws).map iW)),s7,s8,s9,t10,?_⟩
  simp only [trD,dG] at e eq ⊢
  simp [eU,aL,Fw,Et,j8,putL,iw,aX,hName,iH,cP,bz,aj,aB,aJ,z1,eX,fV,gIf,aM,au,aa,fC,gIx,x30,gNx,eq,e]
 |move s n ws=>
  obtain ⟨u7,u8,u9,em⟩:=yc (g0:=g0) (s1:=.ow (.lst (F0++[trD (w,.move s n ws,r)]))) (s2:=.ow (.lst S)) (s3:=.fz (.tup (w.map D.int))) (s10:=s10) (n:=n) (W:=.tup (dWs ws)) (hs s n ws rfl) hr ws [] s7 s8 s9 (by have:=h.1; simp; omega)
  obtain ⟨t10,e⟩:=main (ptW (rbm s n r) ws) u7 u8 u9 rfl hlp
  have hz2:(dWs ws).length<=16777216:=by rw [oX]; have:=h.1; omega
  have eL:m8 [g0,.ow (.lst (F0++[trD (w,.move s n ws,r)])),.ow (.lst S),.fz (.tup (w.map D.int)),.fz (dG (.move s n ws)),.fz (rD2 r),.ow (.lst []),s7,s8,s9,s10]=.ok (.nx,[g0,.ow (.lst (F0++[trD (w,.move s n ws,r)])),.ow (.lst S),.fz (.tup (w.map D.int)),.fz (dG (.move s n ws)),.fz (rD2 r),.ow (.lst ((ptW (rbm s n r) ws).map iW)),u7,u8,u9,s10]):=by
   have ei:pK (au gIx (aa 4) (fC (.int 3))) [g0,.ow (.lst (F0++[trD (w,.move s n ws,r)])),.ow (.lst S),.fz (.tup (w.map D.int)),.fz (dG (.move s n ws)),.fz (rD2 r),.ow (.lst []),s7,s8,s9,s10]=.ok (dWs ws):=by
    simp [pK,au,aa,fC,gIx,dG,x43]
   unfold m8 iQ
   rw [ei]
   rw [List.nil_append] at em
   exact em
  refine ⟨.fz (.tup (w.map D.int)),.fz (dG (.move s n ws)),.fz (rD2 r),.ow (.lst ((ptW (rbm s n r) ws).map iW)),u7,u8,u9,t10,?_⟩
  simp only [trD,dG] at e eL ⊢
  simp [eU,aL,Fw,Et,j8,putL,iw,aX,hName,iH,cP,bz,aj,aB,aJ,z1,eX,fV,gIf,aM,au,aa,fC,gIx,x40,gNx,eL,e]
open PySem L2 Hd F Pk
noncomputable abbrev Tr:=List Int×Gm×Rc
noncomputable def szT (st:List Tr):Nat:=(st.map fun p=>szG p.2.1).sum
theorem VG (w:List Int)(g:Gm)(r:Rc):szT (ch w (ptG g r) 0)+1=szG g:=by
 have e:∀(i:Nat) (L:List (Gm×Rc)),(ch w L i).map (fun p=>szG p.2.1)=L.map fun p=>szG p.1:=by
  intro i L
  induction L generalizing i with
  |nil=>rfl
  |cons x L ih=>
   show szG x.1::((ch w L (i+1)).map fun p=>szG p.2.1)=_
   rw [ih]; rfl
 unfold szT
 rw [e,Qp,xO,← Ca (rbg g r),List.map_map]
 rfl
theorem Jq:∀st:List Tr,st.length<=szT st
 |[]=>Nat.zero_le _
 |p::st=>by
  have:=Jq st
  have:=rT p.2.1
  show st.length+1<=szG p.2.1+szT st
  omega
theorem Jc (a b:List Tr):szT (a++b)=szT a+szT b:=by unfold szT; rw [List.map_append,List.sum_append]
noncomputable def wt (p:Tr):Prop:=fH p.2.1/\sdG p.2.1/\p.1.length+dp p.2.1<=100/\p.2.2.1.length+dp p.2.1<=100/\p.2.2.2.length+dp p.2.1<=100
theorem zE:∀{ws:Ws} {k:Gm},sdW ws->k∈je ws->sdG k
 | .cons l g r,k,h,hk=>by
  rcases List.mem_cons.mp hk with e | e
  ·rw [e]; exact h.1
  ·exact zE h.2 e
theorem Tc {g k:Gm}(h:sdG g)(hk:k∈kids g):sdG k:=by
 cases g with
 |fin d=>cases hk
 |deal n ws=>exact zE h hk
 |move s n ws=>exact zE h.2 hk
theorem Ik (f:D->Rc):∀{ws:Ws} {p:Gm×Rc},p∈ptW f ws->∃l,p.2=f l
 | .cons l g r,p,h=>by
  rcases List.mem_cons.mp h with e | e
  ·exact ⟨l,by rw [e]⟩
  ·exact Ik f e
theorem QX (g:Gm)(r:Rc)(l:D):(rbg g r l).1.length<=r.1.length+1/\(rbg g r l).2.length<=r.2.length+1:=by
 cases g with
 |fin d=>exact ⟨by simp [rbg],by simp [rbg]⟩
 |deal n ws=>exact ⟨by simp [rbg],by simp [rbg]⟩
 |move s n ws=>by_cases hs:s=1 <;> simp [rbg,rbm,hs]
theorem Xm {w:List Int}{g:Gm}{r:Rc}(h:wt (w,g,r)):∀p∈ch w (ptG g r) 0,wt p:=fun p hp=>by
 unfold ch at hp
 obtain ⟨q,hq,rfl⟩:=List.mem_map.mp hp
 have h1:q.1∈ptG g r:=by have:=List.mem_map_of_mem (f:=Prod.fst) hq; rwa [List.zipIdx_map_fst] at this
 have h2:q.1.1∈kids g:=by
  rw [xO,← Ca (rbg g r)]
  exact List.mem_map_of_mem h1
 obtain ⟨l,el⟩:=Ik _ h1
 have hd:=Ie h2
 obtain ⟨a,b,c,d,e⟩:=h
 have rl:=QX g r l
 simp only at a b c d e
 refine ⟨(z6 a h2).1,Tc b h2,?_,?_,?_⟩
 ·show (w++[_]).length+dp q.1.1<=100
  rw [List.length_append,List.length_singleton]
  omega
 ·show q.1.2.1.length+dp q.1.1<=100
  rw [el]
  omega
 ·show q.1.2.2.length+dp q.1.1<=100
  rw [el]
  omega
theorem RT (a:Sl):∀(N:Nat) (done st:List Tr) (s3 s4 s5 s6 s7 s8 s9 s10:Sl),szT st=N->(∀p∈st,wt p)->done.length+szT st<=50000->
  ∃k m',wh jm eU k [a,.ow (.lst (done.map trD)),.ow (.lst ((st.map trD).reverse)),s3,s4,s5,s6,s7,s8,s9,s10]=some (.ok (.nx,a::.ow (.lst ((done++st.flatMap fun p=>prG p.1 p.2.2 p.2.1).map trD))::m')):=by
 intro N
 induction N using Nat.strongRecOn with
 |_ N ih=>
  intro done st s3 s4 s5 s6 s7 s8 s9 s10 hN hs hz
  cases st with
  |nil=>
   refine ⟨1,[.ow (.lst []),s3,s4,s5,s6,s7,s8,s9,s10],?_⟩
   simp only [List.map_nil,List.reverse_nil,List.flatMap_nil,List.append_nil]
   exact xF (by simp [jm,aM,aQ,ie,aj,aB,aa,fC,gGt])
  |cons p st=>
   obtain ⟨w,g,r⟩:=p
   have h1:wt (w,g,r):=hs _ (by simp)
   have sb:=VG w g r
   have hsum:szT ((w,g,r)::st)=szG g+szT st:=rfl
   have ls:=Jq st
   have gp:=rT g
   obtain ⟨wa,wb,wc,wd,we⟩:=h1
   simp only at wa wb wc wd we
   obtain ⟨t3,t4,t5,t6,t7,t8,t9,t10,e1⟩:=TX (g0:=a) (s3:=s3) (s4:=s4) (s5:=s5) (s6:=s6) (s7:=s7) (s8:=s8) (s9:=s9) (s10:=s10) (F0:=done.map trD) (S:=(st.map trD).reverse) (w:=w) (g:=g) (r:=r) wa (fun s n ws e=>by rw [e] at wb; exact wb.1) ⟨by omega,by omega⟩ (by omega) (by simp; omega) (by simp; omega)
   obtain ⟨k,m',e⟩:=ih (szT (ch w (ptG g r) 0++st)) (by rw [Jc]; omega) (done++[(w,g,r)]) (ch w (ptG g r) 0++st) t3 t4 t5 t6 t7 t8 t9 t10 rfl (fun p hp=>by
    rcases List.mem_append.mp hp with v | v
    ·exact Xm ⟨wa,wb,wc,wd,we⟩ p v
    ·exact hs p (by simp [v])) (by rw [Jc,List.length_append]; simp; omega)
   refine ⟨k+1,m',?_⟩
   have e3:done++((w,g,r)::st).flatMap (fun p=>prG p.1 p.2.2 p.2.1)=done++[(w,g,r)]++(ch w (ptG g r) 0++st).flatMap fun p=>prG p.1 p.2.2 p.2.1:=by
    rw [List.flatMap_cons,List.flatMap_append,UG]
    simp
   rw [e3]
   refine xT (m':=[a,.ow (.lst ((done++[(w,g,r)]).map trD)),.ow (.lst (((ch w (ptG g r) 0++st).map trD).reverse)),t3,t4,t5,t6,t7,t8,t9,t10]) ?_ ?_ e
   ·simp [jm,aM,aQ,ie,aj,aB,aa,fC,gGt]
   ·rw [List.map_cons,List.reverse_cons,e1,List.map_append,List.map_append,List.reverse_append]
    rfl
theorem EY {L:Me->Res (Fl×Me)}{d:D}{ps:List D}{m':Me}(e:L [.fz d,.ow (.lst []),.ow (.lst [.tup [.tup [],d,.tup [.tup [],.tup []]]]),.un,.un,.un,.un,.un,.un,.un,.un]=.ok (.nx,.fz d::.ow (.lst ps)::m')):bf 11 1 (lR L) [d]=.ok (true,.lst ps):=by
 simp [bf,lR,aL,eX,fV,aj,aB,bz,aJ,e,qF]
theorem Ht {g:Gm}(h:fH g)(hs:sdG g)(hd:dp g<=50)(hz:szG g<=10000):jd [dG g]=.ok (true,.lst ((prG [] ([],[]) g).map trD)):=by
 obtain ⟨k,m',e⟩:=RT (.fz (dG g)) _ [] [([],g,([],[]))] .un .un .un .un .un .un .un .un rfl (fun p hp=>by rw [List.mem_singleton.mp hp]; exact ⟨h,hs,by simp; omega,by simp; omega,by simp; omega⟩) (by show 0+(szG g+0)<=_; omega)
 have e2:=rO k e
 simp only [List.nil_append,List.flatMap_cons,List.flatMap_nil,List.append_nil] at e2
 exact EY e2
noncomputable def tru (ks:List (List Kt)):List D:=ks.map fun _=>.bl true
theorem JG {k:List Kt}:∀{ks:List (List Kt)} {ds:List D},ks.length=ds.length->(cA ks (tru ks) k).isSome=(cA ks ds k).isSome
 |[],[],_=>rfl
 |[],_::_,h=>by simp at h
 |_::_,[],h=>by simp at h
 |a::ks,d::ds,h=>by
  show (cA (a::ks) (.bl true::tru ks) k).isSome=_
  unfold cA
  split
  ·rfl
  ·exact JG (by simpa using h)
theorem RV {k:List Kt}{ks:List (List Kt)}(h:(cA ks (tru ks) k).isSome=false):jt ks (tru ks) k (.bl true)=(ks++[k],tru (ks++[k])):=by
 have hn:k∉ks:=fun hk=>by
  have:∀{ks:List (List Kt)},k∈ks->(cA ks (tru ks) k).isSome=true:=by
   intro ks
   induction ks with
   |nil=>intro h; cases h
   |cons a ks ih=>
    intro h
    show (cA (a::ks) (.bl true::tru ks) k).isSome=true
    unfold cA
    split
    ·rfl
    ·rename_i q
     rcases List.mem_cons.mp h with e | e
     ·exact absurd e.symm q
     ·exact ih e
  rw [this hk] at h; cases h
 unfold jt
 rw [if_neg fun z=>hn (Cp.mp z)]
 simp [tru]
theorem Rj {g0 s3 s4 s5 s6:Sl}{T:Tb}{p:Tr}(hp:okP p)(hl:T.1.length=T.2.length)(hz:T.1.length<=100000):∃m1 s6',iw 3 (aX (hName 3) (aX (hName 4) (aX (hName 5) iH))) (trD p) [g0,.ow (.lst T.2),.ow (.dcu T.1 (tru T.1)),s3,s4,s5,s6]=some m1/\
  dw m1=.ok (.nx,[g0,.ow (.lst (tst T p).2),.ow (.dcu (tst T p).1 (tru (tst T p).1)),.fz (.tup (p.1.map D.int)),.fz (dG p.2.1),.fz (rD2 p.2.2),s6'])/\(tst T p).1.length=(tst T p).2.length:=by
 obtain ⟨w,g,r⟩:=p
 have x20:∀a b:D,atI [a,b] 0=some a:=fun _ _=>rfl
 have x21:∀a b:D,atI [a,b] 1=some b:=fun _ _=>rfl
 have x30:∀a b c:D,atI [a,b,c] 0=some a:=fun _ _ _=>rfl
 have x40:∀a b c d:D,atI [a,b,c,d] 0=some a:=fun _ _ _ _=>rfl
 have x41:∀a b c d:D,atI [a,b,c,d] 1=some b:=fun _ _ _ _=>rfl
 have x42:∀a b c d:D,atI [a,b,c,d] 2=some c:=fun _ _ _ _=>rfl
 have x43:∀a b c d:D,atI [a,b,c,d] 3=some d:=fun _ _ _ _=>rfl
 cases g with
 |fin d=>exact ⟨_,s6,rfl,by simp [dw,gIf,mF,aM,au,aa,fC,gIx,dG,x20,gNx,tst],by simpa [tst] using hl⟩
 |deal n ws=>exact ⟨_,s6,rfl,by simp [dw,gIf,mF,aM,au,aa,fC,gIx,dG,x30,gNx,tst],by simpa [tst] using hl⟩
 |move s n ws=>
  have hp:(s=1\/s=2)/\jB ws<=100:=hp
  have kk:rn (.tup [.int s,.str n])=some (kn s n):=rfl
  have z1:T.1.length<16777216:=by omega
  have z2:T.2.length<16777216:=by omega
  have hz1:(gP ws).length<=16777216:=by rw [pN]; omega
  have hz2:(dWs ws).length<=16777216:=by rw [oX]; omega
  have vt:=JG (k:=kn s n) hl
  have eq:∀a b c,nJ [g0,a,b,c,.fz (dG (.move s n ws)),.fz (rD2 r),s6]=.ok (.lst (gP ws)):=fun a b c=>by
   simp [nJ,du,pK,au,aa,fC,gIx,dG,x43,cMe,rR,hz1,hz2]
  simp only [dG,rD2] at eq
  by_cases q:(cA T.1 T.2 (kn s n)).isSome=true
  ·rw [q] at vt
   refine ⟨_,s6,rfl,?_,by simp [tst,q,hl]⟩
   simp [dw,gIf,mF,aM,au,aa,fC,gIx,dG,x40,x41,x42,gNx,tst,q,uR,HN,dcK,bz,aj,aB,kk,vt]
  ·have q':(cA T.1 T.2 (kn s n)).isSome=false:=by simpa using q
   rw [q'] at vt
   have pt:=RV vt
   refine ⟨_,.fz (.tup (gP ws)),rfl,?_,by simp [tst,q',hl]⟩
   rcases hp.1 with rfl | rfl
   ·simp [dw,gIf,mF,aM,au,aa,fC,gIx,dG,x40,x41,x42,aL,Af,wW,oN,tst,q',uR,HN,dcK,bz,aj,aB,kk,vt,z1,pt,bC,aQ,jZ,eq,hz1,cP,j8,putL,z2,aJ,rD2,F.eN,x20,x21,jy,v8]
   ·simp [dw,gIf,mF,aM,au,aa,fC,gIx,dG,x40,x41,x42,aL,Af,wW,oN,tst,q',uR,HN,dcK,bz,aj,aB,kk,vt,z1,pt,bC,aQ,jZ,eq,hz1,cP,j8,putL,z2,aJ,rD2,F.eN,x20,x21,jy,v8]
theorem Je {g0:Sl}:∀(l:List Tr) (T:Tb) (s3 s4 s5 s6:Sl),(∀p∈l,okP p)->T.1.length=T.2.length->T.1.length+l.length<=100000->∃m',bL (iw 3 (aX (hName 3) (aX (hName 4) (aX (hName 5) iH)))) dw (l.map trD) [g0,.ow (.lst T.2),.ow (.dcu T.1 (tru T.1)),s3,s4,s5,s6]=.ok (.nx,g0::.ow (.lst (l.foldl tst T).2)::m')
 |[],T,s3,s4,s5,s6,_,_,_=>⟨_,rfl⟩
 |p::l,T,s3,s4,s5,s6,hp,hl,hz=>by
  have hz':T.1.length+(l.length+1)<=100000:=hz
  obtain ⟨m1,s6',e1,e2,e3⟩:=Rj (g0:=g0) (s3:=s3) (s4:=s4) (s5:=s5) (s6:=s6) (T:=T) (hp p List.mem_cons_self) hl (by omega)
  have:=J5 T p
  obtain ⟨m',e⟩:=Je l (tst T p) (.fz (.tup (p.1.map D.int))) (.fz (dG p.2.1)) (.fz (rD2 p.2.2)) s6' (fun q hq=>hp q (List.mem_cons_of_mem _ hq)) e3 (by omega)
  exact ⟨m',by rw [List.map_cons,bY e1 e2,e]; rfl⟩
theorem Kz {g:Gm}(h:fH g)(hs:sdG g)(hd:dp g<=50)(hz:szG g<=10000):gq [dG g]=.ok (true,.lst (tbl (prG [] ([],[]) g)).2):=by
 have e:=Ht h hs hd hz
 obtain ⟨m',e2⟩:=Je (g0:=.fz (dG g)) (prG [] ([],[]) g) ([],[]) .un .un .un .un (zT _ _ g h hs) rfl (by rw [Dg]; simp; omega)
 have eL:nF [.fz (dG g),.ow (.lst []),.ow (.dcu [] []),.un,.un,.un,.un]=.ok (.nx,.fz (dG g)::.ow (.lst (tbl (prG [] ([],[]) g)).2)::m'):=by
  have e1:gH (fFn jd (aj (aJ 0) aB)) [.fz (dG g),.ow (.lst []),.ow (.dcu [] []),.un,.un,.un,.un]=.ok ((prG [] ([],[]) g).map trD):=by
   simp [gH,fFn,aj,aB,aJ,e]
  unfold nF iQ
  rw [e1]
  exact e2
 simp [gq,qe,pZ,bf,aL,eX,fV,aB,wA,eL,qF]
open PySem L2 Hd F Pk
noncomputable def prd (d:D):Prop:=∃a b:Str,d=.tup [.str a,.str b]
noncomputable def wrd (d:D):Prop:=∃a:Str,d=.str a
theorem Di (a:Str):dB [.str a]=.ok (false,.bl true):=rfl
theorem Eb {f0:Sl}:∀(l:List D) (s1:Sl),(∀d∈l,prd d)->∃s1',bL (hName 1) jz l [f0,s1]=.ok (.nx,[f0,s1'])
 |[],s1,_=>⟨s1,rfl⟩
 |d::l,s1,h=>by
  obtain ⟨a,b,rfl⟩:=h d List.mem_cons_self
  obtain ⟨s',e⟩:=Eb (f0:=f0) l (.fz (.tup [.str a,.str b])) fun x hx=>h x (List.mem_cons_of_mem _ hx)
  refine ⟨s',?_⟩
  have x20:∀a b:D,atI [a,b] 0=some a:=fun _ _=>rfl
  have x21:∀a b:D,atI [a,b] 1=some b:=fun _ _=>rfl
  rw [bY (m1:=[f0,.fz (.tup [.str a,.str b])]) (m2:=[f0,.fz (.tup [.str a,.str b])]) rfl ?_,e]
  simp [jz,gIf,nU,jE,fTv,vO,aa,aM,aQ,ie,aj,aB,fC,fFn,au,gIx,x20,x21,Di,gNx,kh,Lw]
theorem VF {l:List D}(h:∀d∈l,prd d):f9 [.tup l]=.ok (false,.bl true):=by
 obtain ⟨s',e⟩:=Eb (f0:=.fz (.tup l)) l .un h
 have eL:nP [.fz (.tup l),.un]=.ok (.nx,[.fz (.tup l),s']):=e
 simp [f9,lr,lB,bf,aL,gIf,jE,fTv,vO,aa,gNx,eL,bU,Me.let,Sl.let,fC,kh,Lw]
noncomputable def GK (d:D):Prop:=∃s n ws rc,d=.tup [.int s,.str n,.tup ws,.tup rc]/\(∀x∈ws,wrd x)/\ws.length<=1000/\∀x∈rc,prd x
theorem Ff {f0:Sl}:∀(l:List D) (s1:Sl),(∀d∈l,GK d)->∃s1',bL (hName 1) jK l [f0,s1]=.ok (.nx,[f0,s1'])
 |[],s1,_=>⟨s1,rfl⟩
 |d::l,s1,h=>by
  obtain ⟨s,n,ws,rc,rfl,h1,h2,h3⟩:=h d List.mem_cons_self
  obtain ⟨s',e⟩:=Ff (f0:=f0) l (.fz (.tup [.int s,.str n,.tup ws,.tup rc])) fun x hx=>h x (List.mem_cons_of_mem _ hx)
  refine ⟨s',?_⟩
  have x0:∀a b c d:D,atI [a,b,c,d] 0=some a:=fun _ _ _ _=>rfl
  have x1:∀a b c d:D,atI [a,b,c,d] 1=some b:=fun _ _ _ _=>rfl
  have x2:∀a b c d:D,atI [a,b,c,d] 2=some c:=fun _ _ _ _=>rfl
  have x3:∀a b c d:D,atI [a,b,c,d] 3=some d:=fun _ _ _ _=>rfl
  have er:=VF h3
  have ec:fM (hName 0) jq jU [.un] (ws.map id)=.ok (ws.map fun _=>.bl true):=gJ ws fun x hx=>by
   obtain ⟨a,rfl⟩:=h1 x hx
   exact ⟨[.fz (.str a)],rfl,rfl,by simp [jU,fFn,aj,aB,aJ,Di]⟩
  rw [List.map_id] at ec
  have z1:ws.length<=16777216:=by omega
  have eq:jX [f0,.fz (.tup [.int s,.str n,.tup ws,.tup rc])]=.ok (.lst (ws.map fun _=>.bl true)):=by
   simp [jX,du,pK,au,aa,fC,gIx,x2,cMe,ec,z1]
  have ea:=HW (f:=fun _:D=>D.bl true) (l:=ws) fun _ _=>rfl
  rw [bY (m1:=[f0,.fz (.tup [.int s,.str n,.tup ws,.tup rc])]) (m2:=[f0,.fz (.tup [.int s,.str n,.tup ws,.tup rc])]) rfl ?_,e]
  simp [jK,aL,gIf,nU,jE,fTv,vO,aa,aM,aQ,ie,aj,aB,fC,fFn,au,gIx,x0,x1,x2,x3,Di,gNx,kh,Lw,er,eq,ea]
theorem Py {l:List D}(h:∀d∈l,GK d):dD [.lst l]=.ok (false,.bl true):=by
 obtain ⟨s',e⟩:=Ff (f0:=.fz (.lst l)) l .un h
 have eL:oU [.fz (.lst l),.un]=.ok (.nx,[.fz (.lst l),s']):=e
 simp [dD,mO,mR,bf,aL,gIf,jE,fTv,vO,aa,gNx,eL,bU,Me.let,Sl.let,fC,kh,Lw]
open PySem L2 Hd F Pk
theorem Ra (x y:Sl):∀(n:Nat) (a b:Int),b.toNat=n->0<=a->0<=b->∃k,wh mZ mK k [x,y,.fz (.int a),.fz (.int b)] =
  some (.ok (.nx,[x,y,.fz (.int (gI a b)),.fz (.int 0)])):=by
 intro n
 induction n using Nat.strongRecOn with
 |_ n ih=>
  intro a b hn ha hb
  by_cases h0:b=0
  ·subst h0
   refine ⟨1,?_⟩
   rw [Jg ha]
   exact xF rfl
  ·have hb':0<b:=by omega
   have hm:=Int.emod_lt_of_pos a hb'
   have hm0:=Int.emod_nonneg a h0
   obtain ⟨k,e⟩:=ih (a % b).toNat (by omega) b (a % b) rfl hb hm0
   rw [Ip ha hb'] at e
   refine ⟨k+1,xT (m':=[x,y,.fz (.int b),.fz (.int (a % b))]) ?_ ?_ e⟩
   ·simp [mZ,aM,aa,fC,h0]
   ·simp [mK,V5,aj,aB,au,aa,aJ,bQ,mdI,h0,hb']
theorem GF {t b:Int}(hb:0<b)(hB:Bg b):fK [.int t,.int b]=.ok (false,rD (Rat.divInt t b)):=by
 obtain ⟨k,e⟩:=Ra (.fz (.int t)) (.fz (.int b)) _ (if t<0 then -t else t) b rfl (by split <;> omega) (by omega)
 have eb:(if b<0 then -b else b)=b:=if_neg (by omega)
 have ga:=Ou t b
 rw [eb] at ga
 rw [ga] at e
 have e2:=rO k e
 have hg:=Cz (a:=t) (show b≠0 by omega)
 have hdv:dv t b=gI t b:=if_neg (by omega)
 have hB':Bg (gI t b):=by
  have h1:=Uj (a:=t) (show b≠0 by omega)
  unfold Bg at hB ⊢
  omega
 have e3:dvI t (gI t b)=lt t b:=by
  unfold dvI lt
  rw [if_pos hg,hdv,Int.fdiv_eq_ediv_of_nonneg t (by omega)]
 have e4:dvI b (gI t b)=lb t b:=by
  unfold dvI lb
  rw [if_pos hg,hdv,Int.fdiv_eq_ediv_of_nonneg b (by omega)]
 have el:=Dc (t:=t) (show b≠0 by omega)
 have hr:rD (Rat.divInt t b)=.tup [.int (lt t b),.int (lb t b)]:=by
  show qD (rq (Rat.divInt t b))=_
  rw [← el]; rfl
 have hne:gI t b≠0:=by omega
 rw [hr]
 simp [fK,pB,pq,bf,qI,aL,bC,aQ,Gf,aj,aB,aa,aJ,e2,bU,Me.let,Sl.let,bz,au,eY,hne,hB',e3,e4]
theorem vR {t b:Int}(hb:0<b)(h1:t.natAbs<=999999999999)(h2:b<=999):smQ (rq (Rat.divInt t b)):=by
 have e:=Dc (t:=t) (show b≠0 by omega)
 have e1:lt t b=(Rat.divInt t b).num:=congrArg Prod.fst e
 have e2:lb t b=((Rat.divInt t b).den:Int):=congrArg Prod.snd e
 have l1:=Ux (t:=t) (show b≠0 by omega)
 have l2:=Uq (t:=t) (show b≠0 by omega)
 rw [e1] at l1
 rw [e2] at l2
 exact ⟨by show (Rat.divInt t b).num.natAbs<=_; omega,by show ((Rat.divInt t b).den:Int)<=_; omega⟩
theorem bgS {i:Int}(h:i.natAbs<=10000000000000):Bg i:=by
 refine Yq (k:=50) ?_
 have:(2:Nat) ^ 50=1125899906842624:=by decide
 omega
noncomputable def sm (x:Int):Prop:=0<=x/\x<2147483647
theorem yH {x:Int}(h:0<=x/\x<=9000000000):∃q:Rat,bI [.int x]=.ok (false,rD q)/\smQ (rq q):=by
 obtain ⟨h0,h1⟩:=h
 have b1:Bg x:=bgS (by omega)
 have b2:Bg 48271:=bgS (by decide)
 have b3:Bg 8:=bgS (by decide)
 have b4:Bg 104:=bgS (by decide)
 by_cases q:x % 8=3
 ·have hb:0<1+x / 8 % 999:=by omega
  have hb2:1+x / 8 % 999<=999:=by omega
  have e:=GF (t:=x * 48271 % 1999999999999 - 999999999999) hb (bgS (by omega))
  refine ⟨_,?_,vR hb (t:=x * 48271 % 1999999999999 - 999999999999) (by omega) hb2⟩
  simp [bI,nu,nj,bf,aL,gIf,aM,au,aa,fC,bQ,mdI,q,bU,Me.let,Sl.let,fFn,aj,aB,mV,b1,b2,F.eN,cC,eY,dvI,b3,e]
 ·have hb:0<1+x / 104 % 3:=by omega
  have hb2:1+x / 104 % 3<=999:=by omega
  have e:=GF (t:=x / 8 % 13 - 6) hb (bgS (by omega))
  refine ⟨_,?_,vR hb (t:=x / 8 % 13 - 6) (by omega) hb2⟩
  simp [bI,nu,nj,bf,aL,gIf,aM,au,aa,fC,bQ,mdI,q,gNx,bU,Me.let,Sl.let,fFn,aj,aB,F.eN,cC,eY,dvI,b3,b4,e]
theorem HF (c k:Int)(hk:0<=k/\k<=1000):∃x,cR [.int c,.int k]=.ok (false,.int x)/\sm x:=by
 have b1:Bg (c % 2147483647+1):=bgS (by omega)
 have b2:Bg (48271+7 * k):=bgS (by omega)
 have b3:Bg 7:=bgS (by decide)
 have b4:Bg k:=bgS (by omega)
 refine ⟨(c % 2147483647+1) * (48271+7 * k) % 2147483647,?_,by constructor <;> omega⟩
 simp [cR,tK,uv,bf,bU,Me.let,Sl.let,au,aa,fC,bQ,mdI,mV,cC,b1,b2,b3,b4]
noncomputable def pt (x:Int):Int:=1+x % 4+x / 4 % 8 / 7 * (x / 32 % 200)
theorem YJ (x:Int):1<=pt x/\pt x<=203:=by
 unfold pt
 have h1:x / 4 % 8 / 7=0\/x / 4 % 8 / 7=1:=by omega
 rcases h1 with h | h <;> rw [h] <;> omega
theorem RB {s1 s3:Sl}{x:Int}{P:List D}(h:sm x)(hP:P.length<=100):eQ [.fz (.int x),s1,.ow (.lst P),s3]=.ok (.nx,[.fz (.int (x * 48271 % 2147483647)),s1,.ow (.lst (P++[.int (pt x)])),s3]):=by
 obtain ⟨h0,h1⟩:=h
 have b1:Bg x:=bgS (by omega)
 have b2:Bg 48271:=bgS (by decide)
 have b3:Bg 4:=bgS (by decide)
 have b4:Bg 7:=bgS (by decide)
 have b5:Bg 32:=bgS (by decide)
 have b6:Bg (x / 4 % 8 / 7):=bgS (by omega)
 have b7:Bg (x / 32 % 200):=bgS (by omega)
 have z1:P.length<16777216:=by omega
 simp [eQ,aL,cP,j8,putL,au,aa,fC,cC,bQ,mdI,mV,eY,dvI,b1,b2,b3,b4,b5,b6,b7,z1,bC,pt]
theorem Jo {s1:Sl}:∀(c i:Nat) (x:Int) (P:List Int) (s3:Sl),sm x->P.length+c<=100->(∀p∈P,1<=p/\p<=203)->∃(x' s3':Sl) (Q:List Int),bL (hName 3) eQ ((List.range' i c).map fun (k:Nat)=>D.int k) [.fz (.int x),s1,.ow (.lst (P.map D.int)),s3]=.ok (.nx,[x',s1,.ow (.lst (Q.map D.int)),s3'])/\Q.length=P.length+c/\∀p∈Q,1<=p/\p<=203
 |0,i,x,P,s3,_,_,hp=>⟨_,s3,P,rfl,rfl,hp⟩
 |c+1,i,x,P,s3,hx,hz,hp=>by
  have st:=RB (s1:=s1) (s3:=.fz (.int (i:Int))) (P:=P.map D.int) hx (by simp; omega)
  obtain ⟨x',s',Q,e,l,h⟩:=Jo (s1:=s1) c (i+1) (x * 48271 % 2147483647) (P++[pt x]) (.fz (.int (i:Int))) (by constructor <;> omega) (by simp; omega) fun p hp'=>by
   rcases List.mem_append.mp hp' with e | e
   ·exact hp p e
   ·rw [List.mem_singleton.mp e]; exact YJ x
  refine ⟨x',s',Q,?_,by rw [l]; simp; omega,h⟩
  rw [List.range'_succ,List.map_cons,bY (m1:=[.fz (.int x),s1,.ow (.lst (P.map D.int)),.fz (.int (i:Int))]) rfl st]
  rw [List.map_append] at e
  exact e
theorem JP (S:Int):∀Q:List Int,(Q.map fun p=>Rat.divInt p S).sum=Rat.divInt Q.sum S
 |[]=>by simp
 |p::Q=>by
  rw [List.map_cons,List.sum_cons,List.sum_cons,JP S Q,Rat.divInt_eq_div,Rat.divInt_eq_div,Rat.divInt_eq_div,Rat.div_def,Rat.div_def,Rat.div_def,← Rat.add_mul,Rat.intCast_add]
theorem div_self {S:Int}(h:0<S):Rat.divInt S S=1:=by
 rw [Rat.divInt_self' (by omega)]
theorem div_pos {p S:Int}(hp:0<p)(h:0<S):0<(Rat.divInt p S).num:=by
 have hd:0<((Rat.divInt p S).den:Int):=by have:=p7 (Rat.divInt p S); omega
 have h2:=(Rat.divInt_eq_divInt_iff (by omega) (by omega)).mp (Rat.num_divInt_den (Rat.divInt p S))
 have h3:0<p * ((Rat.divInt p S).den:Int):=Int.mul_pos hp hd
 rw [← h2] at h3
 exact Int.pos_of_mul_pos_left h3 h
theorem Qy:∀Q:List Int,(∀p∈Q,1<=p/\p<=203)->(Q.length:Int)<=Q.sum/\Q.sum<=203 * Q.length
 |[],_=>by simp
 |p::Q,h=>by
  have:=Qy Q fun x hx=>h x (List.mem_cons_of_mem _ hx)
  have:=h p List.mem_cons_self
  simp only [List.sum_cons,List.length_cons]
  omega
theorem Gh:∀Q:List Int,uU (Q.map D.int)=some Q
 |[]=>rfl
 |p::Q=>by simp [uU,Gh Q]
theorem Rm (Q:List Int):M9 [.lst (Q.map D.int)]=some (.int Q.sum):=by
 show (uU _).map _=_
 rw [Gh]; rfl
theorem Vc {Q:List Int}{u v:Sl}{c:Int}(hS:0<Q.sum)(hS2:Q.sum<=609)(z1:Q.length<=1000):mY [u,.fz (.int c),.fz (.lst (Q.map D.int)),v]=.ok (.lst (Q.map fun p=>rD (Rat.divInt p Q.sum))):=by
 have bS:Bg Q.sum:=bgS (by omega)
 have ec':fM (hName 0) jq mU [.un,.fz (.lst (Q.map D.int))] (Q.map D.int)=.ok (Q.map fun p=>rD (Rat.divInt p Q.sum)):=gJ Q fun p hp=>by
  refine ⟨[.fz (.int p),.fz (.lst (Q.map D.int))],rfl,rfl,?_⟩
  have el:=GF (t:=p) hS bS
  simp [mU,fFn,aj,aB,aJ,aQ,aa,Rm Q,el]
 have z2:Q.length<=16777216:=by omega
 simp [mY,du,gH,aa,cMe,Sl.bor,ec',z2]
theorem WX {x:Int}{c:Nat}{x' s':Sl}{Q:List Int}(hc:c<=3)(e:bL (hName 3) eQ ((List.range' 0 c).map fun (k:Nat)=>D.int k) [.fz (.int x),.fz (.int (c:Int)),.ow (.lst []),.un]=.ok (.nx,[x',.fz (.int (c:Int)),.ow (.lst (Q.map D.int)),s'])):
  jn [.fz (.int x),.fz (.int (c:Int)),.ow (.lst []),.un]=.ok (.nx,[x',.fz (.int (c:Int)),.ow (.lst (Q.map D.int)),s']):=by
 have e1:(aj (aa 1) aB) [.fz (.int x),.fz (.int (c:Int)),.ow (.lst []),.un]=.ok [.int (c:Int)]:=by simp [aj,aa,aB]
 have e2:=Px e1 (by omega) (by omega)
 unfold jn iQ
 rw [e2]
 show bL (hName 3) eQ ((List.range c).map fun (k:Nat)=>D.int k) _=_
 rw [List.range_eq_range']
 exact e
theorem Hr {L:Me->Res (Fl×Me)}{QQ:Me->Res D}{x c r:D}{x' s':Sl}{l:D}(eL:L [.fz x,.fz c,.ow (.lst []),.un]=.ok (.nx,[x',.fz c,.ow l,s']))(eq:∀u v:Sl,QQ [u,.fz c,.fz l,v]=.ok r):bf 4 2 (mj L QQ) [x,c]=.ok (true,r):=by
 simp [bf,mj,aL,eX,fV,aB,eL,iV,Me.let,Sl.let,eq]
theorem Wj {x:Int}{c:Nat}{x' s':Sl}{Q:List Int}(hS:0<Q.sum)(hS2:Q.sum<=609)(z1:Q.length<=1000)(eL:jn [.fz (.int x),.fz (.int (c:Int)),.ow (.lst []),.un]=.ok (.nx,[x',.fz (.int (c:Int)),.ow (.lst (Q.map D.int)),s'])):
  jb [.int x,.int (c:Int)]=.ok (true,.lst (Q.map fun p=>rD (Rat.divInt p Q.sum))):=
 Hr eL fun u v=>Vc hS hS2 z1
theorem Hj {x:Int}{c:Nat}(h:sm x)(hc:1<=c/\c<=3):∃l:List Rat,jb [.int x,.int (c:Int)]=.ok (true,.lst (l.map rD))/\(∀q∈l,Sz 20 q/\smQ (rq q)/\0<q.num)/\l.length=c/\l.sum=1:=by
 obtain ⟨x',s',Q,e,hl,hQ⟩:=Jo (s1:=.fz (.int (c:Int))) c 0 x [] .un h (by simp; omega) (fun _ z=>by cases z)
 have hl:Q.length=c:=by simpa using hl
 have sb:=Qy Q hQ
 have hS:0<Q.sum:=by omega
 have hS2:Q.sum<=609:=by omega
 refine ⟨Q.map fun p=>Rat.divInt p Q.sum,?_,fun q hq=>?_,by simp [hl],by rw [JP,div_self hS]⟩
 ·rw [List.map_map]
  exact Wj hS hS2 (by omega) (WX hc.2 e)
 ·obtain ⟨p,hp,rfl⟩:=List.mem_map.mp hq
  have hb:=hQ p hp
  have p20:(1000:Nat)<2 ^ 20:=by decide
  exact ⟨Nj (by omega) (Nat.lt_of_le_of_lt (show p.natAbs<=1000 by omega) p20) (Nat.lt_of_le_of_lt (show Q.sum.natAbs<=1000 by omega) p20),vR hS (by omega) (by omega),div_pos (by omega) hS⟩
open PySem L2 Hd F Pk
structure En where
 cells:List Int
 pool:List Str
 turn:Int
 lev:Bool
noncomputable def sk (x:String):Key:=.inr (Str.ofString x)
noncomputable def vP:List Key:=[sk "at",sk "room",sk "names",sk "many",sk "pool",sk "turn",sk "level"]
noncomputable def stD (e:En)(A:Addr×Addr)(at_ room:Int):D:=.dct vP [.int at_,.int room,.adr A.1,.adr A.2,.lst (e.pool.map D.str),.int e.turn,.bl e.lev]
theorem Yt (e:En)(A:Addr×Addr)(a r:Int):cQ (stD e A a r) (.str "at")=some (.int a):=by
 simp [cQ,stD,vP,sG,vX,sk]
theorem Cm (e:En)(A:Addr×Addr)(a r:Int):cQ (stD e A a r) (.str "room")=some (.int r):=by
 simp [cQ,stD,vP,sG,vX,sk]
theorem Dv (e:En)(A:Addr×Addr)(a r:Int):cQ (stD e A a r) (.str "names")=some (.adr A.1):=by
 simp [cQ,stD,vP,sG,vX,sk]
theorem Kh (e:En)(A:Addr×Addr)(a r:Int):cQ (stD e A a r) (.str "many")=some (.adr A.2):=by
 simp [cQ,stD,vP,sG,vX,sk]
theorem Ke (e:En)(A:Addr×Addr)(a r:Int):cQ (stD e A a r) (.str "pool")=some (.lst (e.pool.map D.str)):=by
 simp [cQ,stD,vP,sG,vX,sk]
theorem JL (e:En)(A:Addr×Addr)(a r:Int):cQ (stD e A a r) (.str "turn")=some (.int e.turn):=by
 simp [cQ,stD,vP,sG,vX,sk]
theorem NP (e:En)(A:Addr×Addr)(a r:Int):cQ (stD e A a r) (.str "level")=some (.bl e.lev):=by
 simp [cQ,stD,vP,sG,vX,sk]
theorem U6 {fk fv:Me->Res D}{m:Me}{e:En}{A:Addr×Addr}{a r a':Int}{i:Nat}(h:m[i]? = some (.io (stD e A a r)))(hk:fk m=.ok (.str "at"))(hv:fv m=.ok (.int a')):jL i fk fv m=.ok (.nx,m.set i (.io (stD e A a' r))):=by
 have ho:CZ m i=some (false,vP,[.int a,.int r,.adr A.1,.adr A.2,.lst (e.pool.map D.str),.int e.turn,.bl e.lev]):=by
  unfold CZ; rw [h]; rfl
 unfold jL
 rw [hv,ho]
 simp [hk,sG,El,putD,vP,sk,Ah,stD]
theorem Ec {fk fv:Me->Res D}{m:Me}{e:En}{A:Addr×Addr}{a r r':Int}{i:Nat}(h:m[i]? = some (.io (stD e A a r)))(hk:fk m=.ok (.str "room"))(hv:fv m=.ok (.int r')):jL i fk fv m=.ok (.nx,m.set i (.io (stD e A a r'))):=by
 have ho:CZ m i=some (false,vP,[.int a,.int r,.adr A.1,.adr A.2,.lst (e.pool.map D.str),.int e.turn,.bl e.lev]):=by
  unfold CZ; rw [h]; rfl
 unfold jL
 rw [hv,ho]
 simp [hk,sG,El,putD,vP,sk,Ah,stD]
noncomputable def kp:D->Kt
 | .tup [.str a,.str b]=>.t [.k (.inr a),.k (.inr b)]
 |_=>.t []
noncomputable def kN (s:Int)(rc:List D)(c b:Int):List Kt:=[.k (.inl s),.t (rc.map kp),.k (.inl c),.k (.inl b)]
noncomputable abbrev Pr (rc:List D):Prop:=∀d∈rc,prd d
theorem Uu {n:Nat}:∀{rc:List D},Pr rc->lM (ktD (n+1)) rc=some (rc.map kp)
 |[],_=>rfl
 |d::rc,h=>by
  obtain ⟨a,b,rfl⟩:=h d List.mem_cons_self
  have ih:=Uu (n:=n) fun x hx=>h x (List.mem_cons_of_mem _ hx)
  have e:ktD (n+1) (.tup [.str a,.str b])=some (.t [.k (.inr a),.k (.inr b)]):=by
   cases n <;> rfl
  show ((ktD (n+1) (.tup [.str a,.str b])).bind fun k=>(lM (ktD (n+1)) rc).map fun ks=>k::ks)=_
  rw [e,ih]
  rfl
theorem Yh {s:Int}{rc:List D}{c b:Int}(h:Pr rc):rn (.tup [.int s,.tup rc,.int c,.int b])=some (kN s rc c b):=by
 have e:ktD 7 (.tup rc)=some (.t (rc.map kp)):=by
  show (lM (ktD 6) rc).map Kt.t=_
  rw [Uu h]; rfl
 show ((ktD 7 (.int s)).bind fun k=>((ktD 7 (.tup rc)).bind fun k=>((ktD 7 (.int c)).bind fun k=>((ktD 7 (.int b)).bind fun k=>(some []).map fun ks=>k::ks).map fun ks=>k::ks).map fun ks=>k::ks).map fun ks=>k::ks)=_
 rw [e]
 rfl
theorem M3:∀{r r':List D},Pr r->Pr r'->r.map kp=r'.map kp->r=r'
 |[],[],_,_,_=>rfl
 |[],_::_,_,_,h=>by cases h
 |_::_,[],_,_,h=>by cases h
 |d::r,d'::r',h1,h2,h=>by
  obtain ⟨a,b,rfl⟩:=h1 d List.mem_cons_self
  obtain ⟨a',b',rfl⟩:=h2 d' List.mem_cons_self
  have h:Kt.t [.k (.inr a),.k (.inr b)]::r.map kp=Kt.t [.k (.inr a'),.k (.inr b')]::r'.map kp:=h
  injection h with e1 e2
  injection e1 with e1
  injection e1 with e3 e4
  injection e3 with e3
  injection e3 with e3
  injection e4 with e4 _
  injection e4 with e4
  injection e4 with e4
  rw [e3,e4,M3 (fun x hx=>h1 x (List.mem_cons_of_mem _ hx)) (fun x hx=>h2 x (List.mem_cons_of_mem _ hx)) e2]
theorem Cv {s s':Int}{r r':List D}{c b c' b':Int}(h1:Pr r)(h2:Pr r')(h:kN s r c b=kN s' r' c' b'):s=s'/\r=r'/\c=c'/\b=b':=by
 unfold kN at h
 injection h with e1 h
 injection h with e2 h
 injection h with e3 h
 injection h with e4 _
 injection e1 with e1
 injection e1 with e1
 injection e2 with e2
 injection e3 with e3
 injection e3 with e3
 injection e4 with e4
 injection e4 with e4
 exact ⟨e1,M3 h1 h2 e2,e3,e4⟩
noncomputable abbrev Nd:=List (List Kt)×List D
noncomputable def mOf (m:Int×Int)(s:Int):Int:=if s=1 then m.1 else m.2
structure pM (N:Nd)(m:Int×Int):Prop where
 len:N.1.length=N.2.length
 sz:N.1.length<=1000
 nn:0<=m.1/\0<=m.2
 num:∀s rc c b d,(s=1\/s=2)->Pr rc->cA N.1 N.2 (kN s rc c b)=some d->∃n:Int,d=.int n/\0<=n/\n<mOf m s
 inj:∀s rc c b rc' c' b' d,(s=1\/s=2)->Pr rc->Pr rc'->cA N.1 N.2 (kN s rc c b)=some d->cA N.1 N.2 (kN s rc' c' b')=some d->rc=rc'/\c=c'
noncomputable def Sub (N N':Nd):Prop:=∀k d,cA N.1 N.2 k=some d->cA N'.1 N'.2 k=some d
noncomputable def upM (m:Int×Int)(s:Int):Int×Int:=if s=1 then (m.1+1,m.2) else (m.1,m.2+1)
theorem V7 {N:Nd}{m:Int×Int}{s:Int}{rc:List D}{c b:Int}(I:pM N m)(hs:s=1\/s=2)(hr:Pr rc)(hz:N.1.length<1000)(hn:cA N.1 N.2 (kN s rc c b)=none):
  pM (jt N.1 N.2 (kN s rc c b) (.int (mOf m s))) (upM m s)/\Sub N (jt N.1 N.2 (kN s rc c b) (.int (mOf m s))):=by
 have hp:=fun k'=>uK (ks:=N.1) (ds:=N.2) (k:=kN s rc c b) (k':=k') (d:=.int (mOf m s)) I.len
 obtain ⟨l1,l2⟩:=Bw (ks:=N.1) (ds:=N.2) (k:=kN s rc c b) (d:=.int (mOf m s)) I.len
 have nn:=I.nn
 have m0:0<=mOf m s:=by unfold mOf; split <;> omega
 have mle:∀t,mOf m t<=mOf (upM m s) t:=fun t=>by
  unfold mOf upM
  by_cases q:s=1 <;> by_cases q2:t=1 <;> simp [q,q2] <;> omega
 have mlt:mOf m s<mOf (upM m s) s:=by
  unfold mOf upM
  by_cases q:s=1 <;> simp [q] <;> omega
 refine ⟨⟨l1,by omega,?_,?_,?_⟩,?_⟩
 ·unfold upM; split <;> simp <;> omega
 ·intro t r c' b' d ht hr' h
  rw [hp] at h
  by_cases q:kN s rc c b=kN t r c' b'
  ·rw [if_pos q] at h
   cases h
   obtain ⟨rfl,_⟩:=Cv hr hr' q
   exact ⟨_,rfl,m0,mlt⟩
  ·rw [if_neg q] at h
   obtain ⟨n,e,h0,h1⟩:=I.num t r c' b' d ht hr' h
   exact ⟨n,e,h0,Int.lt_of_lt_of_le h1 (mle t)⟩
 ·intro t r c1 b1 r' c2 b2 d ht h1 h2 e1 e2
  rw [hp] at e1 e2
  by_cases q1:kN s rc c b=kN t r c1 b1
  ·rw [if_pos q1] at e1
   cases e1
   obtain ⟨rfl,rfl,rfl,rfl⟩:=Cv hr h1 q1
   by_cases q2:kN s rc c b=kN s r' c2 b2
   ·obtain ⟨_,rfl,rfl,_⟩:=Cv hr h2 q2
    exact ⟨rfl,rfl⟩
   ·rw [if_neg q2] at e2
    obtain ⟨n,e,_,h⟩:=I.num s r' c2 b2 _ ht h2 e2
    cases e
    omega
  ·rw [if_neg q1] at e1
   by_cases q2:kN s rc c b=kN t r' c2 b2
   ·rw [if_pos q2] at e2
    cases e2
    obtain ⟨rfl,rfl,rfl,rfl⟩:=Cv hr h2 q2
    obtain ⟨n,e,_,h⟩:=I.num s r c1 b1 _ ht h1 e1
    cases e
    omega
   ·rw [if_neg q2] at e2
    exact I.inj t r c1 b1 r' c2 b2 d ht h1 h2 e1 e2
 ·intro k d h
  rw [hp,if_neg fun q=>by rw [← q,hn] at h; cases h]
  exact h
theorem KQ {e:En}{N:Nd}{m:Int×Int}{s a r:Int}{rc:List D}{c b:Int}(I:pM N m)(hs:s=1\/s=2)(hr:Pr rc)(hz:N.1.length<1000):
  ∃(n:Int) (N':Nd) (m':Int×Int),(∀A:Addr×Addr,bZ [.int s,.tup rc,.int c,.int b] (stD e A a r) (A.1,.dcu N.1 N.2) (A.2,.lst [.int m.1,.int m.2])=.ok (.int n,stD e A a r,.dcu N'.1 N'.2,.lst [.int m'.1,.int m'.2]))/\
   0<=n/\cA N'.1 N'.2 (kN s rc c b)=some (.int n)/\pM N' m'/\Sub N N'/\N'.1.length<=N.1.length+1:=by
 have kk:=Yh (s:=s) (c:=c) (b:=b) hr
 have z1:N.1.length<16777216:=by omega
 have x0:∀a b:D,atI [a,b] 0=some a:=fun _ _=>rfl
 have x1:∀a b:D,atI [a,b] 1=some b:=fun _ _=>rfl
 have n0:ixN 2 0=some 0:=rfl
 have n1:ixN 2 1=some 1:=rfl
 cases q:cA N.1 N.2 (kN s rc c b) with
 |some d=>
  obtain ⟨n,rfl,h0,h1⟩:=I.num s rc c b d hs hr q
  refine ⟨n,N,m,fun A=>?_,h0,q,I,fun _ _ h=>h,by omega⟩
  have g1:=Dv e A a r
  have g2:=Kh e A a r
  generalize hst:stD e A a r=ST at *
  simp [bZ,dZ,dX,F.runST,j9,aL,bC,bz,aj,aB,aJ,gIf,aM,aa,Fd,au,fC,g1,g2,uR,HN,uQ,dcK,kk,q,gNx,bU,Me.let,Sl.let,pL,jV]
 |none=>
  obtain ⟨I',S'⟩:=V7 I hs hr hz q
  have l2:=(Bw (ks:=N.1) (ds:=N.2) (k:=kN s rc c b) (d:=.int (mOf m s)) I.len).2
  have hv:cA (jt N.1 N.2 (kN s rc c b) (.int (mOf m s))).1 (jt N.1 N.2 (kN s rc c b) (.int (mOf m s))).2 (kN s rc c b)=some (.int (mOf m s)):=by rw [uK I.len,if_pos rfl]
  have m0:0<=mOf m s:=by have:=I.nn; unfold mOf; split <;> omega
  refine ⟨mOf m s,jt N.1 N.2 (kN s rc c b) (.int (mOf m s)),upM m s,fun A=>?_,m0,hv,I',S',l2⟩
  have g1:=Dv e A a r
  have g2:=Kh e A a r
  generalize hst:stD e A a r=ST at *
  rcases hs with rfl | rfl
  ·simp only [mOf,upM,show ((1:Int)=1)=True by simp,if_true] at hv ⊢
   simp [bZ,dZ,dX,F.runST,j9,aL,bC,bz,aj,aB,aJ,gIf,aM,aa,Fd,au,fC,g1,g2,uR,HN,uQ,dcK,kk,q,bU,Me.let,Sl.let,pL,jV,uL,rJ,vf,gIx,F.eN,x0,x1,n0,n1,z1,cC,hv]
  ·simp only [mOf,upM,show ((2:Int)=1)=False by simp,if_false] at hv ⊢
   simp [bZ,dZ,dX,F.runST,j9,aL,bC,bz,aj,aB,aJ,gIf,aM,aa,Fd,au,fC,g1,g2,uR,HN,uQ,dcK,kk,q,bU,Me.let,Sl.let,pL,jV,uL,rJ,vf,gIx,F.eN,x0,x1,n0,n1,z1,cC,hv]
open PySem L2 Hd F Pk
noncomputable def nameAt (e:En)(n:Int):Str:=e.pool.getD ((n+e.turn) % 8).toNat ⟨#[]⟩
noncomputable def wordAt (e:En)(n k:Int):Str:=e.pool.getD ((3 * n+k+e.turn / 8) % 8).toNat ⟨#[]⟩
structure nG (e:En):Prop where
 c1:1<=e.cells.length
 c2:e.cells.length<=100
 p8:e.pool.length=8
 t0:0<=e.turn/\e.turn<64
 pok:∀x∈e.pool,PyData.strOk x=true
theorem Bo {e:En}(E:nG e){i:Int}(h:0<=i/\i<8):atI (e.pool.map D.str) i=some (.str (e.pool.getD i.toNat ⟨#[]⟩)):=by
 have hl:i.toNat<e.pool.length:=by rw [E.p8]; omega
 have e1:(e.pool.map D.str)[i.toNat]? = some (.str (e.pool.getD i.toNat ⟨#[]⟩)):=by
  rw [List.getElem?_map,List.getElem?_eq_getElem hl,List.getD_eq_getElem?_getD,List.getElem?_eq_getElem hl]
  rfl
 have:=qy e1
 rwa [show ((i.toNat:Nat):Int)=i by omega] at this
theorem xM {e:En}(E:nG e)(i:Nat)(h:i<8):PyData.strOk (e.pool.getD i ⟨#[]⟩)=true:=by
 have hl:i<e.pool.length:=by rw [E.p8]; exact h
 rw [List.getD_eq_getElem?_getD,List.getElem?_eq_getElem hl]
 exact E.pok _ (List.getElem_mem hl)
noncomputable def Row (e:En)(N:Nd)(s:Int)(nm:Str)(d:D):Prop:=∃(rc:List D) (c:Nat) (b n:Int),Pr rc/\o5 rc=true/\cA N.1 N.2 (kN s rc (c:Int) b)=some (.int n)/\0<=n/\n<8/\c<=3/\nm=nameAt e n/\d=.tup [.int s,.str nm,.tup ((List.range c).map fun (k:Nat)=>.str (wordAt e n k)),.tup rc]
theorem Row.mono {e:En}{N N':Nd}{s:Int}{nm:Str}{d:D}(h:Row e N s nm d)(S:Sub N N'):Row e N' s nm d:=by
 obtain ⟨rc,c,b,n,h1,h2,h3,h4⟩:=h
 exact ⟨rc,c,b,n,h1,h2,S _ _ h3,h4⟩
noncomputable def Tt (e:En)(N:Nd)(p:Tr):Prop:=match p.2.1 with
 | .fin d=>smQ d
 | .deal _ ws=>Rt ws
 | .move s n ws=>Row e N s n (jy s n ws p.2.2)
theorem Tt.mono {e:En}{N N':Nd}{p:Tr}(h:Tt e N p)(S:Sub N N'):Tt e N' p:=by
 obtain ⟨w,g,r⟩:=p
 cases g with
 |fin d=>exact h
 |deal n ws=>exact h
 |move s n ws=>exact Row.mono h S
structure Grw (e:En)(N:Nd)(rc:Rc)(g:Gm)(dep:Nat):Prop where
 len:fH g
 sd:sdG g
 dep:dp g<=dep
 pl:∀w,∀p∈prG w rc g,Tt e N p
theorem Grw.mono {e:En}{N N':Nd}{rc:Rc}{g:Gm}{dep:Nat}(h:Grw e N rc g dep)(S:Sub N N'):Grw e N' rc g dep:=⟨h.len,h.sd,h.dep,fun w p hp=>(h.pl w p hp).mono S⟩
noncomputable abbrev Bf:=List D->D->Addr×D->Addr×D->Res (D×D×D×D)
noncomputable def Gb (rc:Rc)(dep:Nat):Prop:=Pr rc.1/\Pr rc.2/\o5 rc.1=true/\o5 rc.2=true/\rc.1.length+dep<=12/\rc.2.length+dep<=12
noncomputable def cD (e:En):D:=.lst (e.cells.map D.int)
noncomputable def rcD (rc:Rc):D:=.lst [.tup rc.1,.tup rc.2]
noncomputable def nD (N:Nd):D:=.dcu N.1 N.2
noncomputable def mD (m:Int×Int):D:=.lst [.int m.1,.int m.2]
noncomputable def Gives (e:En)(R:Addr×Addr->Res (D×D×D×D))(a r:Nat)(N:Nd)(rc:Rc)(dep:Nat):Prop:=∃(g:Gm) (a' r':Nat) (N':Nd) (m':Int×Int),(∀A,R A=.ok (dG g,stD e A a' r',nD N',mD m'))/\pM N' m'/\Sub N N'/\N'.1.length<=a'/\r'+szG g=r+1/\a'+r'=a+r+1/\Grw e N' rc g dep
noncomputable def SpB (e:En)(Φ:Bf)(dep:Nat):Prop:=∀(a r:Nat) (N:Nd) (m:Int×Int) (rc:Rc),pM N m->N.1.length<=a->a+r<=63->Gb rc dep->Gives e (fun A=>Φ [cD e,.int (dep:Int),rcD rc] (stD e A a r) (A.1,nD N) (A.2,mD m)) a r N rc dep
noncomputable def ofL:List (D×Gm)->Ws
 |[]=>.nil
 |p::l=>.cons p.1 p.2 (ofL l)
theorem GR:∀l:List (D×Gm),dWs (ofL l)=l.map fun p=>.tup [p.1,dG p.2]
 |[]=>rfl
 |p::l=>by show _::dWs (ofL l)=_; rw [GR l]; rfl
theorem Cy:∀l:List (D×Gm),gP (ofL l)=l.map (·.1)
 |[]=>rfl
 |p::l=>by show _::gP (ofL l)=_; rw [Cy l]; rfl
noncomputable def mvM (e:En)(A:Addr×Addr)(a r:Int)(N:Nd)(m:Int×Int)(rc:Rc)(dep draw s c n:Int)(seen:Str)(ways:List D)(s11 s12 s13:Sl):Me:=
 [.fz (cD e),.io (stD e A a r),.fz (.int dep),.fz (rcD rc),.fz (.int draw),.fz (.int s),.fz (.int c),.fz (.int n),.fz (.lst (e.pool.map D.str)),.fz (.str seen),.ow (.lst ways),s11,s12,s13,.hd false A.1 (nD N),.hd false A.2 (mD m)]
theorem V6 {rc:Rc}{dep:Nat}{s:Int}{n x:Str}(h:Gb rc (dep+1))(hn:PyData.strOk n=true)(hx:PyData.strOk x=true):Gb (rbm s n rc (.str x)) dep:=by
 obtain ⟨h1,h2,h3,h4,h5,h6⟩:=h
 have app:∀l:List D,o5 l=true->o5 (l++[.tup [.str n,.str x]])=true:=by
  intro l
  induction l with
  |nil=>intro _; simp [o5,okD,hn,hx]
  |cons d l ih=>intro h; simp [o5] at h ⊢; exact ⟨h.1,ih h.2⟩
 have prp:∀l:List D,Pr l->Pr (l++[.tup [.str n,.str x]]):=fun l h d hd=>by
  rcases List.mem_append.mp hd with e | e
  ·exact h d e
  ·exact ⟨n,x,List.mem_singleton.mp e⟩
 unfold rbm
 split
 ·exact ⟨prp _ h1,h2,app _ h3,h4,by simp; omega,by simp; omega⟩
 ·exact ⟨h1,prp _ h2,h3,app _ h4,by simp; omega,by simp; omega⟩
theorem Rk {e:En}(E:nG e){Φ:Bf}{dep:Nat}(hΦ:SpB e Φ dep){a r:Nat}{N:Nd}{m:Int×Int}{rc:Rc}{draw s c n k:Int}{seen:Str}{ways:List D}{s12 s13:Sl}(I:pM N m)(hN:N.1.length<=a)(har:a+r<=63)(hr:Gb rc (dep+1))(hs:s=1\/s=2)(hn:0<=n/\n<8)(hk:0<=k/\k<3)(hse:PyData.strOk seen=true)(hw:ways.length<=100):
  ∃(g:Gm) (a' r':Nat) (N':Nd) (m':Int×Int) (t12 t13:Sl),(∀A:Addr×Addr,gO Φ (mvM e A a r N m rc (dep+1:Nat) draw s c n seen ways (.fz (.int k)) s12 s13)=.ok (.nx,mvM e A a' r' N' m' rc (dep+1:Nat) draw s c n seen (ways++[.tup [.str (wordAt e n k),dG g]]) (.fz (.int k)) t12 t13))/\
   pM N' m'/\Sub N N'/\N'.1.length<=a'/\r'+szG g=r+1/\a'+r'=a+r+1/\Grw e N' (rbm s seen rc (.str (wordAt e n k))) g dep:=by
 have t0:=E.t0
 have hwok:PyData.strOk (wordAt e n k)=true:=xM E _ (by omega)
 obtain ⟨g,a',r',N',m',e1,i1,i2,i3,i4,i5,i6⟩:=hΦ a r N m _ I hN har (V6 (s:=s) hr hse hwok)
 refine ⟨g,a',r',N',m',.fz (.str (wordAt e n k)),.fz (rcD (rbm s seen rc (.str (wordAt e n k)))),fun A=>?_,i1,i2,i3,i4,i5,i6⟩
 have e1:Φ [cD e,.int (dep:Int),rcD (rbm s seen rc (.str (wordAt e n k)))] (stD e A a r) (A.1,nD N) (A.2,mD m)=.ok (dG g,stD e A a' r',nD N',mD m'):=e1 A
 have pa:=Bo E (i:=(3 * n+k+e.turn / 8) % 8) (by omega)
 have b3:Bg 3:=bgS (by decide)
 have bn:Bg n:=bgS (by omega)
 have b8:Bg 8:=bgS (by decide)
 have gt:=JL e A a r
 have x0:∀a b:D,atI [a,b] 0=some a:=fun _ _=>rfl
 have x1:∀a b:D,atI [a,b] 1=some b:=fun _ _=>rfl
 have n0:ixN 2 0=some 0:=rfl
 have n1:ixN 2 1=some 1:=rfl
 have z1:rc.1.length+1<=16777216:=by have:=hr.2.2.2.2.1; omega
 have z2:rc.2.length+1<=16777216:=by have:=hr.2.2.2.2.2; omega
 have z3:ways.length<16777216:=by omega
 have ed:((dep+1:Nat):Int) - 1=(dep:Int):=by omega
 have wd:wordAt e n k=e.pool.getD ((3 * n+k+e.turn / 8) % 8).toNat ⟨#[]⟩:=rfl
 rw [← wd] at pa
 simp only [mvM]
 generalize wordAt e n k=X at *
 generalize hst:stD e A a r=ST at *
 generalize hst':stD e A (a':Int) (r':Int)=ST' at *
 generalize cD e=C at *
 generalize nD N=NN at *
 generalize nD N'=NN' at *
 generalize mD m=MM at *
 generalize mD m'=MM' at *
 generalize hdp:((dep+1:Nat):Int)=DP at *
 rcases hs with rfl | rfl
 ·simp only [rbm,rcD,if_pos] at e1
  simp [gO,aL,bC,au,aa,gIx,bQ,mdI,cC,mV,fC,gt,eY,dvI,b3,bn,b8,hst,hst',pa,eX,aQ,xU,aj,aB,rcD,uw,F.eN,x0,x1,j8,putL,n0,n1,bz,aJ,z1,z2,Ni,pP,Aj,qM,fX,uh,Bp,vf,ed,e1,xn,Ae,z3,rbm]
 ·simp only [rbm,rcD,show ((2:Int)=1)=False by simp,if_false] at e1
  simp [gO,aL,bC,au,aa,gIx,bQ,mdI,cC,mV,fC,gt,eY,dvI,b3,bn,b8,hst,hst',pa,eX,aQ,xU,aj,aB,rcD,uw,F.eN,x0,x1,j8,putL,n0,n1,bz,aJ,z1,z2,Ni,pP,Aj,qM,fX,uh,Bp,vf,ed,e1,xn,Ae,z3,rbm]
open PySem L2 Hd F Pk
noncomputable def szL (L:List (D×Gm)):Nat:=(L.map fun p=>szG p.2).sum
noncomputable def Gw (p:D×Gm):D:=.tup [p.1,dG p.2]
theorem Sub.refl (N:Nd):Sub N N:=fun _ _ h=>h
theorem Sub.trans {A B C:Nd}(h:Sub A B)(k:Sub B C):Sub A C:=fun x d z=>k x d (h x d z)
theorem Ko {e:En}(E:nG e){Φ:Bf}{dep:Nat}(hΦ:SpB e Φ dep){rc:Rc}{draw s cc n:Int}{seen:Str}(hr:Gb rc (dep+1))(hs:s=1\/s=2)(hn:0<=n/\n<8)(hse:PyData.strOk seen=true):
  ∀(c i a r:Nat) (N:Nd) (m:Int×Int) (ways:List D) (s11 s12 s13:Sl),pM N m->N.1.length<=a->a+r+c<=64->i+c<=3->ways.length+c<=100->
  ∃(L:List (D×Gm)) (a' r':Nat) (N':Nd) (m':Int×Int) (t11 t12 t13:Sl),(∀A:Addr×Addr,bL (hName 11) (gO Φ) ((List.range' i c).map fun (k:Nat)=>D.int k) (mvM e A a r N m rc (dep+1:Nat) draw s cc n seen ways s11 s12 s13)=.ok (.nx,mvM e A a' r' N' m' rc (dep+1:Nat) draw s cc n seen (ways++L.map Gw) t11 t12 t13))/\
   pM N' m'/\Sub N N'/\N'.1.length<=a'/\r'+szL L=r+c/\a'+r'=a+r+c/\L.map (·.1)=(List.range' i c).map (fun (k:Nat)=>D.str (wordAt e n k))/\∀p∈L,Grw e N' (rbm s seen rc p.1) p.2 dep
 |0,i,a,r,N,m,ways,s11,s12,s13,I,hN,har,hi,hw=>⟨[],a,r,N,m,s11,s12,s13,fun A=>by simp [bL],I,Sub.refl N,hN,by simp [szL],by omega,rfl,fun _ z=>by cases z⟩
 |c+1,i,a,r,N,m,ways,s11,s12,s13,I,hN,har,hi,hw=>by
  obtain ⟨g,a1,r1,N1,m1,t12,t13,e1,i1,i2,i3,i4,i5,i6⟩:=Rk E hΦ (a:=a) (r:=r) (draw:=draw) (c:=cc) (s12:=s12) (s13:=s13) (k:=(i:Int)) I hN (by omega) hr hs hn (by omega) hse (by omega:ways.length<=100)
  obtain ⟨L,a',r',N',m',u11,u12,u13,e2,j1,j2,j3,j4,j5,j6,j7⟩:=Ko E hΦ (draw:=draw) (cc:=cc) (n:=n) (seen:=seen) hr hs hn hse c (i+1) a1 r1 N1 m1 (ways++[.tup [.str (wordAt e n i),dG g]]) (.fz (.int (i:Int))) t12 t13 i1 i3 (by omega) (by omega) (by simp; omega)
  refine ⟨(.str (wordAt e n i),g)::L,a',r',N',m',u11,u12,u13,fun A=>?_,j1,i2.trans j2,j3,?_,by omega,?_,fun p hp=>?_⟩
  ·rw [List.range'_succ,List.map_cons,bY (m1:=mvM e A a r N m rc (dep+1:Nat) draw s cc n seen ways (.fz (.int (i:Int))) s12 s13) rfl (e1 A),e2 A,List.append_assoc]
   rfl
  ·show r'+(szG g+szL L)=r+(c+1)
   omega
  ·rw [List.range'_succ,List.map_cons,List.map_cons,j6]
  ·rcases List.mem_cons.mp hp with q | q
   ·rw [q]; exact i6.mono j2
   ·exact j7 p q
theorem Gz:∀L:List (D×Gm),szW (ofL L)=szL L
 |[]=>rfl
 |p::L=>by show szG p.2+szW (ofL L)=szG p.2+szL L; rw [Gz L]
theorem BJ:∀L:List (D×Gm),jB (ofL L)=L.length
 |[]=>rfl
 |p::L=>by show jB (ofL L)+1=_; rw [BJ L]; rfl
theorem zu:∀L:List (D×Gm),(∀p∈L,fH p.2)->wF (ofL L)
 |[],_=>trivial
 |p::L,h=>⟨h p List.mem_cons_self,zu L fun q hq=>h q (List.mem_cons_of_mem _ hq)⟩
theorem HJ:∀L:List (D×Gm),(∀p∈L,sdG p.2)->sdW (ofL L)
 |[],_=>trivial
 |p::L,h=>⟨h p List.mem_cons_self,HJ L fun q hq=>h q (List.mem_cons_of_mem _ hq)⟩
theorem HB {k:Nat}:∀L:List (D×Gm),(∀p∈L,dp p.2<=k)->dpW (ofL L)<=k
 |[],_=>Nat.zero_le _
 |p::L,h=>Nat.max_le.mpr ⟨h p List.mem_cons_self,HB L fun q hq=>h q (List.mem_cons_of_mem _ hq)⟩
theorem Gp {w:List Int}{f:D->Rc}:∀(L:List (D×Gm)) (i:Nat) (p:Tr),p∈prW w f i (ofL L)->∃q∈L,∃w',p∈prG w' (f q.1) q.2
 |[],i,p,h=>by cases h
 |q::L,i,p,h=>by
  rcases List.mem_append.mp (show p∈prG (w++[(i:Int)]) (f q.1) q.2++prW w f (i+1) (ofL L) from h) with z | z
  ·exact ⟨q,List.mem_cons_self,_,z⟩
  ·obtain ⟨q',h1,h2⟩:=Gp L (i+1) p z
   exact ⟨q',List.mem_cons_of_mem _ h1,h2⟩
theorem Oq {e:En}{N:Nd}{rc:Rc}{dep:Nat}{s:Int}{nm:Str}{L:List (D×Gm)}(hs:s=1\/s=2)(hl:L.length<=3)(h:∀p∈L,Grw e N (rbm s nm rc p.1) p.2 dep)(hrow:Row e N s nm (jy s nm (ofL L) rc)):Grw e N rc (.move s nm (ofL L)) (dep+1) where
 len:=⟨by rw [BJ]; omega,zu L fun p hp=>(h p hp).len⟩
 sd:=⟨hs,HJ L fun p hp=>(h p hp).sd⟩
 dep:=Nat.succ_le_succ (HB L fun p hp=>(h p hp).dep)
 pl:=fun w p hp=>by
  rcases List.mem_cons.mp (show p∈(w,Gm.move s nm (ofL L),rc)::prW w (rbm s nm rc) 0 (ofL L) from hp) with z | z
  ·rw [z]; exact hrow
  ·obtain ⟨q,hq,w',h2⟩:=Gp L 0 p z
   exact (h q hq).pl w' p h2
theorem Nb {e:En}{N:Nd}{rc:Rc}{dep:Nat}{nm:Str}{L:List (D×Gm)}(hl:L.length<=3)(h:∀p∈L,Grw e N rc p.2 dep)(hsh:Rt (ofL L)):Grw e N rc (.deal nm (ofL L)) (dep+1) where
 len:=⟨by rw [BJ]; omega,zu L fun p hp=>(h p hp).len⟩
 sd:=HJ L fun p hp=>(h p hp).sd
 dep:=Nat.succ_le_succ (HB L fun p hp=>(h p hp).dep)
 pl:=fun w p hp=>by
  rcases List.mem_cons.mp (show p∈(w,Gm.deal nm (ofL L),rc)::prW w (fun _=>rc) 0 (ofL L) from hp) with z | z
  ·rw [z]; exact hsh
  ·obtain ⟨q,hq,w',h2⟩:=Gp L 0 p z
   exact (h q hq).pl w' p h2
theorem Kl {e:En}{N:Nd}{rc:Rc}{dep:Nat}{d:Q2}(h:smQ d):Grw e N rc (.fin d) dep where
 len:=trivial
 sd:=trivial
 dep:=Nat.zero_le _
 pl:=fun w p hp=>by
  have:p=(w,.fin d,rc):=by simpa [prG] using hp
  rw [this]; exact h
theorem gs {g k:Me->Res (Fl×Me)}{m m1:Me}(h:g m=.ok (.nx,m1)):aL g k m=k m1:=by unfold aL; rw [h]
theorem Jb {g k:Me->Res (Fl×Me)}{m m1:Me}{f:Bool}{d:D}(h:g m=.ok (.rt f d,m1)):aL g k m=.ok (.rt f d,m1):=by unfold aL; rw [h]
theorem yr {p N n:Nat}{g:Me->Res (Fl×Me)}{ds:List D}{d:D}{x y:Addr×D}{m0 m':Me}{fr:Bool}{r d' e f:D}(hl:ds.length+1=n)(h0:j9 p (.io d) (ds.map Sl.fz)++(List.replicate (N - n - 2) Sl.un++[.hd false x.1 x.2,.hd false y.1 y.2])=m0)(hg:g m0=.ok (.rt fr r,m'))(h1:pL m' p=some d')(h2:jV m' (N - 2) x.1=some e)(h3:jV m' (N - 1) y.1=some f):
  F.runST p N n g ds d x y=.ok (r,d',e,f):=by
 unfold F.runST
 rw [if_pos hl,h0,hg]
 simp [h1,h2,h3]
noncomputable def mx (e:En)(A:Addr×Addr)(a r:Int)(N:Nd)(m:Int×Int)(rc:Rc)(dep draw:Int)(s5 s6 s7 s8 s9 s10 s11 s12 s13:Sl):Me:=
 [.fz (cD e),.io (stD e A a r),.fz (.int dep),.fz (rcD rc),.fz (.int draw),s5,s6,s7,s8,s9,s10,s11,s12,s13,.hd false A.1 (nD N),.hd false A.2 (mD m)]
theorem Mz {φs:List D->Res (Bool×D)}{φn:Bf}{L:Me->Res (Fl×Me)}{e:En}{A:Addr×Addr}{a r:Nat}{N N1:Nd}{m m1:Int×Int}{rc:Rc}{DP draw s c b n:Int}(E:nG e)
  (hs:s=1+draw % 2) (hc:c=1+draw / 16 % 3) (hb:b=draw / 48 % 2) (en:φn [.int s,.tup (v8 rc s),.int c,.int b] (stD e A a r) (A.1,nD N) (A.2,mD m)=.ok (.int n,stD e A a r,nD N1,mD m1)):
  (8<=n->∀q,φs [.int draw]=.ok (false,q)->F.runST 1 16 5 (jJ φs φn L) [cD e,.int DP,rcD rc,.int draw] (stD e A a r) (A.1,nD N) (A.2,mD m)=.ok (.tup [.str "end",q],stD e A a r,nD N1,mD m1))/\
  (0<=n->n<8->∀(a' r':Nat) (N':Nd) (m':Int×Int) (ws:List D) (t11 t12 t13:Sl),ws.length<=100->L (mvM e A a ((r:Int) - c) N1 m1 rc DP draw s c n (nameAt e n) [] .un .un .un)=.ok (.nx,mvM e A a' r' N' m' rc DP draw s c n (nameAt e n) ws t11 t12 t13)->
   F.runST 1 16 5 (jJ φs φn L) [cD e,.int DP,rcD rc,.int draw] (stD e A a r) (A.1,nD N) (A.2,mD m)=.ok (.tup [.str "move",.int s,.str (nameAt e n),.tup ws],stD e A a' r',nD N',mD m')):=by
 have b16:Bg 16:=bgS (by decide)
 have b48:Bg 48:=bgS (by decide)
 have x0:∀a b:D,atI [a,b] 0=some a:=fun _ _=>rfl
 have x1:∀a b:D,atI [a,b] 1=some b:=fun _ _=>rfl
 have hs1:s=1\/s=2:=by omega
 have ex:gIx (rcD rc) (.int (s - 1))=some (.tup (v8 rc s)):=by
  rcases hs1 with q | q
  ·rw [q]; exact x0 _ _
  ·rw [q]; exact x1 _ _
 have e1:∀k,aL (bC 5 (au cC (fC (.int 1)) (au bQ (aa 4) (fC (.int 2))))) k (mx e A a r N m rc DP draw .un .un .un .un .un .un .un .un .un)=k (mx e A a r N m rc DP draw (.fz (.int s)) .un .un .un .un .un .un .un .un):=fun k=>gs (by
  simp [mx,bC,au,fC,aa,bQ,mdI,cC,hs])
 have e2:∀k,aL (bC 6 (au cC (fC (.int 1)) (au bQ (au eY (aa 4) (fC (.int 16))) (fC (.int 3))))) k (mx e A a r N m rc DP draw (.fz (.int s)) .un .un .un .un .un .un .un .un)=k (mx e A a r N m rc DP draw (.fz (.int s)) (.fz (.int c)) .un .un .un .un .un .un .un):=fun k=>gs (by
  simp [mx,bC,au,fC,aa,bQ,mdI,cC,eY,dvI,b16,hc])
 have e3:∀k,aL (zp 7 (uh φn 1 0 14 15 (aj (aJ 5) (aj (au gIx (aa 3) (au eN (aa 5) (fC (.int 1)))) (aj (aJ 6) (aj (au bQ (au eY (aa 4) (fC (.int 48))) (fC (.int 2))) aB)))))) k (mx e A a r N m rc DP draw (.fz (.int s)) (.fz (.int c)) .un .un .un .un .un .un .un)=k (mx e A a r N1 m1 rc DP draw (.fz (.int s)) (.fz (.int c)) (.fz (.int n)) .un .un .un .un .un .un):=fun k=>gs (by
  rw [hb] at en
  simp [mx,zp,uh,Bp,vf,aj,aB,aJ,au,aa,fC,F.eN,ex,bQ,mdI,eY,dvI,b48,en,xn])
 have start:j9 1 (.io (stD e A a r)) ([cD e,.int DP,rcD rc,.int draw].map Sl.fz)++(List.replicate (16 - 5 - 2) Sl.un++[.hd false A.1 (nD N),.hd false A.2 (mD m)])=mx e A a r N m rc DP draw .un .un .un .un .un .un .un .un .un:=rfl
 constructor
 ·intro h8 q eq
  have e4:∀k,aL (gIf (aM gGe (aa 7) (fC (.int 8))) (bU (bz (aj (fC (.str "end")) (aj (fFn φs (aj (aJ 4) aB)) aB)))) gNx) k (mx e A a r N1 m1 rc DP draw (.fz (.int s)) (.fz (.int c)) (.fz (.int n)) .un .un .un .un .un .un)=.ok (.rt false (.tup [.str "end",q]),mx e A a r N1 m1 rc DP draw (.fz (.int s)) (.fz (.int c)) (.fz (.int n)) .un .un .un .un .un .un):=fun k=>Jb (by
   have:n ≥ 8:=h8
   simp [mx,gIf,aM,aa,fC,gGe,this,bU,Me.let,Sl.let,bz,aj,aB,fFn,aJ,eq])
  refine yr (m0:=mx e A a r N m rc DP draw .un .un .un .un .un .un .un .un .un) (m':=mx e A a r N1 m1 rc DP draw (.fz (.int s)) (.fz (.int c)) (.fz (.int n)) .un .un .un .un .un .un) (fr:=false) rfl start ?_ rfl (by simp [mx,jV]) (by simp [mx,jV])
  unfold jJ
  rw [e1,e2,e3,e4]
 ·intro h0 h8 a' r' N' m' ws t11 t12 t13 hw eL
  have t0:=E.t0
  have pa:=Bo E (i:=(n+e.turn) % 8) (by omega)
  have wd:nameAt e n=e.pool.getD ((n+e.turn) % 8).toNat ⟨#[]⟩:=rfl
  rw [← wd] at pa
  have gt:=JL e A a ((r:Int) - c)
  have gp:=Ke e A a ((r:Int) - c)
  have gr:=Cm e A a r
  have e4:∀k,aL (gIf (aM gGe (aa 7) (fC (.int 8))) (bU (bz (aj (fC (.str "end")) (aj (fFn φs (aj (aJ 4) aB)) aB)))) gNx) k (mx e A a r N1 m1 rc DP draw (.fz (.int s)) (.fz (.int c)) (.fz (.int n)) .un .un .un .un .un .un)=k (mx e A a r N1 m1 rc DP draw (.fz (.int s)) (.fz (.int c)) (.fz (.int n)) .un .un .un .un .un .un):=fun k=>gs (by
   have:¬n ≥ 8:=by omega
   simp [mx,gIf,aM,aa,fC,gGe,this,gNx])
  have e5:∀k,aL (jL 1 (fC (.str "room")) (au eN (au cQ (aa 1) (fC (.str "room"))) (aa 6))) k (mx e A a r N1 m1 rc DP draw (.fz (.int s)) (.fz (.int c)) (.fz (.int n)) .un .un .un .un .un .un)=k (mx e A a ((r:Int) - c) N1 m1 rc DP draw (.fz (.int s)) (.fz (.int c)) (.fz (.int n)) .un .un .un .un .un .un):=fun k=>gs (Ec (e:=e) (A:=A) (a:=a) (r:=r) rfl rfl (by
   simp [mx,au,aa,fC,gr,F.eN]))
  have e6:∀k,aL (bC 8 (au cQ (aa 1) (fC (.str "pool")))) k (mx e A a ((r:Int) - c) N1 m1 rc DP draw (.fz (.int s)) (.fz (.int c)) (.fz (.int n)) .un .un .un .un .un .un)=k (mx e A a ((r:Int) - c) N1 m1 rc DP draw (.fz (.int s)) (.fz (.int c)) (.fz (.int n)) (.fz (.lst (e.pool.map D.str))) .un .un .un .un .un):=fun k=>gs (by
   simp [mx,bC,au,aa,fC,gp])
  have e7:∀k,aL (bC 9 (au gIx (aa 8) (au bQ (au cC (aa 7) (au cQ (aa 1) (fC (.str "turn")))) (fC (.int 8))))) k (mx e A a ((r:Int) - c) N1 m1 rc DP draw (.fz (.int s)) (.fz (.int c)) (.fz (.int n)) (.fz (.lst (e.pool.map D.str))) .un .un .un .un .un)=k (mx e A a ((r:Int) - c) N1 m1 rc DP draw (.fz (.int s)) (.fz (.int c)) (.fz (.int n)) (.fz (.lst (e.pool.map D.str))) (.fz (.str (nameAt e n))) .un .un .un .un):=fun k=>gs (by
   simp [mx,bC,au,aa,fC,gt,gIx,bQ,mdI,cC,pa])
  have e8:∀k,aL (eX 10 (fV aB)) k (mx e A a ((r:Int) - c) N1 m1 rc DP draw (.fz (.int s)) (.fz (.int c)) (.fz (.int n)) (.fz (.lst (e.pool.map D.str))) (.fz (.str (nameAt e n))) .un .un .un .un)=k (mvM e A a ((r:Int) - c) N1 m1 rc DP draw s c n (nameAt e n) [] .un .un .un):=fun k=>gs (by
   simp [mx,mvM,eX,fV,aB])
  have e9:∀k,aL L k (mvM e A a ((r:Int) - c) N1 m1 rc DP draw s c n (nameAt e n) [] .un .un .un)=k (mvM e A a' r' N' m' rc DP draw s c n (nameAt e n) ws t11 t12 t13):=fun k=>gs eL
  have z1:ws.length<=16777216:=by omega
  refine yr (m0:=mx e A a r N m rc DP draw .un .un .un .un .un .un .un .un .un) (m':=Me.let (mvM e A a' r' N' m' rc DP draw s c n (nameAt e n) ws t11 t12 t13)) (fr:=false) rfl start ?_ rfl (by simp [mvM,jV,Me.let,Sl.let]) (by simp [mvM,jV,Me.let,Sl.let])
  unfold jJ
  rw [e1,e2,e3,e4,e5,e6,e7,e8,e9]
  simp [mvM,bU,Me.let,Sl.let,bz,aj,aB,fC,aJ,aQ,aa,jZ,z1]
open PySem L2 Hd F Pk
theorem TY {e:En}(E:nG e){Φ:Bf}{dep:Nat}(hΦ:SpB e Φ dep){a r:Nat}{N:Nd}{m:Int×Int}{rc:Rc}{draw:Int}(I:pM N m)(hN:N.1.length+1<=a)(har:a+r<=64)(h3:3<=r)(hr:Gb rc (dep+1))(hd:0<=draw/\draw<=9000000000):
  ∃(g:Gm) (a' r':Nat) (N':Nd) (m':Int×Int),(∀A:Addr×Addr,mC Φ [cD e,.int ((dep+1:Nat):Int),rcD rc,.int draw] (stD e A a r) (A.1,nD N) (A.2,mD m)=.ok (dG g,stD e A a' r',nD N',mD m'))/\pM N' m'/\Sub N N'/\N'.1.length<=a'/\r'+szG g=r+1/\a'+r'=a+r/\Grw e N' rc g (dep+1):=by
 obtain ⟨cN,hcN⟩:∃cN:Nat,(cN:Int)=1+draw / 16 % 3:=⟨(1+draw / 16 % 3).toNat,by omega⟩
 have hs:1+draw % 2=1\/1+draw % 2=2:=by omega
 have hpr:Pr (v8 rc (1+draw % 2))/\o5 (v8 rc (1+draw % 2))=true:=by
  unfold v8
  split
  ·exact ⟨hr.1,hr.2.2.1⟩
  ·exact ⟨hr.2.1,hr.2.2.2.1⟩
 have hsz:N.1.length<1000:=by omega
 obtain ⟨n,N1,m1,en,n0,nv,I1,S1,l1⟩:=KQ (e:=e) (a:=a) (r:=r) (c:=(cN:Int)) (b:=draw / 48 % 2) I hs hpr.1 hsz
 have W:=fun A:Addr×Addr=>Mz (A:=A) (φs:=bI) (φn:=bZ) (L:=lQ Φ) (DP:=((dep+1:Nat):Int)) E rfl hcN rfl (en A)
 by_cases h8:8<=n
 ·obtain ⟨q,eq,hq⟩:=yH (x:=draw) hd
  exact ⟨.fin (rq q),a,r,N1,m1,fun A=>(W A).1 h8 _ eq,I1,S1,by omega,rfl,rfl,Kl hq⟩
 ·have h8':n<8:=by omega
  have hsub:(r:Int) - (cN:Int)=((r - cN:Nat):Int):=by omega
  have t0:=E.t0
  obtain ⟨L,a',r',N',m',t11,t12,t13,eL,j1,j2,j3,j4,j5,j6,j7⟩:=Ko E hΦ (rc:=rc) (draw:=draw) (cc:=(cN:Int)) (seen:=nameAt e n) hr hs ⟨n0,h8'⟩ (xM E _ (by omega)) cN 0 a (r - cN) N1 m1 [] .un .un .un I1 (by omega) (by omega) (by omega) (by simp; omega)
  have hL:L.length=cN:=by
   have:=congrArg List.length j6
   simpa using this
  have eL2:∀A:Addr×Addr,lQ Φ (mvM e A a ((r:Int) - (cN:Int)) N1 m1 rc ((dep+1:Nat):Int) draw (1+draw % 2) (cN:Int) n (nameAt e n) [] .un .un .un)=.ok (.nx,mvM e A a' r' N' m' rc ((dep+1:Nat):Int) draw (1+draw % 2) (cN:Int) n (nameAt e n) (L.map Gw) t11 t12 t13):=fun A=>by
   have e1:(aj (aa 6) aB) (mvM e A a ((r:Int) - (cN:Int)) N1 m1 rc ((dep+1:Nat):Int) draw (1+draw % 2) (cN:Int) n (nameAt e n) [] .un .un .un)=.ok [.int (cN:Int)]:=by simp [mvM,aj,aB,aa]
   have e2:=Px e1 (by omega) (by omega)
   unfold lQ iQ
   rw [e2]
   show bL (hName 11) (gO Φ) ((List.range cN).map fun (k:Nat)=>D.int k) _=_
   rw [List.range_eq_range',hsub]
   exact eL A
  have hw:=fun A:Addr×Addr=>(W A).2 n0 h8' a' r' N' m' (L.map Gw) t11 t12 t13 (by simp; omega) (eL2 A)
  refine ⟨.move (1+draw % 2) (nameAt e n) (ofL L),a',r',N',m',fun A=>?_,j1,S1.trans j2,j3,?_,by omega,Oq hs (by omega) j7 ?_⟩
  ·have:dG (.move (1+draw % 2) (nameAt e n) (ofL L))=.tup [.str "move",.int (1+draw % 2),.str (nameAt e n),.tup (L.map Gw)]:=by
    show D.tup [_,_,_,.tup (dWs (ofL L))]=_
    rw [GR]; rfl
   rw [this]
   exact hw A
  ·show r'+(szW (ofL L)+1)=r+1
   rw [Gz]; omega
  ·refine ⟨v8 rc (1+draw % 2),cN,draw / 48 % 2,n,hpr.1,hpr.2,j2 _ _ nv,n0,h8',by omega,rfl,?_⟩
   show D.tup [_,_,.tup (gP (ofL L)),_]=_
   rw [Cy,j6,List.range_eq_range']
noncomputable def bm (e:En)(A:Addr×Addr)(a r:Int)(N:Nd)(m:Int×Int)(rc:Rc)(dep:Int)(s4 s5 s6 s7 s8 s9:Sl):Me:=
 [.fz (cD e),.io (stD e A a r),.fz (.int dep),.fz (rcD rc),s4,s5,s6,s7,s8,s9,.hd false A.1 (nD N),.hd false A.2 (mD m)]
theorem dl_step {e:En}{Φ:Bf}{dep:Nat}(hΦ:SpB e Φ dep){a r:Nat}{N:Nd}{m:Int×Int}{rc:Rc}{s4 s5 s6 s7:Sl}{l:D}{ways:List D}(I:pM N m)(hN:N.1.length<=a)(har:a+r<=63)(hr:Gb rc (dep+1))(hw:ways.length<=100):
  ∃(g:Gm) (a' r':Nat) (N':Nd) (m':Int×Int),(∀A:Addr×Addr,jT Φ (bm e A a r N m rc (dep+1:Nat) s4 s5 s6 s7 (.ow (.lst ways)) (.fz l))=.ok (.nx,bm e A a' r' N' m' rc (dep+1:Nat) s4 s5 s6 s7 (.ow (.lst (ways++[.tup [l,dG g]]))) (.fz l)))/\
   pM N' m'/\Sub N N'/\N'.1.length<=a'/\r'+szG g=r+1/\a'+r'=a+r+1/\Grw e N' rc g dep:=by
 obtain ⟨h1,h2,h3,h4,h5,h6⟩:=hr
 obtain ⟨g,a',r',N',m',e1,i1,i2,i3,i4,i5,i6⟩:=hΦ a r N m rc I hN har ⟨h1,h2,h3,h4,by omega,by omega⟩
 refine ⟨g,a',r',N',m',fun A=>?_,i1,i2,i3,i4,i5,i6⟩
 have e1:Φ [cD e,.int (dep:Int),rcD rc] (stD e A a r) (A.1,nD N) (A.2,mD m)=.ok (dG g,stD e A a' r',nD N',mD m'):=e1 A
 have z3:ways.length<16777216:=by omega
 have ed:((dep+1:Nat):Int) - 1=(dep:Int):=by omega
 simp only [bm]
 generalize hst:stD e A a r=ST at *
 generalize hst':stD e A (a':Int) (r':Int)=ST' at *
 generalize cD e=C at *
 generalize nD N=NN at *
 generalize nD N'=NN' at *
 generalize mD m=MM at *
 generalize mD m'=MM' at *
 generalize rcD rc=RC at *
 generalize hdp:((dep+1:Nat):Int)=DP at *
 simp [jT,pP,j8,putL,Aj,qM,fX,aJ,uh,Bp,vf,aj,aB,au,aa,fC,F.eN,ed,e1,xn,Ae,z3]
theorem Ig {e:En}{Φ:Bf}{dep:Nat}(hΦ:SpB e Φ dep){rc:Rc}{s4 s5 s6 s7:Sl}(hr:Gb rc (dep+1)):
  ∀(ls:List D) (a r:Nat) (N:Nd) (m:Int×Int) (ways:List D) (s9:Sl),pM N m->N.1.length<=a->a+r+ls.length<=64->ways.length+ls.length<=100->
  ∃(L:List (D×Gm)) (a' r':Nat) (N':Nd) (m':Int×Int) (t9:Sl),(∀A:Addr×Addr,bL (hName 9) (jT Φ) ls (bm e A a r N m rc (dep+1:Nat) s4 s5 s6 s7 (.ow (.lst ways)) s9)=.ok (.nx,bm e A a' r' N' m' rc (dep+1:Nat) s4 s5 s6 s7 (.ow (.lst (ways++L.map Gw))) t9))/\
   pM N' m'/\Sub N N'/\N'.1.length<=a'/\r'+szL L=r+ls.length/\a'+r'=a+r+ls.length/\L.map (·.1)=ls/\∀p∈L,Grw e N' rc p.2 dep
 |[],a,r,N,m,ways,s9,I,hN,har,hw=>⟨[],a,r,N,m,s9,fun A=>by simp [bL],I,Sub.refl N,hN,by simp [szL],by simp,rfl,fun _ z=>by cases z⟩
 |l::ls,a,r,N,m,ways,s9,I,hN,har,hw=>by
  have har':a+r+(ls.length+1)<=64:=har
  have hw':ways.length+(ls.length+1)<=100:=hw
  obtain ⟨g,a1,r1,N1,m1,e1,i1,i2,i3,i4,i5,i6⟩:=dl_step hΦ (a:=a) (r:=r) (s4:=s4) (s5:=s5) (s6:=s6) (s7:=s7) (l:=l) I hN (by omega) hr (by omega:ways.length<=100)
  obtain ⟨L,a',r',N',m',u9,e2,j1,j2,j3,j4,j5,j6,j7⟩:=Ig hΦ (s4:=s4) (s5:=s5) (s6:=s6) (s7:=s7) hr ls a1 r1 N1 m1 (ways++[.tup [l,dG g]]) (.fz l) i1 i3 (by omega) (by simp; omega)
  refine ⟨(l,g)::L,a',r',N',m',u9,fun A=>?_,j1,i2.trans j2,j3,?_,by simp; omega,by rw [List.map_cons,j6],fun p hp=>?_⟩
  ·rw [bY (m1:=bm e A a r N m rc (dep+1:Nat) s4 s5 s6 s7 (.ow (.lst ways)) (.fz l)) rfl (e1 A),e2 A,List.append_assoc]
   rfl
  ·show r'+(szG g+szL L)=r+(ls.length+1)
   omega
  ·rcases List.mem_cons.mp hp with q | q
   ·rw [q]; exact i6.mono j2
   ·exact j7 p q
open PySem L2 Hd F Pk
theorem K5 {e:En}(E:nG e):∃v:Int,atI (e.cells.map D.int) (-1)=some (.int v):=by
 have h:=E.c1
 have hne:e.cells≠[]:=fun z=>by rw [z] at h; simp at h
 refine ⟨e.cells.getLast hne,?_⟩
 have:=N6 (e.cells.dropLast.map D.int) (D.int (e.cells.getLast hne))
 rwa [← List.map_singleton,← List.map_append,List.dropLast_concat_getLast hne] at this
theorem Dy {e:En}{i:Nat}(h:i<e.cells.length):∃v:Int,atI (e.cells.map D.int) (i:Int)=some (.int v):=by
 refine ⟨e.cells[i],qy ?_⟩
 rw [List.getElem?_map,List.getElem?_eq_getElem h]
 rfl
theorem Qu {e:En}{i:Int}(h0:0<=i)(h:i<e.cells.length):∃v:Int,atI (e.cells.map D.int) i=some (.int v):=by
 obtain ⟨v,hv⟩:=Dy (e:=e) (i:=i.toNat) (by omega)
 exact ⟨v,by rwa [show ((i.toNat:Nat):Int)=i by omega] at hv⟩
section
variable {e:En}{A:Addr×Addr}{a r dep:Nat}{N:Nd}{m:Int×Int}{rc:Rc}
theorem bs1 (k:Me->Res (Fl×Me)):aL (bC 4 (au cQ (aa 1) (fC (.str "at")))) k (bm e A a r N m rc dep .un .un .un .un .un .un)=k (bm e A a r N m rc dep (.fz (.int a)) .un .un .un .un .un):=gs (by
 have g:=Yt e A a r
 simp [bm,bC,au,aa,fC,g])
theorem bs2 (k:Me->Res (Fl×Me)):aL (jL 1 (fC (.str "at")) (au cC (aa 4) (fC (.int 1)))) k (bm e A a r N m rc dep (.fz (.int a)) .un .un .un .un .un)=k (bm e A (a+1:Nat) r N m rc dep (.fz (.int a)) .un .un .un .un .un):=gs (by
 have:=U6 (e:=e) (A:=A) (a:=a) (r:=r) (a':=((a+1:Nat):Int)) (fk:=fC (.str "at")) (fv:=au cC (aa 4) (fC (.int 1))) (i:=1) (m:=bm e A a r N m rc dep (.fz (.int a)) .un .un .un .un .un) rfl rfl (by simp [bm,au,aa,fC,cC])
 exact this)
theorem bs3 (E:nG e)(ha:a<=64)(h:e.cells.length<=a):∃q:Rat,smQ (rq q)/\∀(A:Addr×Addr) k,aL (gIf (aM gGe (aa 4) (aQ ie (aj (aa 0) aB))) (bU (bz (aj (fC (.str "end")) (aj (fFn bI (aj (fFn cR (aj (au cC (au gIx (aa 0) (fUn rE (fC (.int 1)))) (au mV (aa 4) (aa 4))) (aj (aJ 4) aB))) aB)) aB)))) gNx) k (bm e A (a+1:Nat) r N m rc dep (.fz (.int a)) .un .un .un .un .un)=.ok (.rt false (dG (.fin (rq q))),bm e A (a+1:Nat) r N m rc dep (.fz (.int a)) .un .un .un .un .un):=by
 obtain ⟨v,hv⟩:=K5 E
 obtain ⟨x,ex,hx⟩:=HF (v+(a:Int) * a) a (by omega)
 obtain ⟨q,eq,hq⟩:=yH (x:=x) ⟨hx.1,by have:=hx.2; omega⟩
 refine ⟨q,hq,fun A k=>Jb ?_⟩
 have ba:Bg (a:Int):=bgS (by omega)
 have hge:(a:Int) ≥ (e.cells.length:Int):=by omega
 have en:-(1:Int)=-1:=rfl
 show _=Res.ok (Fl.rt false (.tup [.str "end",rD q]),_)
 simp only [bm]
 generalize stD e A ((a+1:Nat):Int) (r:Int)=ST
 generalize bI=FS at *
 generalize cR=FM at *
 simp [cD,gIf,aM,aa,aQ,ie,aj,aB,gGe,hge,bU,Me.let,Sl.let,bz,fC,fFn,au,fUn,rE,gIx,hv,mV,ba,cC,aJ,ex,eq]
theorem Vh (k:Me->Res (Fl×Me)){X:Me->Res (Fl×Me)}(h:a<e.cells.length):aL (gIf (aM gGe (aa 4) (aQ ie (aj (aa 0) aB))) X gNx) k (bm e A (a+1:Nat) r N m rc dep (.fz (.int a)) .un .un .un .un .un)=k (bm e A (a+1:Nat) r N m rc dep (.fz (.int a)) .un .un .un .un .un):=gs (by
 have hge:¬(a:Int) ≥ (e.cells.length:Int):=by omega
 simp only [bm]
 generalize stD e A ((a+1:Nat):Int) (r:Int)=ST
 simp [cD,gIf,aM,aa,aQ,ie,aj,aB,gGe,hge,gNx])
theorem bs4 (h:a<e.cells.length)(ha:a<=64):∃x,sm x/\∀(A:Addr×Addr) k,aL (bC 5 (fFn cR (aj (au gIx (aa 0) (aa 4)) (aj (aJ 4) aB)))) k (bm e A (a+1:Nat) r N m rc dep (.fz (.int a)) .un .un .un .un .un)=k (bm e A (a+1:Nat) r N m rc dep (.fz (.int a)) (.fz (.int x)) .un .un .un .un):=by
 obtain ⟨v,hv⟩:=Dy h
 obtain ⟨x,ex,hx⟩:=HF v a (by omega)
 refine ⟨x,hx,fun A k=>gs ?_⟩
 simp only [bm]
 generalize stD e A ((a+1:Nat):Int) (r:Int)=ST
 generalize cR=FM at *
 simp [cD,bC,fFn,aj,aB,au,gIx,aa,aJ,hv,ex]
theorem bs5 (k:Me->Res (Fl×Me)){x:Int}:aL (bC 6 (aJ 5)) k (bm e A (a+1:Nat) r N m rc dep (.fz (.int a)) (.fz (.int x)) .un .un .un .un)=k (bm e A (a+1:Nat) r N m rc dep (.fz (.int a)) (.fz (.int x)) (.fz (.int x)) .un .un .un):=gs rfl
theorem bs6 (E:nG e)(hd:dep<=12){x:Int}(hx:sm x):∃y:Int,(0<=y/\y<=9000000000)/\∀(A:Addr×Addr) k,aL (gIf (fTv (au cQ (aa 1) (fC (.str "level")))) (bC 6 (au cC (au eN (aa 5) (au bQ (aa 5) (fC (.int 48)))) (au bQ (fFn cR (aj (au gIx (aa 0) (au bQ (aa 2) (aQ ie (aj (aa 0) aB)))) (aj (aJ 2) aB))) (fC (.int 48))))) gNx) k (bm e A (a+1:Nat) r N m rc dep (.fz (.int a)) (.fz (.int x)) (.fz (.int x)) .un .un .un)=k (bm e A (a+1:Nat) r N m rc dep (.fz (.int a)) (.fz (.int x)) (.fz (.int y)) .un .un .un):=by
 have gl:=fun A:Addr×Addr=>NP e A ((a+1:Nat):Int) r
 cases hl:e.lev with
 |false=>
  rw [hl] at gl
  refine ⟨x,⟨hx.1,by have:=hx.2; omega⟩,fun A k=>gs ?_⟩
  replace gl:=gl A
  simp only [bm]
  generalize stD e A ((a+1:Nat):Int) (r:Int)=ST at *
  simp [gIf,fTv,au,aa,fC,gl,gNx]
 |true=>
  rw [hl] at gl
  have hc:=E.c1
  have hpos:(0:Int)<(e.cells.length:Int):=by omega
  obtain ⟨v,hv⟩:=Qu (e:=e) (i:=(dep:Int) % (e.cells.length:Int)) (Int.emod_nonneg _ (by omega)) (Int.emod_lt_of_pos _ hpos)
  obtain ⟨y,ey,hy⟩:=HF v dep (by omega)
  have hne:(e.cells.length:Int)≠0:=by omega
  have hne2:e.cells.length≠0:=by omega
  have hne3:e.cells≠[]:=fun z=>by rw [z] at hc; simp at hc
  have hc':0<e.cells.length:=by omega
  refine ⟨x - x % 48+y % 48,⟨by have:=hx.1; omega,by have:=hx.2; omega⟩,fun A k=>gs ?_⟩
  replace gl:=gl A
  simp only [bm]
  generalize stD e A ((a+1:Nat):Int) (r:Int)=ST at *
  generalize cR=FM at *
  simp [cD,gIf,fTv,au,aa,fC,gl,bC,bQ,mdI,cC,F.eN,fFn,aj,aB,gIx,aQ,ie,hne,hne2,hne3,hpos,hc',hv,aJ,ey]
end
open PySem L2 Hd F Pk
section
variable {e:En}{A:Addr×Addr}{a r dep:Nat}{N:Nd}{m:Int×Int}{rc:Rc}{x y:Int}
noncomputable abbrev wR:Me->Res Bool:=(nU (aM gEq (aa 2) (fC (.int 0))) (nU (aM gLt (au cQ (aa 1) (fC (.str "room"))) (fC (.int 3))) (mF (aM gEq (au bQ (aa 6) (fC (.int 8))) (fC (.int 0))) (aM gGt (aa 4) (fC (.int 0))))))
theorem c7:wR (bm e A (a+1:Nat) r N m rc dep (.fz (.int a)) (.fz (.int x)) (.fz (.int y)) .un .un .un)=.ok (decide (dep=0\/r<3\/(y % 8=0/\0<a))):=by
 have gr:=Cm e A ((a+1:Nat):Int) r
 simp only [bm]
 generalize stD e A ((a+1:Nat):Int) (r:Int)=ST at *
 by_cases h1:dep=0
 ·simp [wR,nU,aM,aa,fC,h1]
 ·have h1':¬(dep:Int)=0:=by omega
  by_cases h2:r<3
  ·have h2':(r:Int)<3:=by omega
   simp [wR,nU,aM,aa,fC,h1,h1',au,gr,gLt,h2,h2']
  ·have h2':¬(r:Int)<3:=by omega
   by_cases h3:y % 8=0
   ·have h3':y.emod 8=0:=h3
    by_cases h4:0<a
    ·have h4':(a:Int) > 0:=by omega
     simp [wR,nU,mF,aM,aa,fC,h1,h1',au,gr,gLt,h2,h2',bQ,mdI,h3,gGt,h4,h4']
    ·have h4':¬(a:Int) > 0:=by omega
     simp [wR,nU,mF,aM,aa,fC,h1,h1',au,gr,gLt,h2,h2',bQ,mdI,h3,gGt,h4,h4']
   ·simp [wR,nU,mF,aM,aa,fC,h1,h1',au,gr,gLt,h2,h2',bQ,mdI,h3]
theorem bs7 (hx:sm x)(h:dep=0\/r<3\/(y % 8=0/\0<a)):∃q:Rat,smQ (rq q)/\∀(A:Addr×Addr) k,aL (gIf wR (bU (bz (aj (fC (.str "end")) (aj (fFn bI (aj (aJ 5) aB)) aB)))) gNx) k (bm e A (a+1:Nat) r N m rc dep (.fz (.int a)) (.fz (.int x)) (.fz (.int y)) .un .un .un)=.ok (.rt false (dG (.fin (rq q))),bm e A (a+1:Nat) r N m rc dep (.fz (.int a)) (.fz (.int x)) (.fz (.int y)) .un .un .un):=by
 obtain ⟨q,eq,hq⟩:=yH (x:=x) ⟨hx.1,by have:=hx.2; omega⟩
 refine ⟨q,hq,fun A k=>Jb ?_⟩
 have c:=c7 (e:=e) (A:=A) (a:=a) (r:=r) (dep:=dep) (N:=N) (m:=m) (rc:=rc) (x:=x) (y:=y)
 rw [decide_eq_true h] at c
 unfold gIf
 rw [c]
 show bU _ _=Res.ok (Fl.rt false (.tup [.str "end",rD q]),_)
 simp only [bm]
 generalize stD e A ((a+1:Nat):Int) (r:Int)=ST
 generalize bI=FS at *
 simp [bU,Me.let,Sl.let,bz,aj,aB,fC,fFn,aJ,eq]
theorem XN (k:Me->Res (Fl×Me)){X:Me->Res (Fl×Me)}(h:¬(dep=0\/r<3\/(y % 8=0/\0<a))):aL (gIf wR X gNx) k (bm e A (a+1:Nat) r N m rc dep (.fz (.int a)) (.fz (.int x)) (.fz (.int y)) .un .un .un)=k (bm e A (a+1:Nat) r N m rc dep (.fz (.int a)) (.fz (.int x)) (.fz (.int y)) .un .un .un):=gs (by
 have c:=c7 (e:=e) (A:=A) (a:=a) (r:=r) (dep:=dep) (N:=N) (m:=m) (rc:=rc) (x:=x) (y:=y)
 rw [decide_eq_false h] at c
 unfold gIf
 rw [c]
 rfl)
theorem bs8 (h:y % 8 > 2){Ψ:Bf}{d:D}{a' r':Nat}{N':Nd}{m':Int×Int}(eΨ:Ψ [cD e,.int (dep:Int),rcD rc,.int y] (stD e A (a+1:Nat) r) (A.1,nD N) (A.2,mD m)=.ok (d,stD e A a' r',nD N',mD m'))(k:Me->Res (Fl×Me)):
  aL (gIf (aM gGt (au bQ (aa 6) (fC (.int 8))) (fC (.int 2))) (sZ (uh Ψ 1 1 10 11 (aj (aJ 0) (aj (aJ 2) (aj (aJ 3) (aj (aJ 6) aB)))))) gNx) k (bm e A (a+1:Nat) r N m rc dep (.fz (.int a)) (.fz (.int x)) (.fz (.int y)) .un .un .un)=.ok (.rt false d,bm e A a' r' N' m' rc dep (.fz (.int a)) (.fz (.int x)) (.fz (.int y)) .un .un .un):=Jb (by
 simp only [bm]
 generalize stD e A ((a+1:Nat):Int) (r:Int)=ST at *
 generalize stD e A (a':Int) (r':Int)=ST' at *
 generalize cD e=C at *
 generalize nD N=NN at *
 generalize nD N'=NN' at *
 generalize mD m=MM at *
 generalize mD m'=MM' at *
 generalize rcD rc=RC at *
 simp [gIf,aM,au,aa,fC,bQ,mdI,gGt,h,sZ,uh,Bp,vf,aj,aB,aJ,eΨ,xn])
theorem ZM (h:¬y % 8 > 2){X:Me->Res (Fl×Me)}(k:Me->Res (Fl×Me)):
  aL (gIf (aM gGt (au bQ (aa 6) (fC (.int 8))) (fC (.int 2))) X gNx) k (bm e A (a+1:Nat) r N m rc dep (.fz (.int a)) (.fz (.int x)) (.fz (.int y)) .un .un .un)=k (bm e A (a+1:Nat) r N m rc dep (.fz (.int a)) (.fz (.int x)) (.fz (.int y)) .un .un .un):=gs (by
 simp only [bm]
 generalize stD e A ((a+1:Nat):Int) (r:Int)=ST at *
 simp [gIf,aM,au,aa,fC,bQ,mdI,gGt,h,gNx])
theorem bs9 {c:Int}(hc:c=1+y / 16 % 3)(k:Me->Res (Fl×Me)):aL (bC 7 (au cC (fC (.int 1)) (au bQ (au eY (aa 6) (fC (.int 16))) (fC (.int 3))))) k (bm e A (a+1:Nat) r N m rc dep (.fz (.int a)) (.fz (.int x)) (.fz (.int y)) .un .un .un)=k (bm e A (a+1:Nat) r N m rc dep (.fz (.int a)) (.fz (.int x)) (.fz (.int y)) (.fz (.int c)) .un .un):=gs (by
 have b16:Bg 16:=bgS (by decide)
 simp only [bm]
 generalize stD e A ((a+1:Nat):Int) (r:Int)=ST at *
 simp [bC,au,aa,fC,bQ,mdI,cC,eY,dvI,b16,hc])
theorem Zg {c:Int}{r1:Nat}(hr:(r:Int) - c=r1)(k:Me->Res (Fl×Me)):aL (jL 1 (fC (.str "room")) (au eN (au cQ (aa 1) (fC (.str "room"))) (aa 7))) k (bm e A (a+1:Nat) r N m rc dep (.fz (.int a)) (.fz (.int x)) (.fz (.int y)) (.fz (.int c)) .un .un)=k (bm e A (a+1:Nat) r1 N m rc dep (.fz (.int a)) (.fz (.int x)) (.fz (.int y)) (.fz (.int c)) .un .un):=gs (by
 have gr:=Cm e A ((a+1:Nat):Int) r
 have:=Ec (e:=e) (A:=A) (a:=((a+1:Nat):Int)) (r:=r) (r':=(r1:Int)) (fk:=fC (.str "room")) (fv:=au eN (au cQ (aa 1) (fC (.str "room"))) (aa 7)) (i:=1) (m:=bm e A (a+1:Nat) r N m rc dep (.fz (.int a)) (.fz (.int x)) (.fz (.int y)) (.fz (.int c)) .un .un) rfl rfl (by simp only [bm]; generalize stD e A ((a+1:Nat):Int) (r:Int)=ST at *; simp [au,aa,fC,gr,F.eN,hr])
 exact this)
theorem YX {c:Int}(k:Me->Res (Fl×Me)):aL (eX 8 (fV aB)) k (bm e A (a+1:Nat) r N m rc dep (.fz (.int a)) (.fz (.int x)) (.fz (.int y)) (.fz (.int c)) .un .un)=k (bm e A (a+1:Nat) r N m rc dep (.fz (.int a)) (.fz (.int x)) (.fz (.int y)) (.fz (.int c)) (.ow (.lst [])) .un):=gs rfl
theorem Za (E:nG e){ws:List D}{s4 s6 s7 s9:Sl}(hw:ws.length<=100):bU (bz (aj (fC (.str "deal")) (aj (au gIx (au cQ (aa 1) (fC (.str "pool"))) (au bQ (au eY (aa 5) (fC (.int 48))) (fC (.int 8)))) (aj (aQ jZ (aj (aa 8) aB)) aB)))) (bm e A a r N m rc dep s4 (.fz (.int y)) s6 s7 (.ow (.lst ws)) s9)=.ok (.rt false (.tup [.str "deal",.str (e.pool.getD (y / 48 % 8).toNat ⟨#[]⟩),.tup ws]),Me.let (bm e A a r N m rc dep s4 (.fz (.int y)) s6 s7 (.ow (.lst ws)) s9)):=by
 have gp:=Ke e A a r
 have pa:=Bo E (i:=y / 48 % 8) (by omega)
 have b48:Bg 48:=bgS (by decide)
 have z1:ws.length<=16777216:=by omega
 generalize e.pool.getD (y / 48 % 8).toNat ⟨#[]⟩=Z at *
 simp only [bm]
 generalize stD e A (a:Int) (r:Int)=ST at *
 simp [bU,Me.let,Sl.let,bz,aj,aB,fC,au,aa,gp,gIx,bQ,mdI,eY,dvI,b48,pa,aQ,jZ,z1]
end
theorem wy {e:En}{A:Addr×Addr}{a r:Int}{N:Nd}{m:Int×Int}{rc:Rc}{dep:Int}{s4 s5 s6 s7 s8 s9:Sl}:pL (bm e A a r N m rc dep s4 s5 s6 s7 s8 s9) 1=some (stD e A a r)/\jV (bm e A a r N m rc dep s4 s5 s6 s7 s8 s9) (12 - 2) A.1=some (nD N)/\jV (bm e A a r N m rc dep s4 s5 s6 s7 s8 s9) (12 - 1) A.2=some (mD m):=⟨rfl,by simp [bm,jV],by simp [bm,jV]⟩
theorem Bh {e:En}{A:Addr×Addr}{a r:Int}{N:Nd}{m:Int×Int}{rc:Rc}{dep:Int}{s4 s5 s6 s7 s8 s9:Sl}:pL (Me.let (bm e A a r N m rc dep s4 s5 s6 s7 s8 s9)) 1=some (stD e A a r)/\jV (Me.let (bm e A a r N m rc dep s4 s5 s6 s7 s8 s9)) (12 - 2) A.1=some (nD N)/\jV (Me.let (bm e A a r N m rc dep s4 s5 s6 s7 s8 s9)) (12 - 1) A.2=some (mD m):=⟨rfl,by simp [bm,jV,Me.let,Sl.let],by simp [bm,jV,Me.let,Sl.let]⟩
theorem Sv {FS:List D->Res (Bool×D)}{B:Me->Res (Fl×Me)}{e:En}{A:Addr×Addr}{a r:Int}{N:Nd}{m:Int×Int}{rc:Rc}{dep:Int}{s4 s6 s8 s9:Sl}{x c:D}{ls:List D}{R:Res (Fl×Me)}(h:FS [x,c]=.ok (true,.lst ls))(k:bL (hName 9) B ls (bm e A a r N m rc dep s4 (.fz x) s6 (.fz c) s8 s9)=R):
  iQ (gH (fFn FS (aj (aJ 5) (aj (aJ 7) aB)))) (hName 9) B (bm e A a r N m rc dep s4 (.fz x) s6 (.fz c) s8 s9)=R:=by
 have e1:gH (fFn FS (aj (aJ 5) (aj (aJ 7) aB))) (bm e A a r N m rc dep s4 (.fz x) s6 (.fz c) s8 s9)=.ok ls:=by
  simp only [bm]
  generalize stD e A a r=ST
  simp [gH,fFn,aj,aB,aJ,h]
 unfold iQ
 rw [e1]
 exact k
theorem Hg (n:Nat):aU (n+1)=F.runST 1 12 4 (dF bI cR (aU n) (gk (aU n))):=by rw [aU]
theorem HR {e:En}(E:nG e){n dep:Nat}(hd:dep<=12)(ih:∀d,d+1=dep->SpB e (aU n) d):SpB e (aU (n+1)) dep:=by
 rw [Hg]
 intro a r N m rc I hN har hr
 have start:∀A:Addr×Addr,j9 1 (.io (stD e A a r)) ([cD e,.int (dep:Int),rcD rc].map Sl.fz)++(List.replicate (12 - 4 - 2) Sl.un++[.hd false (A.1,nD N).1 (A.1,nD N).2,.hd false (A.2,mD m).1 (A.2,mD m).2])=bm e A a r N m rc dep .un .un .un .un .un .un:=fun _=>rfl
 have fin:∀(q:Rat) (s4 s5 s6 s7 s8 s9:Sl),smQ (rq q)->(∀A:Addr×Addr,(dF bI cR (aU n) (gk (aU n))) (bm e A a r N m rc dep .un .un .un .un .un .un)=.ok (.rt false (dG (.fin (rq q))),bm e A (a+1:Nat) r N m rc dep s4 s5 s6 s7 s8 s9))->Gives e (fun A=>F.runST 1 12 4 (dF bI cR (aU n) (gk (aU n))) [cD e,.int (dep:Int),rcD rc] (stD e A a r) (A.1,nD N) (A.2,mD m)) a r N rc dep:=fun q s4 s5 s6 s7 s8 s9 hq eq=>
  ⟨.fin (rq q),a+1,r,N,m,fun A=>yr rfl (start A) (eq A) wy.1 wy.2.1 wy.2.2,I,Sub.refl N,by omega,rfl,by omega,Kl hq⟩
 by_cases h1:e.cells.length<=a
 ·obtain ⟨q,hq,eq⟩:=bs3 (r:=r) (N:=N) (m:=m) (rc:=rc) (dep:=dep) E (by omega) h1
  refine fin q (.fz (.int a)) .un .un .un .un .un hq fun A=>?_
  unfold dF
  rw [bs1,bs2,eq]
 have h1:a<e.cells.length:=by omega
 obtain ⟨x,hx,e4⟩:=bs4 (r:=r) (N:=N) (m:=m) (rc:=rc) (dep:=dep) h1 (by omega)
 obtain ⟨y,hy,e6⟩:=bs6 (a:=a) (r:=r) (N:=N) (m:=m) (rc:=rc) E hd hx
 by_cases h7:dep=0\/r<3\/(y % 8=0/\0<a)
 ·obtain ⟨q,hq,eq⟩:=bs7 (e:=e) (N:=N) (m:=m) (rc:=rc) hx h7
  refine fin q (.fz (.int a)) (.fz (.int x)) (.fz (.int y)) .un .un .un hq fun A=>?_
  unfold dF
  rw [bs1,bs2,Vh _ h1,e4,bs5,e6,eq]
 obtain ⟨dep,rfl⟩:∃d,dep=d+1:=⟨dep - 1,by omega⟩
 have hΦ:=ih dep rfl
 by_cases h8:y % 8 > 2
 ·obtain ⟨g,a',r',N',m',em,j1,j2,j3,j4,j5,j6⟩:=TY E hΦ (a:=a+1) (r:=r) (draw:=y) I (by omega) (by omega) (by omega) hr hy
  refine ⟨g,a',r',N',m',fun A=>yr (fr:=false) (m':=bm e A a' r' N' m' rc ((dep+1:Nat):Int) (.fz (.int a)) (.fz (.int x)) (.fz (.int y)) .un .un .un) rfl (start A) ?_ wy.1 wy.2.1 wy.2.2,j1,j2,j3,j4,by omega,j6⟩
  unfold dF
  rw [bs1,bs2,Vh _ h1,e4,bs5,e6,XN _ h7,bs8 h8 (em A)]
 obtain ⟨cN,hcN⟩:∃cN:Nat,(cN:Int)=1+y / 16 % 3:=⟨(1+y / 16 % 3).toNat,by omega⟩
 obtain ⟨l,el,hl,hl2,hl3⟩:=Hj (x:=x) (c:=cN) hx (by omega)
 obtain ⟨L,a',r',N',m',t9,eL,j1,j2,j3,j4,j5,j6,j7⟩:=Ig hΦ (rc:=rc) (s4:=.fz (.int a)) (s5:=.fz (.int x)) (s6:=.fz (.int y)) (s7:=.fz (.int (cN:Int))) hr (l.map rD) (a+1) (r - cN) N m [] .un I (by omega) (by simp; omega) (by simp; omega)
 rw [List.length_map,hl2] at j4 j5
 have hL:L.length=cN:=by
  have:=congrArg List.length j6
  simpa [hl2] using this
 have eL2:∀A:Addr×Addr,gk (aU n) (bm e A (a+1:Nat) (r - cN:Nat) N m rc ((dep+1:Nat):Int) (.fz (.int a)) (.fz (.int x)) (.fz (.int y)) (.fz (.int (cN:Int))) (.ow (.lst [])) .un)=.ok (.nx,bm e A a' r' N' m' rc ((dep+1:Nat):Int) (.fz (.int a)) (.fz (.int x)) (.fz (.int y)) (.fz (.int (cN:Int))) (.ow (.lst (L.map Gw))) t9):=fun A=>by
  unfold gk
  exact Sv el (eL A)
 refine ⟨.deal (e.pool.getD (x / 48 % 8).toNat ⟨#[]⟩) (ofL L),a',r',N',m',fun A=>yr (fr:=false) (m':=Me.let (bm e A a' r' N' m' rc ((dep+1:Nat):Int) (.fz (.int a)) (.fz (.int x)) (.fz (.int y)) (.fz (.int (cN:Int))) (.ow (.lst (L.map Gw))) t9)) rfl (start A) ?_ Bh.1 Bh.2.1 Bh.2.2,j1,j2,j3,?_,by omega,Nb (by omega) j7 ?_⟩
 ·unfold dF
  rw [bs1,bs2,Vh _ h1,e4,bs5,e6,XN _ h7,ZM h8,bs9 hcN,Zg (r1:=r - cN) (by omega),YX,gs (eL2 A),Za E (by simp; omega)]
  show _=Res.ok (Fl.rt false (D.tup [_,_,.tup (dWs (ofL L))]),_)
  rw [GR]; rfl
 ·show r'+(szW (ofL L)+1)=r+1
  rw [Gz]; omega
 ·exact ⟨l,by rw [Cy,j6],hl,by omega,hl3⟩
theorem Fp {e:En}(E:nG e):∀(n dep:Nat),dep+1<=n->dep<=12->SpB e (aU n) dep
 |0,dep,h,_=>by omega
 |n+1,dep,h,hd=>HR E hd fun d hd'=>Fp E n d (by omega) (by omega)
open PySem L2 Hd F Pk
theorem getD_inj {l:List Str}(nd:l.Nodup){i j:Nat}{d:Str}(hi:i<l.length)(hj:j<l.length)(h:l.getD i d=l.getD j d):i=j:=by
 rw [List.getD_eq_getElem?_getD,List.getD_eq_getElem?_getD,List.getElem?_eq_getElem hi,List.getElem?_eq_getElem hj] at h
 have h:l[i]=l[j]:=h
 rcases Nat.lt_trichotomy i j with q | q | q
 ·exact absurd h ((List.pairwise_iff_getElem.mp nd) i j hi hj q)
 ·exact q
 ·exact absurd h.symm ((List.pairwise_iff_getElem.mp nd) j i hj hi q)
theorem Su {e:En}(E:nG e)(nd:e.pool.Nodup){N:Nd}{m:Int×Int}(I:pM N m){s:Int}{nm:Str}{d d':D}(hs:s=1\/s=2)(h:Row e N s nm d)(h':Row e N s nm d'):d=d':=by
 obtain ⟨rc,c,b,n,h1,h2,h3,h4,h5,h6,h7,rfl⟩:=h
 obtain ⟨rc',c',b',n',k1,k2,k3,k4,k5,k6,k7,rfl⟩:=h'
 have hn:nameAt e n=nameAt e n':=by rw [← h7,← k7]
 have p8:=E.p8
 have:=getD_inj nd (by rw [p8]; omega) (by rw [p8]; omega) hn
 have t0:=E.t0
 have e1:n=n':=by omega
 subst e1
 obtain ⟨q1,q2⟩:=I.inj s rc c b rc' c' b' _ hs h1 k1 h3 k3
 have q2:c=c':=by omega
 subst q1 q2
 rfl
theorem yI {e:En}(E:nG e)(n:Int):∀l:List Nat,o5 (l.map fun (k:Nat)=>D.str (wordAt e n k))=true/\n6 (l.map fun (k:Nat)=>D.str (wordAt e n k))=0
 |[]=>⟨rfl,rfl⟩
 |k::l=>by
  obtain ⟨h1,h2⟩:=yI E n l
  have hw:PyData.strOk (wordAt e n k)=true:=xM E _ (by have:=E.t0; omega)
  exact ⟨by simp [o5,okD,hw,h1],by simp [n6,pI,h2]⟩
theorem PQ:∀{rc:List D},Pr rc->n6 rc<=1
 |[],_=>Nat.zero_le _
 |d::rc,h=>by
  obtain ⟨a,b,rfl⟩:=h d List.mem_cons_self
  have:=PQ fun x hx=>h x (List.mem_cons_of_mem _ hx)
  simp [n6,pI]
  omega
theorem Q9 {e:En}(E:nG e)(n:Int):PyData.strOk (nameAt e n)=true:=xM E _ (by have:=E.t0; omega)
theorem Nx {e:En}(E:nG e){N:Nd}{s:Int}{nm:Str}{d:D}(h:Row e N s nm d):okR d:=by
 obtain ⟨rc,c,b,n,h1,h2,h3,h4,h5,h6,rfl,rfl⟩:=h
 obtain ⟨w1,w2⟩:=yI E n (List.range c)
 have hp:=PQ h1
 have hn:=Q9 E n
 refine ⟨by simp [okD,o5,hn,w1,h2],?_⟩
 simp only [pI,n6,w2]
 omega
mutual
theorem Io:∀(w:List Int) (r:Rc) (g:Gm),fH g->∀p∈prG w r g,fH p.2.1
 |w,r,.fin d,h,p,hp=>by
  have:p=(w,.fin d,r):=by simpa [prG] using hp
  rw [this]; exact h
 |w,r,.deal n ws,h,p,hp=>by
  rcases List.mem_cons.mp (show p∈(w,Gm.deal n ws,r)::prW w (fun _=>r) 0 ws from hp) with e | e
  ·rw [e]; exact h
  ·exact Cd w _ 0 ws h.2 p e
 |w,r,.move s n ws,h,p,hp=>by
  rcases List.mem_cons.mp (show p∈(w,Gm.move s n ws,r)::prW w (rbm s n r) 0 ws from hp) with e | e
  ·rw [e]; exact h
  ·exact Cd w _ 0 ws h.2 p e
theorem Cd:∀(w:List Int) (f:D->Rc) (i:Nat) (ws:Ws),wF ws->∀p∈prW w f i ws,fH p.2.1
 |w,f,i,.nil,_,p,hp=>by cases hp
 |w,f,i,.cons l g r,h,p,hp=>by
  rcases List.mem_append.mp (show p∈prG (w++[(i:Int)]) (f l) g++prW w f (i+1) r from hp) with e | e
  ·exact Io _ _ g h.1 p e
  ·exact Cd w f (i+1) r h.2 p e
end
noncomputable def nmD:D->Str
 | .tup [_,.str n,_,_]=>n
 |_=>⟨#[]⟩
noncomputable def kOf (d:D):List Kt:=kn (sdD d) (nmD d)
noncomputable def TI (T:Tb):Prop:=T.1=T.2.map kOf/\T.1.Nodup
theorem Tv {T:Tb}(h:TI T)(p:Tr):TI (tst T p):=by
 unfold tst
 split
 ·rename_i s n ws ep
  split
  ·exact h
  ·rename_i q
   have hl:T.1.length=T.2.length:=by rw [h.1]; simp
   have hn:kn s n∉T.1:=fun hk=>by
    have:∀{ks:List (List Kt)} {ds:List D},ks.length=ds.length->kn s n∈ks->(cA ks ds (kn s n)).isSome=true:=by
     intro ks
     induction ks with
     |nil=>intro ds _ h; cases h
     |cons a ks ih=>
      intro ds hl h
      cases ds with
      |nil=>simp at hl
      |cons x ds=>
       unfold cA
       by_cases qa:a=kn s n
       ·rw [if_pos qa]; rfl
       ·rw [if_neg qa]
        rcases List.mem_cons.mp h with e | e
        ·exact absurd e.symm qa
        ·exact ih (by simpa using hl) e
    exact q (this hl hk)
   refine ⟨?_,?_⟩
   ·show T.1++[kn s n]=(T.2++[jy s n ws p.2.2]).map kOf
    rw [List.map_append,← h.1]; rfl
   ·show (T.1++[kn s n]).Nodup
    rw [List.nodup_append]
    exact ⟨h.2,by simp,fun a ha b hb=>by rw [List.mem_singleton.mp hb]; exact fun z=>hn (z ▸ ha)⟩
 ·exact h
theorem Kf:∀(l:List Tr) (T:Tb),TI T->TI (l.foldl tst T)
 |[],T,h=>h
 |p::l,T,h=>Kf l (tst T p) (Tv h p)
theorem sub_len:∀{l p:List Str},l.Nodup->(∀x∈l,x∈p)->l.length<=p.length
 |[],p,_,_=>Nat.zero_le _
 |a::l,p,nd,h=>by
  have ha:=h a List.mem_cons_self
  have nd':=List.nodup_cons.mp nd
  have:=sub_len (l:=l) (p:=p.erase a) nd'.2 fun x hx=>(List.mem_erase_of_ne (fun (z:x=a)=>nd'.1 (by rw [← z]; exact hx))).mpr (h x (List.mem_cons_of_mem _ hx))
  rw [List.length_erase_of_mem ha] at this
  have:0<p.length:=List.length_pos_of_mem ha
  simp only [List.length_cons]
  omega
open PySem L2 Hd F Pk
theorem name_mem {e:En}(E:nG e)(n:Int):nameAt e n∈e.pool:=by
 have t0:=E.t0
 have hl:((n+e.turn) % 8).toNat<e.pool.length:=by rw [E.p8]; omega
 unfold nameAt
 rw [List.getD_eq_getElem?_getD,List.getElem?_eq_getElem hl]
 exact List.getElem_mem hl
theorem yC {e:En}{N:Nd}{g:Gm}{rc:Rc}{dep:Nat}(G:Grw e N rc g dep){d:D}(h:d∈(tbl (prG [] rc g)).2):∃s n,(s=1\/s=2)/\Row e N s n d:=by
 rcases Bm (prG [] rc g) ([],[]) d h with z | ⟨p,hp,s,n,ws,ep,rfl⟩
 ·cases z
 ·have h1:=G.pl [] p hp
  have h2:=zT [] rc g G.len G.sd p hp
  obtain ⟨w,q,r⟩:=p
  have ep:q=.move s n ws:=ep
  subst ep
  exact ⟨s,n,h2.1,h1⟩
theorem Vw {e:En}{N:Nd}{s:Int}{n:Str}{d:D}(h:Row e N s n d):wdD d<=3:=by
 obtain ⟨rc',c,b,k,_,_,_,_,_,h6,_,rfl⟩:=h
 simpa [wdD] using h6
theorem QH {e:En}(E:nG e){N:Nd}{g:Gm}{rc:Rc}{dep:Nat}(G:Grw e N rc g dep)(s:Int):okT (tbl (prG [] rc g)).2 s:=by
 have T:=Kf (prG [] rc g) ([],[]) ⟨rfl,List.nodup_nil⟩
 generalize hT:(tbl (prG [] rc g)).2=R at *
 have hrow:∀d∈R,∃s n,(s=1\/s=2)/\Row e N s n d:=fun d hd=>yC G (by rw [hT]; exact hd)
 have hR:((prG [] rc g).foldl tst ([],[])).2=R:=hT
 obtain ⟨t1,t2⟩:=T
 rw [hR] at t1
 rw [t1] at t2
 have nd:(R.filter fun d=>decide (sdD d=s)).Pairwise fun a b=>kOf a≠kOf b:=by
  have:=(List.pairwise_map.mp t2)
  exact this.sublist List.filter_sublist
 have nd2:((R.filter fun d=>decide (sdD d=s)).map nmD).Nodup:=by
  refine List.pairwise_map.mpr (nd.imp_of_mem fun {a b} ha hb h z=>h ?_)
  have h1:sdD a=s:=by simpa using (List.mem_filter.mp ha).2
  have h2:sdD b=s:=by simpa using (List.mem_filter.mp hb).2
  unfold kOf
  rw [h1,h2,z]
 have sub:∀x∈(R.filter fun d=>decide (sdD d=s)).map nmD,x∈e.pool:=fun x hx=>by
  obtain ⟨d,hd,rfl⟩:=List.mem_map.mp hx
  obtain ⟨_,n,_,rc',c,b,k,_,_,_,_,_,_,rfl,rfl⟩:=hrow d (List.mem_filter.mp hd).1
  exact name_mem E k
 have hl:=sub_len nd2 sub
 rw [List.length_map,E.p8] at hl
 have hw:∀l:List D,(∀d∈l,∃s n,(s=1\/s=2)/\Row e N s n d)->(l.map fun d=>(wdD d:Int)).sum<=3 * l.length:=by
  intro l
  induction l with
  |nil=>intro _; simp
  |cons d l ih=>
   intro h
   have:=ih fun x hx=>h x (List.mem_cons_of_mem _ hx)
   obtain ⟨_,n,_,hr⟩:=h d List.mem_cons_self
   have h3:=Vw hr
   simp only [List.map_cons,List.sum_cons,List.length_cons]
   omega
 exact ⟨hl,Int.le_trans (hw _ fun d hd=>hrow d (List.mem_filter.mp hd).1) (by omega)⟩
theorem W8 {e:En}(E:nG e)(nd:e.pool.Nodup){N:Nd}{m:Int×Int}(I:pM N m){g:Gm}{dep:Nat}(hd:dep<=12)(G:Grw e N ([],[]) g dep)(hz:szG g<=64):Gd g where
 len:=G.len
 sd:=G.sd
 dep:=Nat.le_trans G.dep hd
 sz:=hz
 row:=by
  classical
  refine ⟨fun s n=>if h:∃d,Row e N s n d then Classical.choose h else .non,fun p hp s n ws ep=>?_⟩
  have h1:=G.pl [] p hp
  have h2:=zT [] ([],[]) g G.len G.sd p hp
  obtain ⟨w,q,r⟩:=p
  have ep:q=.move s n ws:=ep
  subst ep
  have h1:Row e N s n (jy s n ws r):=h1
  have hex:∃d,Row e N s n d:=⟨_,h1⟩
  have e1:=Su E nd I h2.1 h1 (Classical.choose_spec hex)
  simp only [dif_pos hex]
  exact ⟨e1,Nx E (Classical.choose_spec hex)⟩
 fr:=fun p hp=>by
  have h1:=G.pl [] p hp
  refine ⟨?_,Io [] ([],[]) g G.len p hp⟩
  obtain ⟨w,q,r⟩:=p
  cases q with
  |fin d=>exact h1
  |deal n ws=>exact h1
  |move s n ws=>trivial
 t1:=QH E G 1
 t2:=QH E G 2
open PySem L2 Hd F Pk
theorem Zo:pM ([],[]) (0,0):=⟨rfl,by simp,by simp,fun _ _ _ _ _ _ _ h=>by simp [cA] at h,fun _ _ _ _ _ _ _ _ _ _ _ h=>by simp [cA] at h⟩
noncomputable def gmM (e:En)(turn:Int)(dep:Nat)(s5 s6 s7:Sl):Me:=[.fz (cD e),.fz (.int turn),.fz (.int (dep:Int)),.fz (.int 63),.fz (.lst (e.pool.map D.str)),s5,s6,s7]
theorem UL (e:En)(a1 a2:Addr):Ea [] [] [(.str "at",.int 0),(.str "room",.int 63),(.str "names",.adr a1),(.str "many",.adr a2),(.str "pool",.lst (e.pool.map D.str))]=some ([sk "at",sk "room",sk "names",sk "many",sk "pool"],[.int 0,.int 63,.adr a1,.adr a2,.lst (e.pool.map D.str)]):=by
 simp [Ea,sG,putD,sk]
theorem M7 {Φ : Bf} {e : En} {turn : Int} {dep : Nat} {d : D} (ht : e.turn = turn % 64) (hl : e.lev = decide (turn / 64 % 2 = 1))
    (h : ∀ A : Addr × Addr, ∃ s n m, Φ [cD e, .int (dep : Int), rcD ([], [])] (stD e A 0 63) (A.1, nD ([], [])) (A.2, mD (0, 0)) = .ok (d, s, n, m)) :
    bf 8 5 (oY Φ) [cD e, .int turn, .int (dep : Int), .int 63, .lst (e.pool.map D.str)] = .ok (false, d) := by
  have b64 : Bg 64 := bgS (by decide)
  have H : ∀ a1 a2 : Addr, a1 ≠ a2 → ∃ m', ((ofO (Ea [] [] [(.str "at", .int 0), (.str "room", .int 63), (.str "names", .adr a1), (.str "many", .adr a2), (.str "pool", .lst (e.pool.map D.str))])).bind fun r => (aL (jL 5 (fC (.str "turn")) (au bQ (aa 1) (fC (.int 64))))
 (aL (jL 5 (fC (.str "level")) (rZ gEq (au bQ (au eY (aa 1) (fC (.int 64))) (fC (.int 2))) (fC (.int 1))))
 (sZ (uh Φ 5 1 6 7 (aj (aJ 0) (aj (aJ 2) (aj (fV (aj (bz aB) (aj (bz aB) aB))) aB))))))) (((gmM e turn dep .un .un .un).set 5 (.ow (.dct r.1 r.2))).set 6 (.hd true a1 (nD ([], []))) |>.set 7 (.hd true a2 (mD (0, 0))))) = .ok (.rt false d, m') ∧ m'.length = (gmM e turn dep .un .un .un).length := by
    intro a1 a2 hne
    obtain ⟨s, n, m, eΦ⟩ := h (a1, a2)
    refine ⟨gmM e turn dep (.ow s) (.hd true a1 n) (.hd true a2 m), ?_, rfl⟩
    rw [UL]
    simp only [pO, Res.rK]
    have e1 : ∀ k, aL (jL 5 (fC (.str "turn")) (au bQ (aa 1) (fC (.int 64)))) k (gmM e turn dep (.ow (.dct [sk "at", sk "room", sk "names", sk "many", sk "pool"] [.int 0, .int 63, .adr a1, .adr a2, .lst (e.pool.map D.str)])) (.hd true a1 (nD ([], []))) (.hd true a2 (mD (0, 0)))) = k (gmM e turn dep (.ow (.dct [sk "at", sk "room", sk "names", sk "many", sk "pool", sk "turn"] [.int 0, .int 63, .adr a1, .adr a2, .lst (e.pool.map D.str), .int e.turn])) (.hd true a1 (nD ([], []))) (.hd true a2 (mD (0, 0)))) := fun k => gs (by
      simp [gmM, jL, au, aa, fC, bQ, mdI, CZ, sG, El, putD, sk, ht])
    have e2 : ∀ k, aL (jL 5 (fC (.str "level")) (rZ gEq (au bQ (au eY (aa 1) (fC (.int 64))) (fC (.int 2))) (fC (.int 1)))) k (gmM e turn dep (.ow (.dct [sk "at", sk "room", sk "names", sk "many", sk "pool", sk "turn"] [.int 0, .int 63, .adr a1, .adr a2, .lst (e.pool.map D.str), .int e.turn])) (.hd true a1 (nD ([], []))) (.hd true a2 (mD (0, 0)))) = k (gmM e turn dep (.ow (stD e (a1, a2) 0 63)) (.hd true a1 (nD ([], []))) (.hd true a2 (mD (0, 0)))) := fun k => gs (by
      simp [gmM, jL, rZ, au, aa, fC, bQ, mdI, eY, dvI, b64, CZ, sG, El, putD, sk, stD, vP, hl])
    show aL _ _ (gmM e turn dep (.ow (.dct [sk "at", sk "room", sk "names", sk "many", sk "pool"] [.int 0, .int 63, .adr a1, .adr a2, .lst (e.pool.map D.str)])) (.hd true a1 (nD ([], []))) (.hd true a2 (mD (0, 0)))) = _
    rw [e1, e2]
    simp only [gmM, rcD] at eΦ ⊢
    generalize stD e (a1, a2) 0 63 = ST at *
    generalize nD ([], []) = NN at *
    generalize mD (0, 0) = MM at *
    simp [sZ, uh, Bp, vf, aj, aB, aJ, fV, bz, eΦ, xn]
  have g := QL H
  have start : [cD e, .int turn, .int (dep : Int), .int 63, .lst (e.pool.map D.str)].map Sl.fz ++ List.replicate (8 - 5) Sl.un = gmM e turn dep .un .un .un := rfl
  have gc : oY Φ (gmM e turn dep .un .un .un) = .ok (.rt false d, (gmM e turn dep .un .un .un).map fun _ => .un) := by
    rw [← g]
    rfl
  have hlen : [cD e, .int turn, .int (dep : Int), .int 63, .lst (e.pool.map D.str)].length = 5 := rfl
  unfold bf
  rw [if_pos hlen, start, gc]
theorem QZ {e:En}(E:nG e){turn:Int}{dep:Nat}(hd:dep<=12)(ht:e.turn=turn % 64)(hl:e.lev=decide (turn / 64 % 2=1)):
  ∃(g:Gm) (N:Nd) (m:Int×Int),jF [cD e,.int turn,.int (dep:Int),.int 63,.lst (e.pool.map D.str)]=.ok (false,dG g)/\pM N m/\szG g<=64/\Grw e N ([],[]) g dep:=by
 obtain ⟨g,a',r',N,m,eg,I,_,_,h1,_,G⟩:=Fp E 13 dep (by omega) hd 0 63 ([],[]) (0,0) ([],[]) Zo (by simp) (by omega) ⟨(fun _ z=>nomatch z),(fun _ z=>nomatch z),rfl,rfl,by simpa using hd,by simpa using hd⟩
 exact ⟨g,N,m,M7 (Φ:=aU 13) ht hl fun A=>⟨_,_,_,eg A⟩,I,by omega,G⟩
open PySem L2 Hd F Pk
theorem MJ {e:En}{N:Nd}{g:Gm}{rc:Rc}{dep:Nat}(G:Grw e N rc g dep):∀d∈(tbl (prG [] rc g)).2,GK d:=fun d hd=>by
 obtain ⟨s,n,_,rc',c,b,k,h1,_,_,_,_,h6,_,rfl⟩:=yC G hd
 refine ⟨s,n,_,rc',rfl,fun x hx=>?_,by simp; omega,h1⟩
 obtain ⟨j,_,rfl⟩:=List.mem_map.mp hx
 exact ⟨_,rfl⟩
variable {P:Program}{w:World}{K:W.Frag}{mg:Str->Option Value}{base:Heap}{f:Addr}{fd:FuncData}
theorem IK:∀l:List D,(∀d∈l,okR d)->o5 l=true/\n6 l<=20
 |[],_=>⟨rfl,Nat.zero_le _⟩
 |d::l,h=>by
  obtain ⟨a,b⟩:=IK l fun x hx=>h x (List.mem_cons_of_mem _ hx)
  obtain ⟨c,e⟩:=h d List.mem_cons_self
  exact ⟨by simp [o5,a,c],by simp [n6]; omega⟩
theorem Ww {e:En}(E:nG e){N:Nd}{g:Gm}{rc:Rc}{dep:Nat}(G:Grw e N rc g dep):okD (.lst (tbl (prG [] rc g)).2)=true/\pI (.lst (tbl (prG [] rc g)).2)<=64:=by
 obtain ⟨a,b⟩:=IK (tbl (prG [] rc g)).2 fun d hd=>by
  obtain ⟨s,n,_,h⟩:=yC G hd
  exact Nx E h
 exact ⟨by simp [okD,a],by simp [pI]; omega⟩
open PySem L2 Hd F Pk
theorem cell_eq (ns:List Int)(k:Nat)(hz:ns.length<=1000):∃v:Int,gf [.lst (ns.map D.int),.int (k:Int)]=.ok (false,.int v):=by
 by_cases h:k<ns.length
 ·have e1:atI (ns.map D.int) (k:Int)=some (.int ns[k]):=qy (by rw [List.getElem?_map,List.getElem?_eq_getElem h]; rfl)
  have h':(k:Int)<(ns.length:Int):=by omega
  exact ⟨ns[k],by simp [gf,jQ,jW,bf,aL,gIf,aM,aa,aQ,ie,aj,aB,gLt,h,h',bU,Me.let,Sl.let,au,gIx,e1]⟩
 ·have h':¬(k:Int)<(ns.length:Int):=by omega
  exact ⟨0,by simp [gf,jQ,jW,bf,aL,gIf,aM,aa,aQ,ie,aj,aB,gLt,h,h',bU,Me.let,Sl.let,gNx,fC]⟩
theorem Nf {e:En}(E:nG e)(nd:e.pool.Nodup){turn:Int}{dep:Nat}(hd:dep<=12)(ht:e.turn=turn % 64)(hl:e.lev=decide (turn / 64 % 2=1)):
  ∃(G T:D) (l:List D),jF [cD e,.int turn,.int (dep:Int),.int 63,.lst (e.pool.map D.str)]=.ok (false,G)/\T=.lst l/\gq [G]=.ok (true,T)/\ur [G]=.ok (true,T)/\dD [T]=.ok (false,.bl true)/\gEq T T=some true/\gNe T T=some false:=by
 obtain ⟨g,N,m,e1,I,hz,G⟩:=QZ E hd ht hl
 have gd:=W8 E nd I hd G hz
 have k:=Ww E G
 exact ⟨dG g,_,_,e1,rfl,Kz gd.len gd.sd (by have:=gd.dep; omega) (by omega),TV gd,Py (MJ G),yJ k.1 k.2,yP k.1 k.2⟩
open PySem L2 Hd F Pk
noncomputable def ss:List Nat:=[97,98,99,100,101,102,103,104,105,106,107,108,109,110,111,112,113,114,115,116,117,118,119,120,121,122,48,49,50,51,52,53,54,55,56,57]
theorem Vf:Str.ofString "abcdefghijklmnopqrstuvwxyz0123456789" = tx ss:=by decide +kernel
theorem Uv:∀c∈ss,c<128:=by decide
theorem Yz:ss.Nodup:=by decide
noncomputable def sgn (i:Int):Nat:=ss.getD i.toNat 0
theorem Ij {i:Int}(h:0<=i/\i<36):sgn i∈ss:=by
 have hl:i.toNat<ss.length:=by show i.toNat<36; omega
 unfold sgn
 rw [List.getD_eq_getElem?_getD,List.getElem?_eq_getElem hl]
 exact List.getElem_mem hl
theorem Ry {i j:Int}(h:0<=i/\i<36)(h':0<=j/\j<36)(e:sgn i=sgn j):i=j:=by
 have hl:i.toNat<ss.length:=by show i.toNat<36; omega
 have hl':j.toNat<ss.length:=by show j.toNat<36; omega
 unfold sgn at e
 rw [List.getD_eq_getElem?_getD,List.getElem?_eq_getElem hl,List.getD_eq_getElem?_getD,List.getElem?_eq_getElem hl'] at e
 have:=(List.getElem_inj (h₀:=hl) (h₁:=hl') Yz).mp e
 omega
theorem Ue {i:Int}(h:0<=i/\i<36):gIx (.str "abcdefghijklmnopqrstuvwxyz0123456789") (.int i)=some (.str (tx [sgn i])):=by
 show gIx (.str (Str.ofString "abcdefghijklmnopqrstuvwxyz0123456789")) _=_
 rw [Vf]
 have hl:i.toNat<ss.length:=by show i.toNat<36; omega
 have e:atI ss i=some (sgn i):=by
  have:=qy (xs:=ss) (j:=i.toNat) (List.getElem?_eq_getElem hl)
  rw [show ((i.toNat:Nat):Int)=i by omega] at this
  rw [this]
  unfold sgn
  rw [List.getD_eq_getElem?_getD,List.getElem?_eq_getElem hl]
  rfl
 show (if (tx ss).length<=sizeLine then (atI (tx ss).cps.toList i).map fun c=>D.str ⟨#[c]⟩ else none)=_
 rw [if_pos (by rw [tQ]; decide),xr,e]
 rfl
theorem Wd:sizeLine=16777216:=rfl
theorem QG {a b:List Nat}(h:a.length+b.length<=1000):cC (.str (tx a)) (.str (tx b))=some (.str (tx (a++b))):=by
 show (if (tx a).length+(tx b).length<=sizeLine then some (D.str (tx a++tx b)) else none)=_
 rw [if_pos (by rw [tQ,tQ,Wd]; omega),Wt]
theorem Up {w:List Nat}{i:Int}(h0:0<=i)(h1:i<=w.length)(hw:w.length<=1000):gSl (.str (tx w)) none (some i)=some (.str (tx (w.take i.toNat))):=by
 show (if (tx w).length<=sizeLine then some (D.str (Txt.slice (tx w) none (some i))) else none)=_
 rw [if_pos (by rw [tQ,Wd]; omega)]
 have:=StrLaws.sliceText_to (x:=tx w) (j:=i) ⟨h0,by rw [xr]; exact h1⟩
 rw [show Txt.slice (tx w) none (some i)=StrLaws.sliceText (tx w) none (some i) from rfl,this]
 simp [tx]
theorem PJ {w:List Nat}{i:Int}(h0:0<=i)(h1:i<=w.length):Txt.slice (tx w) (some i) none=tx (w.drop i.toNat):=by
 have:=StrLaws.sliceText_from (x:=tx w) (i:=i) ⟨h0,by rw [xr]; exact h1⟩
 rw [show Txt.slice (tx w) (some i) none=StrLaws.sliceText (tx w) (some i) none from rfl,this]
 refine Ju ?_
 rw [xr]
 show ((w.drop i.toNat).take _)=_
 exact List.take_of_length_le (by rw [List.length_drop]; omega)
theorem Tq {w:List Nat}{i:Int}(h0:0<=i)(h1:i<=w.length)(hw:w.length<=1000):gSl (.str (tx w)) (some i) none=some (.str (tx (w.drop i.toNat))):=by
 show (if (tx w).length<=sizeLine then some (D.str (Txt.slice (tx w) (some i) none)) else none)=_
 rw [if_pos (by rw [tQ,Wd]; omega),PJ h0 h1]
noncomputable def xf (w:List Nat):List Nat:=w++w++w++w++w++w++w++w
theorem Zt {w:List Nat}(h:1<=w.length)(h2:w.length<=100):P0 (.int 8) (.str (tx w))=some (.str (tx (xf w))):=by
 show (if (0:Int)<=8/\(8:Int)<=1000/\(tx w).length<=1000 then some (D.str (Txt.mul (tx w) 8)) else none)=_
 rw [if_pos ⟨by decide,by decide,by rw [tQ]; omega⟩]
 congr 2
 unfold Txt.mul
 rw [if_neg (by decide),if_neg (by rw [tQ]; simp; intro z; rw [z] at h; simp at h)]
 refine Ju ?_
 show (List.foldl (· ++ ·) #[] (List.replicate 8 w.toArray)).toList=_
 simp [List.replicate,xf,List.append_assoc]
theorem Az {s1 s2 s3 s5 s6 s7 s8 s9:Sl}{x:Int}{P:List D}(hP:P.length<=100):jf [.fz (.int x),s1,s2,s3,.ow (.lst P),s5,s6,s7,s8,s9]=.ok (.nx,[.fz (.int (x / 36)),s1,s2,s3,.ow (.lst (P++[.int (x % 36)])),s5,s6,s7,s8,s9]):=by
 have b1:Bg 36:=bgS (by decide)
 have z1:P.length<16777216:=by omega
 simp [jf,aL,cP,j8,putL,au,aa,fC,bQ,mdI,eY,dvI,b1,z1,bC]
theorem xG {s1 s2 s3 s6 s7 s8 s9:Sl}:∀(c i:Nat) (x:Int) (P:List Int) (s5:Sl),P.length+c<=100->(∀p∈P,0<=p/\p<36)->∃(x' s5':Sl) (Q:List Int),bL (hName 5) jf ((List.range' i c).map fun (k:Nat)=>D.int k) [.fz (.int x),s1,s2,s3,.ow (.lst (P.map D.int)),s5,s6,s7,s8,s9]=.ok (.nx,[x',s1,s2,s3,.ow (.lst (Q.map D.int)),s5',s6,s7,s8,s9])/\Q.length=P.length+c/\∀p∈Q,0<=p/\p<36
 |0,i,x,P,s5,_,hp=>⟨_,s5,P,rfl,rfl,hp⟩
 |c+1,i,x,P,s5,hz,hp=>by
  have st:=Az (s1:=s1) (s2:=s2) (s3:=s3) (s5:=.fz (.int (i:Int))) (s6:=s6) (s7:=s7) (s8:=s8) (s9:=s9) (x:=x) (P:=P.map D.int) (by simp; omega)
  obtain ⟨x',s',Q,e,l,h⟩:=xG (s1:=s1) (s2:=s2) (s3:=s3) (s6:=s6) (s7:=s7) (s8:=s8) (s9:=s9) c (i+1) (x / 36) (P++[x % 36]) (.fz (.int (i:Int))) (by simp; omega) fun p hp'=>by
   rcases List.mem_append.mp hp' with e | e
   ·exact hp p e
   ·rw [List.mem_singleton.mp e]; omega
  refine ⟨x',s',Q,?_,by rw [l]; simp; omega,h⟩
  rw [List.range'_succ,List.map_cons,bY (m1:=[.fz (.int x),s1,s2,s3,.ow (.lst (P.map D.int)),.fz (.int (i:Int)),s6,s7,s8,s9]) rfl st]
  rw [List.map_append] at e
  exact e
theorem Aa:∀ps:List Int,CK (ps.map fun p=>D.str (tx [sgn p]))=some ((ps.map sgn).map fun c=>tx [c])
 |[]=>rfl
 |p::ps=>by simp [CK,Aa ps]
theorem T7 (ps:List Int)(hl:ps.length<=1000):DY (.str "") [.lst (ps.map fun p=>D.str (tx [sgn p]))]=some (.str (tx (ps.map sgn))):=by
 have e:((ps.map sgn).map fun c=>tx [c])=(ps.map sgn).map fun c=>(⟨#[c]⟩:Str):=rfl
 have hc:=Mi (ps.map sgn)
 show (match CK (ps.map fun p=>D.str (tx [sgn p])) with
  |some zs=>if JoinOk (Str.ofString "") zs=true then some (D.str (Txt.join (Str.ofString "") zs)) else none
  |none=>none)=_
 rw [Aa,e]
 show (if JoinOk (Str.ofString "") _=true then some (D.str (Txt.join (Str.ofString "") _)) else none)=_
 rw [if_pos (joinOk_of (by rw [hc]; simp; omega))]
 congr 2
 exact Ju (by rw [Qs,hc])
theorem W9 {ps:List Int}{u0 u1 u3 u5 u6 u7 u8 u9:Sl}(hl:ps.length<=1000)(hp:∀p∈ps,0<=p/\p<36):o4 [u0,u1,.fz (.str "abcdefghijklmnopqrstuvwxyz0123456789"),u3,.ow (.lst (ps.map D.int)),u5,u6,u7,u8,u9]=.ok (.lst (ps.map fun p=>D.str (tx [sgn p]))):=by
 have ec:fM (hName 0) jq o9 [.un,.fz (.str "abcdefghijklmnopqrstuvwxyz0123456789")] (ps.map D.int)=.ok (ps.map fun p=>D.str (tx [sgn p])):=gJ ps fun p hp'=>by
  refine ⟨[.fz (.int p),.fz (.str "abcdefghijklmnopqrstuvwxyz0123456789")],rfl,rfl,?_⟩
  have e:=Ue (hp p hp')
  generalize D.str "abcdefghijklmnopqrstuvwxyz0123456789" = Z at *
  simp [o9,au,aa,e]
 have z2:ps.length<=16777216:=by omega
 generalize D.str "abcdefghijklmnopqrstuvwxyz0123456789" = Z at *
 simp [o4,du,gH,aa,cMe,Sl.bor,ec,z2]
theorem Yv {w:List Nat}{u0 u1 u2 u3 u4 u5 u7 u8 u9:Sl}(h1:1<=w.length)(h2:w.length<=100):ph [u0,u1,u2,u3,u4,u5,.fz (.str (tx w)),u7,u8,u9]=.ok (.lst ((List.range 8).map fun (k:Nat)=>D.str (tx ((xf w).take (k+1))))):=by
 have hr:(xf w).length=8 * w.length:=by simp [xf]; omega
 have em:=Zt h1 h2
 have e1:(aj (fC (.int 1)) (aj (fC (.int 9)) aB)) [u0,u1,u2,u3,u4,u5,.fz (.str (tx w)),u7,u8,u9]=.ok [.int 1,.int 9]:=by simp [aj,fC,aB]
 have e2:=Y5 e1 (by omega) (by omega) (by omega) (by omega)
 have ec:fM (hName 0) jq lU [.un,.fz (.str (tx w))] ((List.range 8).map fun (k:Nat)=>D.int (1+k))=.ok ((List.range 8).map fun (k:Nat)=>D.str (tx ((xf w).take (k+1)))):=gJ (List.range 8) fun k hk=>by
  have hk:=List.mem_range.mp hk
  refine ⟨[.fz (.int (1+k)),.fz (.str (tx w))],rfl,rfl,?_⟩
  have es:=Up (w:=xf w) (i:=1+(k:Int)) (by omega) (by omega) (by omega)
  rw [show (1+(k:Int)).toNat=k+1 by omega] at es
  generalize D.str (tx w)=W at *
  simp [lU,fSl,au,fC,aa,em,fO0,fO1,es]
 unfold ph du
 rw [e2]
 show (if ((List.range 8).map fun (k:Nat)=>D.int (1+k)).length<=sizeLine then match fM (hName 0) jq lU [.un,.fz (.str (tx w))] ((List.range 8).map fun (k:Nat)=>D.int (1+k)) with
  | .ok ys=>Res.ok (D.lst ys)
  |_=>.stuck
 else .stuck)=_
 rw [ec,if_pos (by decide)]
open PySem L2 Hd F Pk
noncomputable def Em (w:List Nat)(a:Nat)(p:Int)(k:Nat):Str:=tx (w.take a++[sgn ((p+4 * k) % 36)]++w.drop (a+1))
theorem Tw {s0 s1 s3 s9:Sl}{ps FF:List D}{w:List Nat}{a k:Nat}{p:Int}(ea:atI ps (a:Int)=some (.int p))(ha:a<w.length)(hw:w.length<=100)(hk:k<=100)(hF:FF.length<=100):
  jg [s0,s1,.fz (.str "abcdefghijklmnopqrstuvwxyz0123456789"),s3,.ow (.lst ps),.fz (.int (k:Int)),.fz (.str (tx w)),.fz (.int (a:Int)),.ow (.lst FF),s9]=.ok (.nx,[s0,s1,.fz (.str "abcdefghijklmnopqrstuvwxyz0123456789"),s3,.ow (.lst ps),.fz (.int (k:Int)),.fz (.str (tx w)),.fz (.int (a:Int)),.ow (.lst (FF++[.str (Em w a p k)])),.fz (.str (tx [sgn ((p+4 * k) % 36)]))]):=by
 have b1:Bg 4:=bgS (by decide)
 have b2:Bg (k:Int):=bgS (by omega)
 have z1:FF.length<16777216:=by omega
 have e1:=Ue (i:=(p+4 * (k:Int)) % 36) (by omega)
 have e2:=Up (w:=w) (i:=(a:Int)) (by omega) (by omega) (by omega)
 have e3:=Tq (w:=w) (i:=(a:Int)+1) (by omega) (by omega) (by omega)
 rw [show ((a:Int)).toNat=a by omega] at e2
 rw [show ((a:Int)+1).toNat=a+1 by omega] at e3
 have e4:=QG (a:=w.take a) (b:=[sgn ((p+4 * k) % 36)]) (by simp; omega)
 have e5:=QG (a:=w.take a++[sgn ((p+4 * k) % 36)]) (b:=w.drop (a+1)) (by simp; omega)
 unfold Em
 generalize D.str "abcdefghijklmnopqrstuvwxyz0123456789" = Z at *
 generalize D.str (tx (w.take a++[sgn ((p+4 * k) % 36)]++w.drop (a+1)))=R at *
 generalize D.str (tx (w.take a++[sgn ((p+4 * k) % 36)]))=R1 at *
 generalize D.str (tx w)=W at *
 generalize D.str (tx (w.take a))=W1 at *
 generalize D.str (tx (w.drop (a+1)))=W2 at *
 generalize D.str (tx [sgn ((p+4 * k) % 36)])=W3 at *
 have e6:gIx (.lst ps) (.int (a:Int))=some (.int p):=ea
 have e7:F.cC (.int p) (.int (4 * (k:Int)))=some (.int (p+4 * k)):=rfl
 have e8:F.cC (.int (a:Int)) (.int 1)=some (.int ((a:Int)+1)):=rfl
 have e9:F.mV (.int 4) (.int (k:Int))=some (.int (4 * (k:Int))):=by simp [mV,b1,b2]
 have e10:F.bQ (.int (p+4 * k)) (.int 36)=some (.int ((p+4 * (k:Int)) % 36)):=by simp [bQ,mdI]
 simp only [jg]
 simp [aL,bC,au,aa,fC,e6,e7,e8,e9,e10,e1,cP,j8,putL,fSl,fO0,fO1,e2,e3,e4,e5,z1]
theorem Jt {s0 s1 s3:Sl}{ps:List D}{w:List Nat}{a:Nat}{p:Int}(ea:atI ps (a:Int)=some (.int p))(ha:a<w.length)(hw:w.length<=100):∀(c i:Nat) (FF:List D) (s5 s9:Sl),FF.length+c<=100->i+c<=100->∃s5' s9':Sl,
  bL (hName 5) jg ((List.range' i c).map fun (k:Nat)=>D.int k) [s0,s1,.fz (.str "abcdefghijklmnopqrstuvwxyz0123456789"),s3,.ow (.lst ps),s5,.fz (.str (tx w)),.fz (.int (a:Int)),.ow (.lst FF),s9] =
   .ok (.nx,[s0,s1,.fz (.str "abcdefghijklmnopqrstuvwxyz0123456789"),s3,.ow (.lst ps),s5',.fz (.str (tx w)),.fz (.int (a:Int)),.ow (.lst (FF++(List.range' i c).map fun (k:Nat)=>.str (Em w a p k))),s9'])
 |0,i,FF,s5,s9,_,_=>⟨s5,s9,by simp [bL]⟩
 |c+1,i,FF,s5,s9,hz,hi=>by
  have st:=Tw (s0:=s0) (s1:=s1) (s3:=s3) (s9:=s9) (FF:=FF) (k:=i) ea ha hw (by omega) (by omega)
  obtain ⟨s5',s9',e⟩:=Jt (s0:=s0) (s1:=s1) (s3:=s3) ea ha hw c (i+1) (FF++[.str (Em w a p i)]) (.fz (.int (i:Int))) (.fz (.str (tx [sgn ((p+4 * i) % 36)]))) (by simp; omega) (by omega)
  refine ⟨s5',s9',?_⟩
  rw [List.range'_succ,List.map_cons,bY (m1:=[s0,s1,.fz (.str "abcdefghijklmnopqrstuvwxyz0123456789"),s3,.ow (.lst ps),.fz (.int (i:Int)),.fz (.str (tx w)),.fz (.int (a:Int)),.ow (.lst FF),s9]) rfl st,e]
  simp
structure CT (p:List Str):Prop where
 p8:p.length=8
 nd:p.Nodup
 ok:∀x∈p,PyData.strOk x=true
theorem Ld {L2 L8:Me->Res (Fl×Me)}{Q4 Q6:Me->Res D}{r:D}{c tt:Int}{x' s5:Sl}{P W:D}(h:tt / 8 % 3=1)
  (eL:L2 [.fz (.int (c / 8)),.fz (.int tt),.fz (.str "abcdefghijklmnopqrstuvwxyz0123456789"),.fz (.int (1+c % 8)),.ow (.lst []),.un,.un,.un,.un,.un]=.ok (.nx,[x',.fz (.int tt),.fz (.str "abcdefghijklmnopqrstuvwxyz0123456789"),.fz (.int (1+c % 8)),.ow P,s5,.un,.un,.un,.un]))
  (e4:Q4 [x',.fz (.int tt),.fz (.str "abcdefghijklmnopqrstuvwxyz0123456789"),.fz (.int (1+c % 8)),.ow P,s5,.un,.un,.un,.un]=.ok r) (ej:DY (.str "") [r]=some W)
  {R:D} (e6:∀u0 u1 u2 u3 u4 u5 u7 u8 u9:Sl,Q6 [u0,u1,u2,u3,u4,u5,.fz W,u7,u8,u9]=.ok R):bf 10 2 (jH L2 Q4 Q6 L8) [.int c,.int tt]=.ok (true,R):=by
 unfold bf jH
 have b8:Bg 8:=bgS (by decide)
 have ty:tyD "str" (.str "")=true:=rfl
 generalize D.str "abcdefghijklmnopqrstuvwxyz0123456789" = Z at *
 generalize D.str "" = Z0 at *
 simp [aL,bC,fC,au,aa,cC,bQ,mdI,eY,dvI,b8,eX,fV,aB,eL,J0,ty,aj,e4,ej,gIf,aM,h,iV,Me.let,Sl.let,e6]
theorem Mh {L2 L8:Me->Res (Fl×Me)}{Q4 Q6:Me->Res D}{r:D}{c tt:Int}{x' s5 s5' s9':Sl}{P W:D}(h:¬tt / 8 % 3=1)
  (eL:L2 [.fz (.int (c / 8)),.fz (.int tt),.fz (.str "abcdefghijklmnopqrstuvwxyz0123456789"),.fz (.int (1+c % 8)),.ow (.lst []),.un,.un,.un,.un,.un]=.ok (.nx,[x',.fz (.int tt),.fz (.str "abcdefghijklmnopqrstuvwxyz0123456789"),.fz (.int (1+c % 8)),.ow P,s5,.un,.un,.un,.un]))
  (e4:Q4 [x',.fz (.int tt),.fz (.str "abcdefghijklmnopqrstuvwxyz0123456789"),.fz (.int (1+c % 8)),.ow P,s5,.un,.un,.un,.un]=.ok r) (ej:DY (.str "") [r]=some W)
  {R:D} (e8:L8 [x',.fz (.int tt),.fz (.str "abcdefghijklmnopqrstuvwxyz0123456789"),.fz (.int (1+c % 8)),.ow P,s5,.fz W,.fz (.int (tt % (1+c % 8))),.ow (.lst []),.un]=.ok (.nx,[x',.fz (.int tt),.fz (.str "abcdefghijklmnopqrstuvwxyz0123456789"),.fz (.int (1+c % 8)),.ow P,s5',.fz W,.fz (.int (tt % (1+c % 8))),.ow R,s9'])):bf 10 2 (jH L2 Q4 Q6 L8) [.int c,.int tt]=.ok (true,R):=by
 unfold bf jH
 have b8:Bg 8:=bgS (by decide)
 have ty:tyD "str" (.str "")=true:=rfl
 have hp:0<1+c % 8:=by omega
 have hz:¬1+c % 8=0:=by omega
 have em:mdI tt (1+c % 8)=tt % (1+c % 8):=if_pos hp
 generalize hS:1+c % 8=S at *
 generalize D.str "abcdefghijklmnopqrstuvwxyz0123456789" = Z at *
 generalize D.str "" = Z0 at *
 simp [aL,bC,fC,au,aa,cC,bQ,eY,dvI,b8,eX,fV,aB,show mdI c 8=c % 8 from if_pos (by decide),hS,eL,J0,ty,aj,e4,ej,gIf,aM,show mdI (tt / 8) 3=tt / 8 % 3 from if_pos (by decide),h,gNx,hz,em,e8,qF,Me.let,Sl.let]
theorem RW {c tt:Int}:∃(x' s5:Sl) (ps:List Int),pA [.fz (.int (c / 8)),.fz (.int tt),.fz (.str "abcdefghijklmnopqrstuvwxyz0123456789"),.fz (.int (1+c % 8)),.ow (.lst []),.un,.un,.un,.un,.un]=.ok (.nx,[x',.fz (.int tt),.fz (.str "abcdefghijklmnopqrstuvwxyz0123456789"),.fz (.int (1+c % 8)),.ow (.lst (ps.map D.int)),s5,.un,.un,.un,.un])/\(ps.length:Int)=1+c % 8/\∀p∈ps,0<=p/\p<36:=by
 have hS:0<=1+c % 8/\1+c % 8<=8:=by omega
 generalize 1+c % 8=S at *
 obtain ⟨x',s5,Q,e,hl,hQ⟩:=xG (s1:=.fz (.int tt)) (s2:=.fz (.str "abcdefghijklmnopqrstuvwxyz0123456789")) (s3:=.fz (.int S)) (s6:=.un) (s7:=.un) (s8:=.un) (s9:=.un) S.toNat 0 (c / 8) [] .un (by simp; omega) (fun _ z=>nomatch z)
 refine ⟨x',s5,Q,?_,by simp at hl; omega,hQ⟩
 have e1:(aj (aa 3) aB) [.fz (.int (c / 8)),.fz (.int tt),.fz (.str "abcdefghijklmnopqrstuvwxyz0123456789"),.fz (.int S),.ow (.lst []),.un,.un,.un,.un,.un]=.ok [.int S]:=by
  generalize D.str "abcdefghijklmnopqrstuvwxyz0123456789" = Z
  simp [aj,aa,aB]
 have e2:=Px e1 (by omega) (by omega)
 unfold pA iQ
 rw [e2]
 show bL (hName 5) jf ((List.range S.toNat).map fun (k:Nat)=>D.int k) _=_
 rw [List.range_eq_range']
 exact e
theorem Tn {w:List Nat}{a:Nat}{p:Int}{k:Nat}(hw:∀c∈w,c<128):PyData.strOk (Em w a p k)=true:=by
 refine Eh fun c hc=>?_
 rcases List.mem_append.mp hc with hc | hc
 ·rcases List.mem_append.mp hc with hc | hc
  ·exact hw c (List.mem_of_mem_take hc)
  ·rw [List.mem_singleton.mp hc]
   exact Uv _ (Ij (by omega))
 ·exact hw c (List.mem_of_mem_drop hc)
theorem MP {w:List Nat}{a:Nat}{p:Int}{k j:Nat}(hk:k<8)(hj:j<8)(h:Em w a p k=Em w a p j):k=j:=by
 have h:=Qv.mp h
 rw [List.append_assoc,List.append_assoc] at h
 have h:=List.append_cancel_left h
 injection h with h _
 have:=Ry (by omega) (by omega) h
 omega
theorem Tf {w:List Nat}{c:Nat}(h:c∈xf w):c∈w:=by
 simpa [xf] using h
theorem QS (c t:Int):∃p:List Str,oF [.int c,.int t]=.ok (true,.lst (p.map D.str))/\CT p:=by
 obtain ⟨x',s5,ps,eL,hl,hp⟩:=RW (c:=c) (tt:=t)
 have hl8:1<=ps.length/\ps.length<=8:=by omega
 have e4:=W9 (u0:=x') (u1:=.fz (.int t)) (u3:=.fz (.int (1+c % 8))) (u5:=s5) (u6:=.un) (u7:=.un) (u8:=.un) (u9:=.un) (by omega) hp
 have ej:=T7 ps (by omega)
 have hw:∀k∈ps.map sgn,k<128:=fun k hk=>by
  obtain ⟨p,h,rfl⟩:=List.mem_map.mp hk
  exact Uv _ (Ij (hp p h))
 have wl:(ps.map sgn).length=ps.length:=by simp
 generalize hW:ps.map sgn=w at *
 by_cases h:t / 8 % 3=1
 ·refine ⟨(List.range 8).map fun k=>tx ((xf w).take (k+1)),?_,by simp,?_,fun x hx=>?_⟩
  ·rw [List.map_map]
   exact Ld h eL e4 ej fun u0 u1 u2 u3 u4 u5 u7 u8 u9=>Yv (by omega) (by omega)
  ·refine List.pairwise_map.mpr ((List.nodup_range (n:=8)).imp_of_mem fun {a b} ha hb hne z=>hne ?_)
   have ha:=List.mem_range.mp ha
   have hb:=List.mem_range.mp hb
   have hr:(xf w).length=8 * w.length:=by simp [xf]; omega
   have:=congrArg List.length (Qv.mp z)
   rw [List.length_take,List.length_take] at this
   omega
  ·obtain ⟨k,_,rfl⟩:=List.mem_map.mp hx
   exact Eh fun c hc=>hw c (Tf (List.mem_of_mem_take hc))
 ·obtain ⟨a,ha⟩:∃a:Nat,(a:Int)=t % (1+c % 8):=⟨(t % (1+c % 8)).toNat,by have:=Int.emod_nonneg t (show 1+c % 8≠0 by omega); omega⟩
  have hlt:a<w.length:=by have:=Int.emod_lt_of_pos t (show 0<1+c % 8 by omega); omega
  have hlp:a<ps.length:=by omega
  have ea:atI (ps.map D.int) (a:Int)=some (.int ps[a]):=qy (by rw [List.getElem?_map,List.getElem?_eq_getElem hlp]; rfl)
  obtain ⟨s5',s9',e8⟩:=Jt (s0:=x') (s1:=.fz (.int t)) (s3:=.fz (.int (1+c % 8))) ea hlt (by omega) 8 0 [] s5 .un (by simp) (by omega)
  refine ⟨(List.range 8).map fun k=>Em w a ps[a] k,?_,by simp,?_,fun x hx=>?_⟩
  ·refine Mh (s5':=s5') (s9':=s9') h eL e4 ej ?_
   rw [← ha]
   rw [List.map_map]
   have e1:(aj (fC (.int 8)) aB) [x',.fz (.int t),.fz (.str "abcdefghijklmnopqrstuvwxyz0123456789"),.fz (.int (1+c % 8)),.ow (.lst (ps.map D.int)),s5,.fz (.str (tx w)),.fz (.int (a:Int)),.ow (.lst []),.un]=.ok [.int 8]:=by
    simp [aj,fC,aB]
   have e2:=Px e1 (by omega) (by omega)
   unfold sJ iQ
   rw [e2]
   show bL (hName 5) jg ((List.range 8).map fun (k:Nat)=>D.int k) _=_
   rw [List.range_eq_range']
   exact e8
  ·refine List.pairwise_map.mpr ((List.nodup_range (n:=8)).imp_of_mem fun {i j} hi hj hne z=>hne ?_)
   exact MP (List.mem_range.mp hi) (List.mem_range.mp hj) z
  ·obtain ⟨k,_,rfl⟩:=List.mem_map.mp hx
   exact Tn hw
open PySem L2 Hd F Pk
theorem Fi {xs:List Int}{lo hi:Option Int}:cut (xs.map D.int) lo hi=(cut xs lo hi).map D.int:=by
 unfold cut
 simp [List.map_take,List.map_drop]
theorem S9 {fl fc fp fg ft fi:List D->Res (Bool×D)}{ns:D}{c0 c1 c2 c3 c4 c5:Int}{dep:Int}{s1 s2:List D}{pl G T G2 T2:D}{l P:List D}(hns:ns=.lst l)
  (h0:fc [ns,.int 0]=.ok (false,.int c0)) (h1:fc [ns,.int 1]=.ok (false,.int c1)) (h2:fc [ns,.int 2]=.ok (false,.int c2)) (h3:fc [ns,.int 3]=.ok (false,.int c3)) (h4:fc [ns,.int 4]=.ok (false,.int c4)) (h5:fc [ns,.int 5]=.ok (false,.int c5))
  (hpl:pl=.lst P) (hp:fp [.int c0,.int c1]=.ok (true,pl)) (hd:atI [D.int 5,.int 3,.int 8,.int 12] (c3 % 4)=some (.int dep))
  (e1:gSl ns (some 6) (some 63)=some (.lst s1)) (e2:gSl ns (some 6) (some 20)=some (.lst s2)) (z1:s1.length<=1000) (z2:s2.length<=1000)
  (g1:fg [.lst (s1++[.int c4]),.int c2,.int dep,.int 63,pl]=.ok (false,G)) (t1:ft [G]=.ok (true,T)) (k1:fl [G]=.ok (true,T)) {tl:List D} (ht:T=.lst tl)
  (i1:fi [T]=.ok (false,.bl true)) (q1:gNe T T=some false) (q2:gEq T T=some true)
  (g2:fg [.lst (s2++[.int c5]),.int (c2 / 128),.int 4,.int 63,.lst P.reverse]=.ok (false,G2)) (t2:ft [G2]=.ok (true,T2)) (k2:fl [G2]=.ok (true,T2)) (q3:gNe T2 T2=some false):
  bf 8 1 (J2 fl fc fp fg ft fi) [ns]=.ok (false,.bl true):=by
 have b128:Bg 128:=bgS (by decide)
 have y1:s1.length+1<=16777216:=by omega
 have y2:s2.length+1<=16777216:=by omega
 have fb:flat (.bl true)=true:=rfl
 have hr:QV (aa 1) (fO1 (fUn rE (fC (.int 1)))) [.fz ns,.fz pl,.fz (.int c2),.fz (.int dep),.fz G,.fz T,.ow T,.un]=.ok (.lst P.reverse):=by
  subst hpl
  simp [QV,aa,fO1,fUn,fC,rE]
 have hcl:∀X:Sl,Bc 6 [.fz ns,.fz pl,.fz (.int c2),.fz (.int dep),.fz G,.fz T,.ow T,X]=.ok (.nx,[.fz ns,.fz pl,.fz (.int c2),.fz (.int dep),.fz G,.fz T,.ow (.lst []),X]):=fun X=>by
  subst ht
  simp [Bc,j8,putL]
 simp [bf,J2,aL,bC,fFn,aj,aB,aJ,fC,h0,h1,h2,h3,h4,h5,hp,au,aa,fV,bQ,mdI,gIx,hd,fSl,fO1,e1,e2,cC,y1,y2,g1,t1,k1,eX,O3,gIf,nU,jE,fTv,Vi,i1,fb,aM,q1,gNx,eY,dvI,b128,hr,g2,k2,t2,q3,hcl,bU,Me.let,Sl.let,rZ,q2]
theorem VL {p:List Str}(h:CT p):CT p.reverse:=⟨by simp [h.p8],List.pairwise_reverse.mpr (h.nd.imp fun e z=>e z.symm),fun x hx=>h.ok x (List.mem_reverse.mp hx)⟩
theorem Mv (c:Int):∃dep:Nat,dep<=12/\atI [D.int 5,.int 3,.int 8,.int 12] (c % 4)=some (.int (dep:Int)):=by
 have h:c % 4=0\/c % 4=1\/c % 4=2\/c % 4=3:=by omega
 rcases h with h | h | h | h <;> rw [h]
 ·exact ⟨5,by decide,rfl⟩
 ·exact ⟨3,by decide,rfl⟩
 ·exact ⟨8,by decide,rfl⟩
 ·exact ⟨12,by decide,rfl⟩
theorem Pz {cells:List Int}{c:Int}{p:List Str}(P:CT p)(hc:cells.length<=99){turn:Int}{dep:Nat}(hd:dep<=12):
  ∃(G T:D) (l:List D),jF [.lst (cells.map D.int++[.int c]),.int turn,.int (dep:Int),.int 63,.lst (p.map D.str)]=.ok (false,G)/\T=.lst l/\gq [G]=.ok (true,T)/\ur [G]=.ok (true,T)/\dD [T]=.ok (false,.bl true)/\gEq T T=some true/\gNe T T=some false:=by
 have E:nG ⟨cells++[c],p,turn % 64,decide (turn / 64 % 2=1)⟩:=⟨by simp,by simp; omega,P.p8,by show 0<=turn % 64/\turn % 64<64; omega,P.ok⟩
 have:=Nf E P.nd (turn:=turn) hd rfl rfl
 rwa [show cD ⟨cells++[c],p,turn % 64,decide (turn / 64 % 2=1)⟩=.lst (cells.map D.int++[.int c]) by simp [cD]] at this
theorem Qo:∀ns:List Int,ns.length<=63->∃fr,Uw [.lst (ns.map D.int)]=.ok (fr,.bl true):=by
 intro ns hn
 obtain ⟨c0,h0⟩:=cell_eq ns 0 (by omega)
 obtain ⟨c1,h1⟩:=cell_eq ns 1 (by omega)
 obtain ⟨c2,h2⟩:=cell_eq ns 2 (by omega)
 obtain ⟨c3,h3⟩:=cell_eq ns 3 (by omega)
 obtain ⟨c4,h4⟩:=cell_eq ns 4 (by omega)
 obtain ⟨c5,h5⟩:=cell_eq ns 5 (by omega)
 obtain ⟨p,ep,P⟩:=QS c0 c1
 obtain ⟨dep,hd,ed⟩:=Mv c3
 have l1:(cut ns (some 6) (some 63)).length<=63:=by unfold cut; simp only [List.length_take,List.length_drop]; omega
 have l2:(cut ns (some 6) (some 20)).length<=63:=by unfold cut; simp only [List.length_take,List.length_drop]; omega
 obtain ⟨G,T,l,g1,hT,t1,k1,i1,q2,q1⟩:=Pz (cells:=cut ns (some 6) (some 63)) (c:=c4) P (by omega) (turn:=c2) hd
 obtain ⟨G2,T2,_,g2,_,t2,k2,_,_,q3⟩:=Pz (cells:=cut ns (some 6) (some 20)) (c:=c5) (VL P) (by omega) (turn:=c2 / 128) (dep:=4) (by omega)
 rw [List.map_reverse] at g2
 exact ⟨false,S9 (l:=ns.map D.int) rfl h0 h1 h2 h3 h4 h5 rfl ep ed (by show some (D.lst (cut (ns.map D.int) _ _))=_; rw [Fi]) (by show some (D.lst (cut (ns.map D.int) _ _))=_; rw [Fi]) (by simp; omega) (by simp; omega) g1 t1 k1 hT i1 q1 q2 g2 t2 k2 q3⟩
open PySem L2 Hd F Pk
theorem oR {α:Sort _}{a:α}{p:Prop}:a=a\/p:=Or.inl rfl
theorem aW {X:Cx}{E:XK}{a:Expr}{fa:Me->Res D}{i j p q}(ha:FB X E a fa):FE X E (.Subscript a (.Constant (.int i) j p) q) (au gIx fa (fC (.int i))):=iG n8 ha (aq aC) (fun _ _=>rfl)
local macro_rules | `(tactic| walk_at "u1")=>`(tactic| exact ⟨rfl,rfl,rfl,by decide +kernel,rfl,by decide +kernel,by decide +kernel⟩)
local macro_rules | `(tactic| walk_at "u2")=>`(tactic| exact ⟨rfl,by decide +kernel,by decide +kernel,by decide +kernel,by decide +kernel⟩)
local macro_rules | `(tactic| walk_at "u3")=>`(tactic| decide +kernel)
noncomputable def top (i:Nat):Stmt:=PySem.Challenge.pw_hushduel_k13_tables.main.body.getD i (.Pass ⟨0,0,0,0⟩)
theorem Dr:bootBuiltins "abs" = some (.builtin "abs"):=by walk_at "u3"
theorem Ot:bootBuiltins "all" = some (.builtin "all"):=by walk_at "u3"
theorem Qx:bootBuiltins "any" = some (.builtin "any"):=by walk_at "u3"
theorem RP:bootBuiltins "bool" = some (.type "bool"):=by walk_at "u3"
theorem UW:bootBuiltins "int" = some (.type "int"):=by walk_at "u3"
theorem dM:bootBuiltins "isinstance" = some (.builtin "isinstance"):=by walk_at "u3"
theorem lE:bootBuiltins "len" = some (.builtin "len"):=by walk_at "u3"
theorem rQ:bootBuiltins "list" = some (.type "list"):=by walk_at "u3"
theorem V2:bootBuiltins "str" = some (.type "str"):=by walk_at "u3"
theorem Qh:bootBuiltins "sum" = some (.builtin "sum"):=by walk_at "u3"
theorem jR:bootBuiltins "tuple" = some (.type "tuple"):=by walk_at "u3"
structure Bt (mg:Str->Option Value):Prop where
 ValueError:mg "ValueError" = none
 abs:mg "abs" = none
 all:mg "all" = none
 any:mg "any" = none
 bool:mg "bool" = none
 enumerate:mg "enumerate" = none
 int:mg "int" = none
 isinstance:mg "isinstance" = none
 len:mg "len" = none
 list:mg "list" = none
 range:mg "range" = none
 reversed:mg "reversed" = none
 str:mg "str" = none
 sum:mg "sum" = none
 tuple:mg "tuple" = none
structure CnT (K:W.Frag)(mg:Str->Option Value):Prop where
 NOUGHT:∃v u,mg "NOUGHT" = some u/\RelV v u/\∀O H,DV ⟨K,mg⟩ O H v (.tup [(.int 0),(.int 1)])
 ONE:∃v u,mg "ONE" = some u/\RelV v u/\∀O H,DV ⟨K,mg⟩ O H v (.tup [(.int 1),(.int 1)])
 MOST_PLACES:∃v u,mg "MOST_PLACES" = some u/\RelV v u/\∀O H,DV ⟨K,mg⟩ O H v (.int 64)
 MOST_BRANCHES:∃v u,mg "MOST_BRANCHES" = some u/\RelV v u/\∀O H,DV ⟨K,mg⟩ O H v (.int 12)
 MOST_NAMES:∃v u,mg "MOST_NAMES" = some u/\RelV v u/\∀O H,DV ⟨K,mg⟩ O H v (.int 8)
 MOST_WORDS_SEEN:∃v u,mg "MOST_WORDS_SEEN" = some u/\RelV v u/\∀O H,DV ⟨K,mg⟩ O H v (.int 24)
 GREATEST_TOP:∃v u,mg "GREATEST_TOP" = some u/\RelV v u/\∀O H,DV ⟨K,mg⟩ O H v (.int 999999999999)
 GREATEST_BOTTOM:∃v u,mg "GREATEST_BOTTOM" = some u/\RelV v u/\∀O H,DV ⟨K,mg⟩ O H v (.int 999)
theorem Ad {X:Cx}{E:XK}{pos:Pos}(Cn:CnT X.K X.mg)(hg:Gl X "NOUGHT"):FE X E (.Name "NOUGHT" pos) (fC (.tup [(.int 0),(.int 1)])):=by
 obtain ⟨v,u,h1,h2,h3⟩:=Cn.NOUGHT
 exact oG hg h1 h2 h3
theorem WT {X:Cx}{E:XK}{pos:Pos}(Cn:CnT X.K X.mg)(hg:Gl X "ONE"):FE X E (.Name "ONE" pos) (fC (.tup [(.int 1),(.int 1)])):=by
 obtain ⟨v,u,h1,h2,h3⟩:=Cn.ONE
 exact oG hg h1 h2 h3
theorem zg {X:Cx}{E:XK}{pos:Pos}(Cn:CnT X.K X.mg)(hg:Gl X "MOST_PLACES"):FE X E (.Name "MOST_PLACES" pos) (fC (.int 64)):=by
 obtain ⟨v,u,h1,h2,h3⟩:=Cn.MOST_PLACES
 exact oG hg h1 h2 h3
theorem vN {X:Cx}{E:XK}{pos:Pos}(Cn:CnT X.K X.mg)(hg:Gl X "MOST_BRANCHES"):FE X E (.Name "MOST_BRANCHES" pos) (fC (.int 12)):=by
 obtain ⟨v,u,h1,h2,h3⟩:=Cn.MOST_BRANCHES
 exact oG hg h1 h2 h3
theorem zH {X:Cx}{E:XK}{pos:Pos}(Cn:CnT X.K X.mg)(hg:Gl X "MOST_NAMES"):FE X E (.Name "MOST_NAMES" pos) (fC (.int 8)):=by
 obtain ⟨v,u,h1,h2,h3⟩:=Cn.MOST_NAMES
 exact oG hg h1 h2 h3
theorem tL {X:Cx}{E:XK}{pos:Pos}(Cn:CnT X.K X.mg)(hg:Gl X "MOST_WORDS_SEEN"):FE X E (.Name "MOST_WORDS_SEEN" pos) (fC (.int 24)):=by
 obtain ⟨v,u,h1,h2,h3⟩:=Cn.MOST_WORDS_SEEN
 exact oG hg h1 h2 h3
theorem xg {X:Cx}{E:XK}{pos:Pos}(Cn:CnT X.K X.mg)(hg:Gl X "GREATEST_TOP"):FE X E (.Name "GREATEST_TOP" pos) (fC (.int 999999999999)):=by
 obtain ⟨v,u,h1,h2,h3⟩:=Cn.GREATEST_TOP
 exact oG hg h1 h2 h3
theorem ue {X:Cx}{E:XK}{pos:Pos}(Cn:CnT X.K X.mg)(hg:Gl X "GREATEST_BOTTOM"):FE X E (.Name "GREATEST_BOTTOM" pos) (fC (.int 999)):=by
 obtain ⟨v,u,h1,h2,h3⟩:=Cn.GREATEST_BOTTOM
 exact oG hg h1 h2 h3
noncomputable abbrev lq:Stmt:=top 9
theorem dO:aV ["first", "second", "great", "small", "rest"] ["first", "second"] (aH lq):=by walk_at "u1"
noncomputable abbrev zb:Stmt:=top 10
theorem zf:aV ["top", "bottom", "divisor"] ["top", "bottom"] (aH zb):=by walk_at "u1"
noncomputable abbrev GC:Stmt:=top 11
theorem Wh:aV ["first", "second"] ["first", "second"] (aH GC):=by walk_at "u1"
noncomputable abbrev Be:Stmt:=top 12
theorem Rg:aV ["first", "second"] ["first", "second"] (aH Be):=by walk_at "u1"
noncomputable abbrev Dd:Stmt:=top 13
theorem xP:aV ["some", "result", "each"] ["some"] (aH Dd):=by walk_at "u1"
noncomputable abbrev lL:Stmt:=top 15
theorem zR:aV ["game"] ["game"] (aH lL):=by walk_at "u1"
noncomputable abbrev oJ:Stmt:=top 16
theorem my:aV ["game", "places", "waiting", "place", "behind"] ["game"] (aH oJ):=by walk_at "u1"
noncomputable abbrev qu:Stmt:=top 24
theorem Hi:aV ["move"] ["move"] (aH qu):=by walk_at "u1"
noncomputable abbrev lA:Stmt:=top 25
theorem pQ:aV ["place", "records", "number", "pair"] ["place", "records", "number"] (aH lA):=by walk_at "u1"
noncomputable abbrev gY:Stmt:=top 26
theorem cG:aV ["game", "known", "found", "way", "place", "number"] ["game"] (aH gY):=by walk_at "u1"
noncomputable abbrev yh:Stmt:=top 27
theorem NK:aV ["move", "records"] ["move", "records"] (aH yh):=by walk_at "u1"
noncomputable abbrev tR:Stmt:=top 28
theorem nM:aV ["game", "rows", "way", "place", "records"] ["game"] (aH tR):=by walk_at "u1"
noncomputable abbrev rM:Stmt:=top 29
theorem KH:aV ["game", "side"] ["game", "side"] (aH rM):=by walk_at "u1"
noncomputable abbrev lV:Stmt:=top 30
theorem zP:aV ["rows"] ["rows"] (aH lV):=by walk_at "u1"
noncomputable abbrev j0:Stmt:=top 31
theorem yO:aV ["place"] ["place"] (aH j0):=by walk_at "u1"
noncomputable abbrev sY:Stmt:=top 32
theorem Ha:aV ["fraction"] ["fraction"] (aH sY):=by walk_at "u1"
noncomputable abbrev eF:Stmt:=top 33
theorem kj:aV ["game", "places"] ["game"] (aH eF):=by walk_at "u1"
noncomputable abbrev iB:Stmt:=top 34
theorem iz:aV ["game", "side", "rows"] ["game"] (aH iB):=by walk_at "u1"
noncomputable abbrev ir:Stmt:=top 35
theorem qL:aV ["game"] ["game"] (aH ir):=by walk_at "u1"
noncomputable abbrev dh:Stmt:=top 36
theorem fJ:aV ["game", "way", "place"] ["game"] (aH dh):=by walk_at "u1"
noncomputable abbrev ni:Stmt:=top 37
theorem CQ:aV ["shares"] ["shares"] (aH ni):=by walk_at "u1"
noncomputable abbrev jx:Stmt:=top 38
theorem ug:aV ["way", "row", "first_way", "first_row"] ["way", "row", "first_way", "first_row"] (aH jx):=by walk_at "u1"
noncomputable abbrev kZ:Stmt:=top 39
theorem cX:aV ["game", "firsts", "way", "place", "records", "row", "first"] ["game"] (aH kZ):=by walk_at "u1"
noncomputable abbrev Hl:Stmt:=top 40
theorem Vy:aV ["game"] ["game"] (aH Hl):=by walk_at "u1"
noncomputable abbrev nR:Stmt:=top 42
theorem yS:aV ["_law_script", "_law_k"] ["_law_script", "_law_k"] (aH nR):=by walk_at "u1"
noncomputable abbrev pF:Stmt:=top 43
theorem lO:aV ["_law_top", "_law_bottom", "_law_one", "_law_other"] ["_law_top", "_law_bottom"] (aH pF):=by walk_at "u1"
noncomputable abbrev mH:Stmt:=top 44
theorem cU:aV ["_law_cell", "_law_turn", "_law_signs", "_law_size", "_law_places_here", "_law_k", "_law_word", "_law_at", "_law_found", "_law_sign"] ["_law_cell", "_law_turn"] (aH mH):=by walk_at "u1"
noncomputable abbrev qm:Stmt:=top 45
theorem Br:aV ["_law_number"] ["_law_number"] (aH qm):=by walk_at "u1"
noncomputable abbrev lX:Stmt:=top 46
theorem lN:aV ["_law_number", "_law_many", "_law_parts", "_law_k"] ["_law_number", "_law_many"] (aH lX):=by walk_at "u1"
noncomputable abbrev tU:Stmt:=top 47
theorem Gs:aV ["_law_cell", "_law_k"] ["_law_cell", "_law_k"] (aH tU):=by walk_at "u1"
noncomputable abbrev jA:Stmt:=top 48
theorem oA:aV ["_law_state", "_law_side", "_law_record", "_law_many", "_law_bit", "_law_key", "%1", "%2"] ["_law_state", "_law_side", "_law_record", "_law_many", "_law_bit"] (aH jA):=by walk_at "u1"
noncomputable abbrev rC:Stmt:=top 49
theorem dN:aV ["_law_cells", "_law_state", "_law_depth", "_law_records", "_law_draw", "_law_side", "_law_many", "_law_number", "_law_pool_here", "_law_seen", "_law_ways", "_law_k", "_law_word", "_law_others", "%1", "%2"] ["_law_cells", "_law_state", "_law_depth", "_law_records", "_law_draw"] (aH rC):=by walk_at "u1"
noncomputable abbrev qi:Stmt:=top 50
theorem eV:aV ["_law_cells", "_law_state", "_law_depth", "_law_records", "_law_at", "_law_own", "_law_draw", "_law_many", "_law_ways", "_law_share", "%1", "%2"] ["_law_cells", "_law_state", "_law_depth", "_law_records"] (aH qi):=by walk_at "u1"
noncomputable abbrev qX:Stmt:=top 51
theorem wO:aV ["_law_cells", "_law_turn", "_law_depth", "_law_room", "_law_pool_here", "_law_state", "%1", "%2"] ["_law_cells", "_law_turn", "_law_depth", "_law_room", "_law_pool_here"] (aH qX):=by walk_at "u1"
noncomputable abbrev lY:Stmt:=top 52
theorem cz:aV ["_law_game_here", "_law_found", "_law_waiting", "_law_way", "_law_place", "_law_records", "_law_parts", "_law_word", "_law_part", "_law_others", "_law_k"] ["_law_game_here"] (aH lY):=by walk_at "u1"
noncomputable abbrev nq:Stmt:=top 53
theorem gw:aV ["_law_game_here", "_law_rows", "_law_known", "_law_way", "_law_place", "_law_records", "_law_words"] ["_law_game_here"] (aH nq):=by walk_at "u1"
noncomputable abbrev nO:Stmt:=top 54
theorem yx:aV ["_law_found"] ["_law_found"] (aH nO):=by walk_at "u1"
noncomputable abbrev lz:Stmt:=top 55
theorem pU:aV ["_law_found", "_law_pair"] ["_law_found"] (aH lz):=by walk_at "u1"
noncomputable abbrev jk:Stmt:=top 56
theorem qz:aV ["_law_found", "_law_row"] ["_law_found"] (aH jk):=by walk_at "u1"
noncomputable abbrev uY:Stmt:=top 57
theorem wN:aV ["_law_script", "_law_pool_here", "_law_turn", "_law_depth", "_law_game_here", "_law_due", "_law_found", "_law_other"] ["_law_script"] (aH uY):=by walk_at "u1"
theorem uG (B:Bt mg)(Fu:Fun K "common_divisor" "common_divisor" lq f fd)  :
  cT P w K mg base (CX1 P w) 1 f fd ["first", "second"] (spF ⟨K,mg⟩ gj):=
 bu Fu dO fun cdv A outer s H E hr=>by
 have hu:=hr.units
 unfold kO kI
 exact (az (bK (i:=2) dO.nd rfl oR (cu rW rfl B.abs Dr (aO (ao 0) aY)))
  (az (bK (i:=3) dO.nd rfl oR (cu rW rfl B.abs Dr (aO (ao 1) aY)))
  (az (uO PassesOwn.leaving (bO (pG hu) (ao 3) (aq aC) (bB _))
  (az (bK (i:=4) dO.nd rfl oR (aG bH (ao 2) (ao 3)))
  (az (bK (i:=2) dO.nd rfl oR (aF 3))
  (aD (bK (i:=3) dO.nd rfl oR (aF 4))))))
  (aD (bW (aF 2))))))
theorem K4 (B:Bt mg)(Fu:Fun K "lowest" "lowest" zb f fd)(Gcommon_divisor:FF P w K mg base 1 "common_divisor" ["first", "second"] gj):
  cT P w K mg base (CX1 P w) 2 f fd ["top", "bottom"] (spF ⟨K,mg⟩ nQ):=
 bu Fu zf fun cdv A outer s H E hr=>by
 have hu:=hr.units
 unfold uD vp
 exact (az (bK (i:=2) zf.nd rfl oR (bD Gcommon_divisor hr aN (ak (aF 0) (ak (aF 1) aA))))
  (az (dg (bO (CG hu) (ao 1) (aq aC) (bB _))
  (aD (bK (i:=2) zf.nd rfl oR (Ai rH (ao 2))))
  bA)
  (aD (bW (bj (ak (aG dC (ao 0) (ao 2)) (ak (aG dC (ao 1) (ao 2)) aA)))))))
theorem RZ (B:Bt mg)(Fu:Fun K "plus" "plus" GC f fd)(Glowest:FF P w K mg base 2 "lowest" ["top", "bottom"] nQ):
  cT P w K mg base (CX1 P w) 3 f fd ["first", "second"] (spF ⟨K,mg⟩ yt):=
 bu Fu Wh fun cdv A outer s H E hr=>by
 have hu:=hr.units
 unfold Hc Gr
 exact (aD (bW (bD Glowest hr aN (ak (aG bM (aq (aG iM (aq (aW (ao 0))) (aq (aW (ao 1))))) (aq (aG iM (aq (aW (ao 1))) (aq (aW (ao 0)))))) (ak (aG iM (aq (aW (ao 0))) (aq (aW (ao 1)))) aA)))))
theorem Qe (B:Bt mg)(Fu:Fun K "under" "under" Be f fd)  :
  cT P w K mg base (CX1 P w) 1 f fd ["first", "second"] (spF ⟨K,mg⟩ vq):=
 bu Fu Rg fun cdv A outer s H E hr=>by
 have hu:=hr.units
 unfold CJ Ds
 exact (aD (bW (tZ (CG hu) (aq (aG iM (aq (aW (ao 0))) (aq (aW (ao 1))))) (aq (aG iM (aq (aW (ao 1))) (aq (aW (ao 0))))) (bB _))))
theorem Qw (B:Bt mg)(Cn:CnT K mg)(Fu:Fun K "total" "total" Dd f fd)(Gplus:FF P w K mg base 3 "plus" ["first", "second"] yt):
  cT P w K mg base (CX1 P w) 4 f fd ["some"] (spF ⟨K,mg⟩ ux):=
 bu Fu xP fun cdv A outer s H E hr=>by
 have hu:=hr.units
 unfold Bx Aw
 exact (az (bK (i:=1) xP.nd rfl oR (Ad Cn rfl))
  (az (iJ (k:=1000) PassesOwn.leaving rfl (oO (aF 0)) (aP (i:=2) xP.nd rfl oR)
  (aD (bK (i:=1) xP.nd rfl oR (bD Gplus hr aN (ak (aF 1) (ak (aF 2) aA))))))
  (aD (bW (aF 1)))))
theorem yD (B:Bt mg)(Fu:Fun K "branches_of" "branches_of" lL f fd)  :
  cT P w K mg base (CX1 P w) 1 f fd ["game"] (spF ⟨K,mg⟩ fD):=
 bu Fu zR fun cdv A outer s H E hr=>by
 have hu:=hr.units
 unfold sI gM
 exact (az (dg (bO (gU hu) (aq (aW (ao 0))) (aq bF) (bB _))
  (aD (lH (fU aA)))
  bA)
  (aD (lH (iT (aH lL) ["lead", "branch"] [] 2 [] rfl (by walk_at "u2") .nil (um (qb (iG n8 (ao 0) (aq (Ai rH (aq aC))) (fun _ _=>rfl)))) (fun _ _ _ _ _ _=>(jP rfl (bc (aP (i:=0) (show List.Nodup (["lead", "branch"]:List Str) by decide) rfl oR) (bc (aP (i:=1) (show List.Nodup (["lead", "branch"]:List Str) by decide) rfl oR) gZ)))) (fun _ _ _ _ _ _=>fj) (fun _ _ _ _ _ _=>(aF 1))))))
theorem Av (B:Bt mg)(Fu:Fun K "places_of" "places_of" oJ f fd)(Gbranches_of:FF P w K mg base 1 "branches_of" ["game"] fD):
  cT P w K mg base (CX1 P w) 2 f fd ["game"] (spF ⟨K,mg⟩ dI):=
 bu Fu my fun cdv A outer s H E hr=>by
 have hu:=hr.units
 unfold wG oH
 exact (az (gR (i:=1) my.nd rfl oR (fU aA))
  (az (gR (i:=2) my.nd rfl oR (fU (ak (bj (ak (bj aA) (ak (aF 0) aA))) aA)))
  (az (uO PassesOwn.leaving (bO o8 (aq (cu dR rfl B.len lE (aO (ao 2) aY))) (aq aC) (bB _))
  (az (Ky 3 2 my.nd rfl (Or.inr rfl))
  (az (iR 1 (aF 3))
  (az (GD (i:=4) (aH oJ) ["number", "branch", "place"] ["place"] 2 [3] my.nd rfl oR rfl (by walk_at "u2") (.cons rfl .nil) (Ox rfl B.enumerate (aO (aq (bD Gbranches_of hr aN (ak (aW (ao 3)) aA))) aY)) (fun _ _ _ _ _ _=>(jP rfl (bc (aP (i:=0) (show List.Nodup (["number", "branch", "place"]:List Str) by decide) rfl oR) (bc (aP (i:=1) (show List.Nodup (["number", "branch", "place"]:List Str) by decide) rfl oR) gZ)))) (fun _ _ _ _ _ _=>fj) (fun _ _ _ _ _ _=>(bj (ak (aG bM (aq (aW (ao 2))) (aq (bj (ak (aF 0) aA)))) (ak (aF 1) aA)))))
  (aD (Lh 2 (Tp rfl rfl B.list rfl B.reversed (aO (ao 4) aY))))))))
  (aD (uA 1)))))
theorem Ge (B:Bt mg)(Fu:Fun K "words_at" "words_at" qu f fd)  :
  cT P w K mg base (CX1 P w) 1 f fd ["move"] (spF ⟨K,mg⟩ nZ):=
 bu Fu Hi fun cdv A outer s H E hr=>by
 have hu:=hr.units
 unfold tV tW
 exact (aD (bW (pR mz rfl B.tuple jR (aO (aq (lg (iT (aH qu) ["word", "branch"] [] 2 [] rfl (by walk_at "u2") .nil (um (qb (aW (ao 0)))) (fun _ _ _ _ _ _=>(jP rfl (bc (aP (i:=0) (show List.Nodup (["word", "branch"]:List Str) by decide) rfl oR) (bc (aP (i:=1) (show List.Nodup (["word", "branch"]:List Str) by decide) rfl oR) gZ)))) (fun _ _ _ _ _ _=>fj) (fun _ _ _ _ _ _=>(aF 0))))) aY))))
theorem uC (B:Bt mg)(Fu:Fun K "records_behind" "records_behind" lA f fd)  :
  cT P w K mg base (CX1 P w) 1 f fd ["place", "records", "number"] (spF ⟨K,mg⟩ cZ):=
 bu Fu pQ fun cdv A outer s H E hr=>by
 have hu:=hr.units
 unfold fW fP
 exact (az (dg (bO (pG hu) (aq (aW (ao 0))) (aq bF) (bB _))
  (aD (bW (aF 1)))
  bA)
  (az (bK (i:=3) pQ.nd rfl oR (bj (ak (aW (ao 0)) (ak (aW (aq (iG n8 (aq (aW (ao 0))) (ao 2) (fun _ _=>rfl)))) aA))))
  (az (dg (bO (gU hu) (aq (aW (ao 0))) (aq aC) (bB _))
  (aD (bW (bj (ak (aG bM (aq (aW (ao 1))) (aq (bj (ak (aF 3) aA)))) (ak (aW (ao 1)) aA)))))
  bA)
  (aD (bW (bj (ak (aW (ao 1)) (ak (aG bM (aq (aW (ao 1))) (aq (bj (ak (aF 3) aA)))) aA))))))))
theorem pY (B:Bt mg)(Fu:Fun K "places_with_records" "places_with_records" gY f fd)(Gbranches_of:FF P w K mg base 1 "branches_of" ["game"] fD)(Gplaces_of:FF P w K mg base 2 "places_of" ["game"] dI)(Grecords_behind:FF P w K mg base 1 "records_behind" ["place", "records", "number"] cZ):
  cT P w K mg base (CX1 P w) 3 f fd ["game"] (spF ⟨K,mg⟩ bG):=
 bu Fu cG fun cdv A outer s H E hr=>by
 have hu:=hr.units
 unfold km eE
 refine Wr.out ?_
 exact (Hq (Uy (i:=1) cG.nd rfl oR (Wr.mk (O7 hr (bj aA) (bj (ak (bj aA) (ak (bj aA) aA)))))) (Hq (Uy (i:=2) cG.nd rfl oR (X3 (Wr.mk aA))) (Hq (Wr.mk (iJ (k:=1000) PassesOwn.leaving rfl (oO (bD Gplaces_of hr aN (ak (aF 0) aA))) (jP rfl (bc (aP (i:=3) cG.nd rfl oR) (bc (aP (i:=4) cG.nd rfl oR) gZ))) (az (iR 2 (bj (ak (aF 3) (ak (aF 4) (ak (Dq hr (ao 1) (ao 3) (fun _ _=>rfl)) aA))))) (aD (iJ (k:=1000) PassesOwn.leaving rfl (pW rfl B.range (aO (aq (cu dR rfl B.len lE (aO (aq (bD Gbranches_of hr aN (ak (aF 4) aA))) aY))) aY)) (aP (i:=5) cG.nd rfl oR) (aD (JR 1 hr (bD Grecords_behind hr aN (ak (aF 4) (ak (Dq hr (ao 1) (ao 3) (fun _ _=>rfl)) (ak (aF 5) aA)))) (aG bM (ao 3) (aq (bj (ak (aF 5) aA))))))))))) (XF (Wr.mk (uA 2))))))
theorem LQ (B:Bt mg)(Fu:Fun K "row_at" "row_at" yh f fd)(Gwords_at:FF P w K mg base 1 "words_at" ["move"] nZ):
  cT P w K mg base (CX1 P w) 2 f fd ["move", "records"] (spF ⟨K,mg⟩ mq):=
 bu Fu NK fun cdv A outer s H E hr=>by
 have hu:=hr.units
 unfold uy vg
 exact (aD (bW (bj (ak (aW (ao 0)) (ak (aW (ao 0)) (ak (bD Gwords_at hr aN (ak (aF 0) aA)) (ak (iG n8 (ao 1) (aq (aG eG (aq (aW (ao 0))) (aq aC))) (fun _ _=>rfl)) aA)))))))
theorem Fo (B:Bt mg)(Fu:Fun K "table_of" "table_of" tR f fd)(Gplaces_with_records:FF P w K mg base 3 "places_with_records" ["game"] bG)(Grow_at:FF P w K mg base 2 "row_at" ["move", "records"] mq):
  cT P w K mg base (CX1 P w) 4 f fd ["game"] (spF ⟨K,mg⟩ lG):=
 bu Fu nM fun cdv A outer s H E hr=>by
 have hu:=hr.units
 unfold yg qj
 exact (az (gR (i:=1) nM.nd rfl oR xx)
  (az (iJ (k:=1000) PassesOwn.leaving rfl (oO (bD Gplaces_with_records hr aN (ak (aF 0) aA))) (jP rfl (bc (aP (i:=2) nM.nd rfl oR) (bc (aP (i:=3) nM.nd rfl oR) (bc (aP (i:=4) nM.nd rfl oR) gZ))))
  (aD (dg (bO (gU hu) (aq (aW (ao 3))) (aq bF) (bB _))
  (aD (Va 1 hr (bj (ak (aW (ao 3)) (ak (aW (ao 3)) aA))) (bD Grow_at hr aN (ak (aF 3) (ak (aF 4) aA))) ⟨rfl,rfl,rfl,rfl⟩))
  bA)))
  (aD (lH (MT rfl rfl B.list (ao 1))))))
theorem HD (B:Bt mg)(Fu:Fun K "rows_of" "rows_of" rM f fd)(Gtable_of:FF P w K mg base 4 "table_of" ["game"] lG):
  cT P w K mg base (CX1 P w) 5 f fd ["game", "side"] (spF ⟨K,mg⟩ pJ):=
 bu Fu KH fun cdv A outer s H E hr=>by
 have hu:=hr.units
 unfold vB v7
 exact (aD (lH (iT (aH rM) ["row", "side"] ["side"] 1 [1] rfl (by walk_at "u2") (.cons rfl .nil) (nC (aq (bD Gtable_of hr aN (ak (aF 0) aA)))) (fun _ _ _ _ _ _=>(aP (i:=0) (show List.Nodup (["row", "side"]:List Str) by decide) rfl oR)) (fun _ _ _ _ _ _=>(Qz (bO (gU hu) (aq (aW (ao 0))) (ao 1) (bB _)))) (fun _ _ _ _ _ _=>(aF 0)))))
theorem yF (B:Bt mg)(Fu:Fun K "count_words" "count_words" lV f fd)  :
  cT P w K mg base (CX1 P w) 1 f fd ["rows"] (spF ⟨K,mg⟩ jc):=
 bu Fu zP fun cdv A outer s H E hr=>by
 have hu:=hr.units
 unfold pH oZ
 exact (aD (bW (cu (Ao rfl) rfl B.sum Qh (aO (aq (lg (iT (aH lV) ["row"] [] 1 [] rfl (by walk_at "u2") .nil (nC (ao 0)) (fun _ _ _ _ _ _=>(aP (i:=0) (show List.Nodup (["row"]:List Str) by decide) rfl oR)) (fun _ _ _ _ _ _=>fj) (fun _ _ _ _ _ _=>(cu dR rfl B.len lE (aO (aq (aW (ao 0))) aY)))))) aY))))
theorem xm (B:Bt mg)(Fu:Fun K "fractions_at" "fractions_at" j0 f fd)  :
  cT P w K mg base (CX1 P w) 1 f fd ["place"] (spF ⟨K,mg⟩ bR):=
 bu Fu yO fun cdv A outer s H E hr=>by
 have hu:=hr.units
 unfold ik iD
 exact (az (dg (bO (gU hu) (aq (aW (ao 0))) (aq bF) (bB _))
  (aD (lH (fU (ak (aW (ao 0)) aA))))
  bA)
  (az (dg (bO (gU hu) (aq (aW (ao 0))) (aq bF) (bB _))
  (aD (lH (iT (aH j0) ["share", "branch"] [] 2 [] rfl (by walk_at "u2") .nil (um (qb (aW (ao 0)))) (fun _ _ _ _ _ _=>(jP rfl (bc (aP (i:=0) (show List.Nodup (["share", "branch"]:List Str) by decide) rfl oR) (bc (aP (i:=1) (show List.Nodup (["share", "branch"]:List Str) by decide) rfl oR) gZ)))) (fun _ _ _ _ _ _=>fj) (fun _ _ _ _ _ _=>(aF 0)))))
  bA)
  (aD (lH (fU aA)))))
theorem Fx (B:Bt mg)(Cn:CnT K mg)(Fu:Fun K "is_great" "is_great" sY f fd)  :
  cT P w K mg base (CX1 P w) 1 f fd ["fraction"] (spF ⟨K,mg⟩ oh):=
 bu Fu Ha fun cdv A outer s H E hr=>by
 have hu:=hr.units
 unfold uo tH
 exact (aD (bW (X5 (tZ o8 (aq (cu rW rfl B.abs Dr (aO (aq (aW (ao 0))) aY))) (aq (xg Cn rfl)) (bB _)) (Mw (tZ o8 (aq (aW (ao 0))) (aq (ue Cn rfl)) (bB _))))))
theorem qd (B:Bt mg)(Cn:CnT K mg)(Fu:Fun K "refuse_great_places" "refuse_great_places" eF f fd)(Gplaces_of:FF P w K mg base 2 "places_of" ["game"] dI):
  cT P w K mg base (CX1 P w) 3 f fd ["game"] (spF ⟨K,mg⟩ cW):=
 bu Fu kj fun cdv A outer s H E hr=>by
 have hu:=hr.units
 unfold gQ gW
 exact (az (bK (i:=1) kj.nd rfl oR (bD Gplaces_of hr aN (ak (aF 0) aA)))
  (az (dg (bO o8 (aq (cu dR rfl B.len lE (aO (ao 1) aY))) (aq (zg Cn rfl)) (bB _))
  (aD mG)
  bA)
  (aD (dg (iy (cu (Aq rfl) rfl B.any Qx (aO (aq (lg (iT (aH eF) ["way", "place"] [] 2 [] rfl (by walk_at "u2") .nil (nC (ao 1)) (fun _ _ _ _ _ _=>(jP rfl (bc (aP (i:=0) (show List.Nodup (["way", "place"]:List Str) by decide) rfl oR) (bc (aP (i:=1) (show List.Nodup (["way", "place"]:List Str) by decide) rfl oR) gZ)))) (fun _ _ _ _ _ _=>fj) (fun _ _ _ _ _ _=>(tZ o8 (aq (cu dR rfl B.len lE (aO (ao 0) aY))) (aq (vN Cn rfl)) (bB _)))))) aY)))
  (aD mG)
  bA))))
theorem qJ (B:Bt mg)(Cn:CnT K mg)(Fu:Fun K "refuse_great_table" "refuse_great_table" iB f fd)(Grows_of:FF P w K mg base 5 "rows_of" ["game", "side"] pJ)(Gcount_words:FF P w K mg base 1 "count_words" ["rows"] jc):
  cT P w K mg base (CX1 P w) 6 f fd ["game"] (spF ⟨K,mg⟩ dq):=
 bu Fu iz fun cdv A outer s H E hr=>by
 have hu:=hr.units
 unfold iC iK
 exact (aD (iJ (k:=1000) PassesOwn.leaving rfl (qb (bj (ak aC (ak aC aA)))) (aP (i:=1) iz.nd rfl oR)
  (az (bK (i:=2) iz.nd rfl oR (bD Grows_of hr aN (ak (aF 0) (ak (aF 1) aA))))
  (az (dg (bO o8 (aq (cu dR rfl B.len lE (aO (ao 2) aY))) (aq (zH Cn rfl)) (bB _))
  (aD mG)
  bA)
  (aD (dg (bO o8 (aq (bD Gcount_words hr aN (ak (aF 2) aA))) (aq (tL Cn rfl)) (bB _))
  (aD mG)
  bA))))))
theorem qK (B:Bt mg)(Fu:Fun K "refuse_great_shape" "refuse_great_shape" ir f fd)(Grefuse_great_places:FF P w K mg base 3 "refuse_great_places" ["game"] cW)(Grefuse_great_table:FF P w K mg base 6 "refuse_great_table" ["game"] dq):
  cT P w K mg base (CX1 P w) 7 f fd ["game"] (spF ⟨K,mg⟩ dm):=
 bu Fu qL fun cdv A outer s H E hr=>by
 have hu:=hr.units
 unfold iu iI
 exact (az (rY (bD Grefuse_great_places hr aN (ak (aF 0) aA)))
  (aD (rY (bD Grefuse_great_table hr aN (ak (aF 0) aA)))))
theorem oE (B:Bt mg)(Fu:Fun K "refuse_great_fractions" "refuse_great_fractions" dh f fd)(Gplaces_of:FF P w K mg base 2 "places_of" ["game"] dI)(Gfractions_at:FF P w K mg base 1 "fractions_at" ["place"] bR)(Gis_great:FF P w K mg base 1 "is_great" ["fraction"] oh):
  cT P w K mg base (CX1 P w) 3 f fd ["game"] (spF ⟨K,mg⟩ cI):=
 bu Fu fJ fun cdv A outer s H E hr=>by
 have hu:=hr.units
 unfold fG fL
 exact (aD (iJ (k:=1000) PassesOwn.leaving rfl (oO (bD Gplaces_of hr aN (ak (aF 0) aA))) (jP rfl (bc (aP (i:=1) fJ.nd rfl oR) (bc (aP (i:=2) fJ.nd rfl oR) gZ)))
  (aD (dg (iy (cu (Aq rfl) rfl B.any Qx (aO (aq (lg (iT (aH dh) ["fraction"] [] 1 [] rfl (by walk_at "u2") .nil (nC (aq (bD Gfractions_at hr aN (ak (aF 2) aA)))) (fun _ _ _ _ _ _=>(aP (i:=0) (show List.Nodup (["fraction"]:List Str) by decide) rfl oR)) (fun _ _ _ _ _ _=>fj) (fun _ _ _ _ _ _=>(bD Gis_great hr Kc (ak (aF 0) aA)))))) aY)))
  (aD mG)
  bA))))
theorem zL (B:Bt mg)(Cn:CnT K mg)(Fu:Fun K "are_shares" "are_shares" ni f fd)(Gunder:FF P w K mg base 1 "under" ["first", "second"] vq)(Gtotal:FF P w K mg base 4 "total" ["some"] ux):
  cT P w K mg base (CX1 P w) 5 f fd ["shares"] (spF ⟨K,mg⟩ jM):=
 bu Fu CQ fun cdv A outer s H E hr=>by
 have hu:=hr.units
 unfold qt qg
 exact (aD (bW (Vs (cu (Ac rfl) rfl B.all Ot (aO (aq (lg (iT (aH ni) ["share"] [] 1 [] rfl (by walk_at "u2") .nil (nC (ao 0)) (fun _ _ _ _ _ _=>(aP (i:=0) (show List.Nodup (["share"]:List Str) by decide) rfl oR)) (fun _ _ _ _ _ _=>fj) (fun _ _ _ _ _ _=>(bD Gunder hr Kc (ak (Ad Cn rfl) (ak (aF 0) aA))))))) aY)) (Mw (tZ (gU hu) (aq (bD Gtotal hr aN (ak (aF 0) aA))) (aq (WT Cn rfl)) (bB _))))))
theorem su (B:Bt mg)(Fu:Fun K "refuse_other_row" "refuse_other_row" jx f fd)  :
  cT P w K mg base (CX1 P w) 1 f fd ["way", "row", "first_way", "first_row"] (spF ⟨K,mg⟩ cY):=
 bu Fu ug fun cdv A outer s H E hr=>by
 have hu:=hr.units
 unfold jr jo
 exact (az (dg (bO (pG hu) (aq (aW (ao 1))) (aq (aW (ao 3))) (bB _))
  (aD mG)
  bA)
  (aD (dg (bO (pG hu) (aq (aW (ao 1))) (aq (aW (ao 3))) (bB _))
  (aD mG)
  bA)))
theorem uB (B:Bt mg)(Fu:Fun K "refuse_unsound" "refuse_unsound" kZ f fd)(Gplaces_with_records:FF P w K mg base 3 "places_with_records" ["game"] bG)(Grow_at:FF P w K mg base 2 "row_at" ["move", "records"] mq)(Gfractions_at:FF P w K mg base 1 "fractions_at" ["place"] bR)(Gare_shares:FF P w K mg base 5 "are_shares" ["shares"] jM)(Grefuse_other_row:FF P w K mg base 1 "refuse_other_row" ["way", "row", "first_way", "first_row"] cY):
  cT P w K mg base (CX1 P w) 6 f fd ["game"] (spF ⟨K,mg⟩ fZ):=
 bu Fu cX fun cdv A outer s H E hr=>by
 have hu:=hr.units
 unfold kW kY
 exact (az (gR (i:=1) cX.nd rfl oR xx)
  (aD (iJ (k:=1000) PassesOwn.leaving rfl (oO (bD Gplaces_with_records hr aN (ak (aF 0) aA))) (jP rfl (bc (aP (i:=2) cX.nd rfl oR) (bc (aP (i:=3) cX.nd rfl oR) (bc (aP (i:=4) cX.nd rfl oR) gZ))))
  (az (dg (Bj (HH (bO (gU hu) (aq (aW (ao 3))) (aq bF) (bB _)) (Ck (lD (iy (bD Gare_shares hr aN (ak (bD Gfractions_at hr aN (ak (aF 3) aA)) aA)))))))
  (aD mG)
  bA)
  (aD (dg (bO (gU hu) (aq (aW (ao 3))) (aq bF) (bB _))
  (az (bK (i:=5) cX.nd rfl oR (bD Grow_at hr aN (ak (aF 3) (ak (aF 4) aA))))
  (az (HX (i:=6) cX.nd rfl oR (UJ 1 hr (bj (ak (aW (ao 3)) (ak (aW (ao 3)) aA))) (bj (ak (aF 2) (ak (aF 5) aA))) ⟨rfl,rfl,rfl,rfl⟩))
  (aD (rY (bD Grefuse_other_row hr aN (ak (aF 2) (ak (aF 5) (ak (aW (ao 6)) (ak (aW (ao 6)) aA)))))))))
  bA))))))
theorem SX (B:Bt mg)(Fu:Fun K "look" "look" Hl f fd)(Gtable_of:FF P w K mg base 4 "table_of" ["game"] lG)(Grefuse_great_shape:FF P w K mg base 7 "refuse_great_shape" ["game"] dm)(Grefuse_great_fractions:FF P w K mg base 3 "refuse_great_fractions" ["game"] cI)(Grefuse_unsound:FF P w K mg base 6 "refuse_unsound" ["game"] fZ):
  cT P w K mg base (CX1 P w) 8 f fd ["game"] (spF ⟨K,mg⟩ ur):=
 bu Fu Vy fun cdv A outer s H E hr=>by
 have hu:=hr.units
 unfold Hy GZ
 exact (az (rY (bD Grefuse_great_shape hr aN (ak (aF 0) aA)))
  (az (rY (bD Grefuse_great_fractions hr aN (ak (aF 0) aA)))
  (az (rY (bD Grefuse_unsound hr aN (ak (aF 0) aA)))
  (aD (lH (Uk Gtable_of hr aN (ak (aF 0) aA)))))))
theorem xj (B:Bt mg)(Fu:Fun K "_law_cell_at" "_law_cell_at" nR f fd)  :
  cT P w K mg base (CX1 P w) 1 f fd ["_law_script", "_law_k"] (spF ⟨K,mg⟩ gf):=
 bu Fu yS fun cdv A outer s H E hr=>by
 have hu:=hr.units
 unfold jQ jW
 exact (az (dg (bO (CG hu) (ao 1) (aq (cu dR rfl B.len lE (aO (ao 0) aY))) (bB _))
  (aD (bW (iG n8 (ao 0) (ao 1) (fun _ _=>rfl))))
  bA)
  (aD (bW aC)))
theorem zm (B:Bt mg)(Fu:Fun K "_law_lowest" "_law_lowest" pF f fd)  :
  cT P w K mg base (CX1 P w) 1 f fd ["_law_top", "_law_bottom"] (spF ⟨K,mg⟩ fK):=
 bu Fu lO fun cdv A outer s H E hr=>by
 have hu:=hr.units
 unfold pB pq
 exact (az (bK (i:=2) lO.nd rfl oR (cu rW rfl B.abs Dr (aO (ao 0) aY)))
  (az (bK (i:=3) lO.nd rfl oR (aF 1))
  (az (uO PassesOwn.leaving (bO (pG hu) (ao 3) (aq aC) (bB _))
  (aD (Vq (i:=2) (j:=3) rfl lO.nd rfl rfl (by decide) rfl rfl (ak (aF 3) (ak (aG bH (ao 2) (ao 3)) aA)))))
  (aD (bW (bj (ak (aG dC (ao 0) (ao 2)) (ak (aG dC (ao 1) (ao 2)) aA))))))))
theorem Bd (B:Bt mg)(Fu:Fun K "_law_pool" "_law_pool" mH f fd)  :
  cT P w K mg base (CX1 P w) 1 f fd ["_law_cell", "_law_turn"] (spF ⟨K,mg⟩ oF):=
 bu Fu cU fun cdv A outer s H E hr=>by
 have hu:=hr.units
 unfold wD jH
 exact (az (bK (i:=2) cU.nd rfl (Or.inr rfl) bF)
  (az (bK (i:=3) cU.nd rfl oR (aG bM (aq aC) (aq (aG bH (ao 0) (aq aC)))))
  (az (bK (i:=0) cU.nd rfl oR (aG dC (ao 0) (aq aC)))
  (az (gR (i:=4) cU.nd rfl oR (fU aA))
  (az (iJ (k:=1000) PassesOwn.leaving rfl (pW rfl B.range (aO (ao 3) aY)) (aP (i:=5) cU.nd rfl oR)
  (az (iR 4 (aG bH (ao 0) (aq aC)))
  (aD (bK (i:=0) cU.nd rfl oR (aG dC (ao 0) (aq aC))))))
  (az (bK (i:=6) cU.nd rfl (Or.inr rfl) (Xe PySem.F.plainAttrs_str PySem.F.slot_str_join PySem.F.type_str_join Np (aq bF) (aO (aq (lg (iT (aH mH) ["_law_k", "_law_signs"] ["_law_signs"] 1 [2] rfl (by walk_at "u2") (.cons rfl .nil) (nC (ao 4)) (fun _ _ _ _ _ _=>(aP (i:=0) (show List.Nodup (["_law_k", "_law_signs"]:List Str) by decide) rfl oR)) (fun _ _ _ _ _ _=>fj) (fun _ _ _ _ _ _=>(iG n8 (ao 1) (ao 0) (fun _ _=>rfl)))))) aY)))
  (az (dg (bO (gU hu) (aq (aG bH (aq (aG dC (ao 1) (aq aC))) (aq aC))) (aq aC) (bB _))
  (aD (lH (iT (aH mH) ["_law_k", "_law_word"] ["_law_word"] 1 [6] rfl (by walk_at "u2") (.cons rfl .nil) (um (K3 rfl B.range (aO (aq aC) (aO (aq aC) aY)))) (fun _ _ _ _ _ _=>(aP (i:=0) (show List.Nodup (["_law_k", "_law_word"]:List Str) by decide) rfl oR)) (fun _ _ _ _ _ _=>fj) (fun _ _ _ _ _ _=>(qU (aq (aG Nu (aq aC) (ao 1))) Cg (oW (ao 0)))))))
  bA)
  (az (bK (i:=7) cU.nd rfl oR (aG bH (ao 1) (ao 3)))
  (az (gR (i:=8) cU.nd rfl oR (fU aA))
  (az (iJ (k:=1000) PassesOwn.leaving rfl (pW rfl B.range (aO (aq aC) aY)) (aP (i:=5) cU.nd rfl oR)
  (az (bK (i:=9) cU.nd rfl oR (iG n8 (ao 2) (aq (aG bH (aq (aG bM (aq (iG n8 (ao 4) (ao 7) (fun _ _=>rfl))) (aq (aG iM (aq aC) (ao 5))))) (aq aC))) (fun _ _=>rfl)))
  (aD (iR 8 (aG bM (aq (aG bM (aq (qU (ao 6) Cg (oW (ao 7)))) (ao 9))) (aq (qU (ao 6) (oW (aq (aG bM (ao 7) (aq aC)))) Cg)))))))
  (aD (uA 8))))))))))))
theorem zG (B:Bt mg)(Fu:Fun K "_law_stake" "_law_stake" qm f fd)(G_law_lowest:FF P w K mg base 1 "_law_lowest" ["_law_top", "_law_bottom"] fK):
  cT P w K mg base (CX1 P w) 2 f fd ["_law_number"] (spF ⟨K,mg⟩ bI):=
 bu Fu Br fun cdv A outer s H E hr=>by
 have hu:=hr.units
 unfold nu nj
 exact (az (dg (bO (gU hu) (aq (aG bH (ao 0) (aq aC))) (aq aC) (bB _))
  (aD (bW (bD G_law_lowest hr aN (ak (aG eG (aq (aG bH (aq (aG iM (ao 0) (aq aC))) (aq aC))) (aq aC)) (ak (aG bM (aq aC) (aq (aG bH (aq (aG dC (ao 0) (aq aC))) (aq aC)))) aA)))))
  bA)
  (aD (bW (bD G_law_lowest hr aN (ak (aG eG (aq (aG bH (aq (aG dC (ao 0) (aq aC))) (aq aC))) (aq aC)) (ak (aG bM (aq aC) (aq (aG bH (aq (aG dC (ao 0) (aq aC))) (aq aC)))) aA))))))
theorem yM (B:Bt mg)(Fu:Fun K "_law_shares" "_law_shares" lX f fd)(G_law_lowest:FF P w K mg base 1 "_law_lowest" ["_law_top", "_law_bottom"] fK):
  cT P w K mg base (CX1 P w) 2 f fd ["_law_number", "_law_many"] (spF ⟨K,mg⟩ jb):=
 bu Fu lN fun cdv A outer s H E hr=>by
 have hu:=hr.units
 unfold sH mj
 exact (az (gR (i:=2) lN.nd rfl (Or.inr rfl) (fU aA))
  (az (iJ (k:=1000) PassesOwn.leaving rfl (pW rfl B.range (aO (ao 1) aY)) (aP (i:=3) lN.nd rfl oR)
  (az (iR 2 (aG bM (aq (aG bM (aq aC) (aq (aG bH (ao 0) (aq aC))))) (aq (aG iM (aq (aG dC (aq (aG bH (aq (aG dC (ao 0) (aq aC))) (aq aC))) (aq aC))) (aq (aG bH (aq (aG dC (ao 0) (aq aC))) (aq aC)))))))
  (aD (bK (i:=0) lN.nd rfl oR (aG bH (aq (aG iM (ao 0) (aq aC))) (aq aC))))))
  (aD (lH (iT (aH lX) ["_law_part", "_law_parts"] ["_law_parts"] 1 [2] rfl (by walk_at "u2") (.cons rfl .nil) (nC (ao 2)) (fun _ _ _ _ _ _=>(aP (i:=0) (show List.Nodup (["_law_part", "_law_parts"]:List Str) by decide) rfl oR)) (fun _ _ _ _ _ _=>fj) (fun _ _ _ _ _ _=>(bD G_law_lowest hr Kc (ak (aF 0) (ak (cu (Ao rfl) rfl B.sum Qh (aO (ao 1) aY)) aA)))))))))
theorem Eu (B:Bt mg)(Fu:Fun K "_law_mix" "_law_mix" tU f fd)  :
  cT P w K mg base (CX1 P w) 1 f fd ["_law_cell", "_law_k"] (spF ⟨K,mg⟩ cR):=
 bu Fu Gs fun cdv A outer s H E hr=>by
 have hu:=hr.units
 unfold tK uv
 exact (aD (bW (aG bH (aq (aG iM (aq (aG bM (aq (aG bH (ao 0) (aq aC))) (aq aC))) (aq (aG bM (aq aC) (aq (aG iM (aq aC) (ao 1))))))) (aq aC))))
theorem sy (B:Bt mg)(Fu:Fun K "_law_name_number" "_law_name_number" jA f fd)  :
  cT P w K mg base (CX1 P w) 1 f fd ["_law_state", "_law_side", "_law_record", "_law_many", "_law_bit"] (Ho ⟨K,mg⟩ 0 bZ):=
 yf 0 Fu oA (by decide) fun cdv A outer s H E hr=>by
 have hu:=hr.units
 unfold dZ dX
 exact (az (bK (i:=5) oA.nd rfl oR (bj (ak (aF 1) (ak (aF 2) (ak (aF 3) (ak (aF 4) aA))))))
  (az (dg (bO (Ib hr) (ao 5) (BR 6 (gD hr (ao 0) (aq bF) (fun _ _=>rfl))) (by with_unfolding_all rfl))
  (az (Gi 6 hr (iG n8 (BR 7 (gD hr (ao 0) (aq bF) (fun _ _=>rfl))) (aq (aG eG (ao 1) (aq aC))) (fun _ _=>rfl)) (gD hr (ao 0) (aq bF) (fun _ _=>rfl)) (aF 5))
  (aD (Ex 7 (aG bM (aq (iG n8 (BR 7 (gD hr (ao 0) (aq bF) (fun _ _=>rfl))) (aq (aG eG (ao 1) (aq aC))) (fun _ _=>rfl))) (aq aC)) (gD hr (ao 0) (aq bF) (fun _ _=>rfl)) (aG eG (ao 1) (aq aC)))))
  bA)
  (aD (bW (Dq hr (BR 6 (gD hr (ao 0) (aq bF) (fun _ _=>rfl))) (ao 5) (fun _ _=>rfl))))))
theorem BV (B:Bt mg)(Fu:Fun K "_law_move" "_law_move" rC f fd)(G_law_stake:FF P w K mg base 2 "_law_stake" ["_law_number"] bI)(G_law_name_number:FST P w K mg base 1 "_law_name_number" ["_law_state", "_law_side", "_law_record", "_law_many", "_law_bit"] 0 bZ)(k:Nat)(hc:2<=k)(Φb:List D->D->Addr×D->Addr×D->Res (D×D×D×D))(G_law_built:FST P w K mg base k "_law_built" ["_law_cells", "_law_state", "_law_depth", "_law_records"] 1 Φb):
  cT P w K mg base (CX1 P w) (k+1) f fd ["_law_cells", "_law_state", "_law_depth", "_law_records", "_law_draw"] (Ho ⟨K,mg⟩ 1 (mC Φb)):=
 yf 1 Fu dN (by decide) fun cdv A outer s H E hr=>by
 have hu:=hr.units
 unfold jJ
 exact (az (bK (i:=5) dN.nd rfl oR (aG bM (aq aC) (aq (aG bH (ao 4) (aq aC)))))
  (az (bK (i:=6) dN.nd rfl oR (aG bM (aq aC) (aq (aG bH (aq (aG dC (ao 4) (aq aC))) (aq aC)))))
  (az (HX (i:=7) dN.nd rfl oR (Dt 1 14 15 G_law_name_number hr aN (rA (i:=1) (ak (aF 5) (ak (iG n8 (ao 3) (aq (aG eG (ao 5) (aq aC))) (fun _ _=>rfl)) (ak (aF 6) (ak (aG bH (aq (aG dC (ao 4) (aq aC))) (aq aC)) aA))))) (hk:=by omega)))
  (az (dg (bO Oc (ao 7) (aq aC) (bB _))
  (aD (bW (bj (ak bF (ak (bD G_law_stake hr aN (ak (aF 4) aA) (hk:=by omega)) aA)))))
  bA)
  (az (vm 1 hr (aG eG (aq (gD hr (ao 1) (aq bF) (fun _ _=>rfl))) (ao 6)) bF)
  (az (bK (i:=8) dN.nd rfl oR (gD hr (ao 1) (aq bF) (fun _ _=>rfl)))
  (az (bK (i:=9) dN.nd rfl oR (iG n8 (ao 8) (aq (aG bH (aq (aG bM (ao 7) (aq (gD hr (ao 1) (aq bF) (fun _ _=>rfl))))) (aq aC))) (fun _ _=>rfl)))
  (az (gR (i:=10) dN.nd rfl oR (fU aA))
  (az (iJ (k:=1000) PassesOwn.leaving rfl (pW rfl B.range (aO (ao 6) aY)) (aP (i:=11) dN.nd rfl oR)
  (az (bK (i:=12) dN.nd rfl oR (iG n8 (ao 8) (aq (aG bH (aq (aG bM (aq (aG bM (aq (aG iM (aq aC) (ao 7))) (ao 11))) (aq (aG dC (aq (gD hr (ao 1) (aq bF) (fun _ _=>rfl))) (aq aC))))) (aq aC))) (fun _ _=>rfl)))
  (az (gR (i:=13) dN.nd rfl oR (zZ yL rfl B.list rQ (aO (ao 3) aY)))
  (az (FP 13 (aG bM (aq (iG n8 (ao 13) (aq (aG eG (ao 5) (aq aC))) (fun _ _=>rfl))) (aq (bj (ak (bj (ak (aF 9) (ak (aF 12) aA))) aA)))) (aG eG (ao 5) (aq aC)))
  (Rf 13 (aD (yQ 10 (N7 (vA (Ur (aF 12)) (vA (Dt 1 14 15 G_law_built hr aN (uT (aF 0) (rA (i:=1) (ak (aG eG (ao 2) (aq aC)) (ak (aF 13) aA)))) (hk:=by omega)) Iz))))))))))
  (aD (bW (bj (ak bF (ak (aF 5) (ak (aF 9) (ak (pR mz rfl B.tuple jR (aO (ao 10) aY)) aA))))))))))))))))
theorem zJ (B:Bt mg)(Fu:Fun K "_law_built" "_law_built" qi f fd)(G_law_stake:FF P w K mg base 2 "_law_stake" ["_law_number"] bI)(G_law_shares:FF P w K mg base 2 "_law_shares" ["_law_number", "_law_many"] jb)(G_law_mix:FF P w K mg base 1 "_law_mix" ["_law_cell", "_law_k"] cR)(n:Nat)(G_law_built:FST P w K mg base (2+2 * n) "_law_built" ["_law_cells", "_law_state", "_law_depth", "_law_records"] 1 (aU n))(G_law_move:FST P w K mg base (2+2 * n+1) "_law_move" ["_law_cells", "_law_state", "_law_depth", "_law_records", "_law_draw"] 1 (mC (aU n))):
  cT P w K mg base (CX1 P w) (2+2 * n+1+1) f fd ["_law_cells", "_law_state", "_law_depth", "_law_records"] (Ho ⟨K,mg⟩ 1 (aU (n+1))):=
 yf 1 Fu eV (by decide) fun cdv A outer s H E hr=>by
 have hu:=hr.units
 unfold dF
 exact (az (bK (i:=4) eV.nd rfl oR (gD hr (ao 1) (aq bF) (fun _ _=>rfl)))
  (az (vm 1 hr (aG bM (ao 4) (aq aC)) bF)
  (az (dg (bO Oc (ao 4) (aq (cu dR rfl B.len lE (aO (ao 0) aY))) (bB _))
  (aD (bW (bj (ak bF (ak (bD G_law_stake hr aN (ak (bD G_law_mix hr aN (ak (aG bM (aq (iG n8 (ao 0) (aq (Ai rH (aq aC))) (fun _ _=>rfl))) (aq (aG iM (ao 4) (ao 4)))) (ak (aF 4) aA)) (hk:=by omega)) aA) (hk:=by omega)) aA)))))
  bA)
  (az (bK (i:=5) eV.nd rfl oR (bD G_law_mix hr aN (ak (iG n8 (ao 0) (ao 4) (fun _ _=>rfl)) (ak (aF 4) aA)) (hk:=by omega)))
  (az (bK (i:=6) eV.nd rfl oR (aF 5))
  (az (dg (iy (gD hr (ao 1) (aq bF) (fun _ _=>rfl)))
  (aD (bK (i:=6) eV.nd rfl oR (aG bM (aq (aG eG (ao 5) (aq (aG bH (ao 5) (aq aC))))) (aq (aG bH (aq (bD G_law_mix hr aN (ak (iG n8 (ao 0) (aq (aG bH (ao 2) (aq (cu dR rfl B.len lE (aO (ao 0) aY))))) (fun _ _=>rfl)) (ak (aF 2) aA)) (hk:=by omega))) (aq aC))))))
  bA)
  (az (dg (Bj (qH (bO (gU hu) (ao 2) (aq aC) (bB _)) (qH (bO (CG hu) (aq (gD hr (ao 1) (aq bF) (fun _ _=>rfl))) (aq aC) (bB _)) (vD (Bj (HH (bO (gU hu) (aq (aG bH (ao 6) (aq aC))) (aq aC) (bB _)) (Ck (bO o8 (ao 4) (aq aC) (bB _)))))))))
  (aD (bW (bj (ak bF (ak (bD G_law_stake hr aN (ak (aF 5) aA) (hk:=by omega)) aA)))))
  bA)
  (az (dg (bO o8 (aq (aG bH (ao 6) (aq aC))) (aq aC) (bB _))
  (aD (Eg (Dt 1 10 11 G_law_move hr aN (uT (aF 0) (rA (i:=1) (ak (aF 2) (ak (aF 3) (ak (aF 6) aA))))) (hk:=by omega))))
  bA)
  (az (bK (i:=7) eV.nd rfl oR (aG bM (aq aC) (aq (aG bH (aq (aG dC (ao 6) (aq aC))) (aq aC)))))
  (az (vm 1 hr (aG eG (aq (gD hr (ao 1) (aq bF) (fun _ _=>rfl))) (ao 7)) bF)
  (az (gR (i:=8) eV.nd rfl oR (fU aA))
  (az (iJ (k:=1000) PassesOwn.leaving rfl (oO (bD G_law_shares hr aN (ak (aF 5) (ak (aF 7) aA)) (hk:=by omega))) (aP (i:=9) eV.nd rfl oR)
  (aD (yQ 8 (N7 (vA (Ur (aF 9)) (vA (Dt 1 10 11 G_law_built hr aN (uT (aF 0) (rA (i:=1) (ak (aG eG (ao 2) (aq aC)) (ak (aF 3) aA)))) (hk:=by omega)) Iz))))))
  (aD (bW (bj (ak bF (ak (iG n8 (aq (gD hr (ao 1) (aq bF) (fun _ _=>rfl))) (aq (aG bH (aq (aG dC (ao 5) (aq aC))) (aq aC))) (fun _ _=>rfl)) (ak (pR mz rfl B.tuple jR (aO (ao 8) aY)) aA))))))))))))))))))
theorem BX (B:Bt mg)(Fu:Fun K "_law_game" "_law_game" qX f fd)(G_law_built:FST P w K mg base 28 "_law_built" ["_law_cells", "_law_state", "_law_depth", "_law_records"] 1 (aU 13)):
  cT P w K mg base (CX1 P w) 29 f fd ["_law_cells", "_law_turn", "_law_depth", "_law_room", "_law_pool_here"] (spF ⟨K,mg⟩ jF):=
 bu Fu wO fun cdv A outer s H E hr=>by
 have hu:=hr.units
 unfold wL oY
 exact (Nk (i:=5) (j1:=6) (j2:=7) wO.nd rfl oR (q9 bF aC (q9 bF (aF 3) (q9 bF xx (q9 bF (fU (ak aC (ak aC aA))) (q9 bF (aF 4) SQ)))))
  (az (vm 5 hr (aG bH (ao 1) (aq aC)) bF)
  (az (vm 5 hr (tZ (gU hu) (aq (aG bH (aq (aG dC (ao 1) (aq aC))) (aq aC))) (aq aC) (bB _)) bF)
  (aD (Eg (Dt 5 6 7 G_law_built hr aN (uT (aF 0) (rA (i:=5) (ak (aF 2) (ak (lg (fU (ak (bj aA) (ak (bj aA) aA)))) aA))))))))))
theorem ye (B:Bt mg)(Fu:Fun K "_law_places" "_law_places" lY f fd)  :
  cT P w K mg base (CX1 P w) 1 f fd ["_law_game_here"] (spF ⟨K,mg⟩ jd):=
 bu Fu cz fun cdv A outer s H E hr=>by
 have hu:=hr.units
 unfold sU lR
 exact (az (gR (i:=1) cz.nd rfl oR (fU aA))
  (az (gR (i:=2) cz.nd rfl oR (fU (ak (bj (ak (bj aA) (ak (aF 0) (ak (bj (ak (bj aA) (ak (bj aA) aA))) aA)))) aA)))
  (az (uO PassesOwn.leaving (bO o8 (aq (cu dR rfl B.len lE (aO (ao 2) aY))) (aq aC) (bB _))
  (az (Td (k:=1000) (We 2) (jP rfl (bc (aP (i:=3) cz.nd rfl oR) (bc (aP (i:=4) cz.nd rfl oR) (bc (aP (i:=5) cz.nd rfl (Or.inr rfl)) gZ)))))
  (az (iR 1 (bj (ak (aF 3) (ak (aF 4) (ak (aF 5) aA)))))
  (az (gR (i:=6) cz.nd rfl oR (fU aA))
  (az (dg (bO (gU hu) (aq (aW (ao 4))) (aq bF) (bB _))
  (aD (Gn (i:=6) (aH lY) ["_law_share", "_law_part", "_law_records"] ["_law_records"] 2 [5] cz.nd rfl oR rfl (by walk_at "u2") (.cons rfl .nil) (um (qb (aW (ao 4)))) (fun _ _ _ _ _ _=>(jP rfl (bc (aP (i:=0) (show List.Nodup (["_law_share", "_law_part", "_law_records"]:List Str) by decide) rfl oR) (bc (aP (i:=1) (show List.Nodup (["_law_share", "_law_part", "_law_records"]:List Str) by decide) rfl oR) gZ)))) (fun _ _ _ _ _ _=>fj) (fun _ _ _ _ _ _=>(bj (ak (aF 1) (ak (aF 2) aA))))))
  bA)
  (az (dg (bO (gU hu) (aq (aW (ao 4))) (aq bF) (bB _))
  (aD (iJ (k:=1000) PassesOwn.leaving rfl (qb (aW (ao 4))) (jP rfl (bc (aP (i:=7) cz.nd rfl oR) (bc (aP (i:=8) cz.nd rfl oR) gZ)))
  (az (gR (i:=9) cz.nd rfl oR (zZ yL rfl B.list rQ (aO (ao 5) aY)))
  (az (FP 9 (aG bM (aq (iG n8 (ao 9) (aq (aG eG (aq (aW (ao 4))) (aq aC))) (fun _ _=>rfl))) (aq (bj (ak (bj (ak (aW (ao 4)) (ak (aF 7) aA))) aA)))) (aG eG (aq (aW (ao 4))) (aq aC)))
  (aD (iR 6 (bj (ak (aF 8) (ak (pR mz rfl B.tuple jR (aO (ao 9) aY)) aA)))))))))
  bA)
  (aD (iJ (k:=1000) PassesOwn.leaving rfl (RK rfl B.range (aO (aq (aG eG (aq (cu dR rfl B.len lE (aO (ao 6) aY))) (aq aC))) (aO (aq (Ai rH (aq aC))) (aO (aq (Ai rH (aq aC))) aY)))) (aP (i:=10) cz.nd rfl oR)
  (aD (iR 2 (bj (ak (aG bM (ao 3) (aq (bj (ak (aF 10) aA)))) (ak (aW (aq (iG n8 (ao 6) (ao 10) (fun _ _=>rfl)))) (ak (aW (aq (iG n8 (ao 6) (ao 10) (fun _ _=>rfl)))) aA))))))))))))))
  (aD (uA 1)))))
theorem zO (B:Bt mg)(Fu:Fun K "_law_table" "_law_table" nq f fd)(G_law_places:FF P w K mg base 1 "_law_places" ["_law_game_here"] jd):
  cT P w K mg base (CX1 P w) 2 f fd ["_law_game_here"] (spF ⟨K,mg⟩ gq):=
 bu Fu gw fun cdv A outer s H E hr=>by
 have hu:=hr.units
 unfold qe pZ
 exact (az (gR (i:=1) gw.nd rfl oR (fU aA))
  (az (gR (i:=2) gw.nd rfl oR xx)
  (az (iJ (k:=1000) PassesOwn.leaving rfl (oO (bD G_law_places hr aN (ak (aF 0) aA))) (jP rfl (bc (aP (i:=3) gw.nd rfl oR) (bc (aP (i:=4) gw.nd rfl oR) (bc (aP (i:=5) gw.nd rfl oR) gZ))))
  (aD (dg (Bj (HH (bO (gU hu) (aq (aW (ao 4))) (aq bF) (bB _)) (Ck (bO (Ib hr) (aq (bj (ak (aW (ao 4)) (ak (aW (ao 4)) aA)))) (ao 2) (by with_unfolding_all rfl)))))
  (az (JR 2 hr rB (bj (ak (aW (ao 4)) (ak (aW (ao 4)) aA))))
  (az (bK (i:=6) gw.nd rfl oR (pR mz rfl B.tuple jR (aO (aq (lg (iT (aH nq) ["_law_word", "_law_part"] [] 2 [] rfl (by walk_at "u2") .nil (um (qb (aW (ao 4)))) (fun _ _ _ _ _ _=>(jP rfl (bc (aP (i:=0) (show List.Nodup (["_law_word", "_law_part"]:List Str) by decide) rfl oR) (bc (aP (i:=1) (show List.Nodup (["_law_word", "_law_part"]:List Str) by decide) rfl oR) gZ)))) (fun _ _ _ _ _ _=>fj) (fun _ _ _ _ _ _=>(aF 0))))) aY)))
  (aD (iR 1 (bj (ak (aW (ao 4)) (ak (aW (ao 4)) (ak (aF 6) (ak (iG n8 (ao 5) (aq (aG eG (aq (aW (ao 4))) (aq aC))) (fun _ _=>rfl)) aA)))))))))
  bA)))
  (aD (uA 1)))))
theorem wY (B:Bt mg)(Fu:Fun K "_law_is_text" "_law_is_text" nO f fd)  :
  cT P w K mg base (CX1 P w) 1 f fd ["_law_found"] (spF ⟨K,mg⟩ dB):=
 bu Fu yx fun cdv A outer s H E hr=>by
 have hu:=hr.units
 unfold qT qZ
 exact (aD (bW (qR (x:="") (ao 0) rfl B.isinstance dM rfl B.str V2)))
theorem uz (B:Bt mg)(Fu:Fun K "_law_is_record" "_law_is_record" lz f fd)(G_law_is_text:FF P w K mg base 1 "_law_is_text" ["_law_found"] dB):
  cT P w K mg base (CX1 P w) 2 f fd ["_law_found"] (spF ⟨K,mg⟩ f9):=
 bu Fu pU fun cdv A outer s H E hr=>by
 have hu:=hr.units
 unfold lr lB
 exact (az (dg (lD (iy (qR (x:="") (ao 0) rfl B.isinstance dM rfl B.tuple jR)))
  (aD (bW rB))
  bA)
  (az (iJ (k:=1000) PassesOwn.leaving rfl (qb (aF 0)) (aP (i:=1) pU.nd rfl oR)
  (aD (dg (Bj (qH (lD (iy (qR (x:="") (ao 1) rfl B.isinstance dM rfl B.tuple jR))) (qH (bO (pG hu) (aq (cu dR rfl B.len lE (aO (ao 1) aY))) (aq aC) (bB _)) (qH (lD (iy (bD G_law_is_text hr aN (ak (aW (ao 1)) aA)))) (vD (lD (iy (bD G_law_is_text hr aN (ak (aW (ao 1)) aA)))))))))
  (aD (bW rB))
  bA)))
  (aD (bW rB))))
theorem vQ (B:Bt mg)(Fu:Fun K "_law_is_table" "_law_is_table" jk f fd)(G_law_is_text:FF P w K mg base 1 "_law_is_text" ["_law_found"] dB)(G_law_is_record:FF P w K mg base 2 "_law_is_record" ["_law_found"] f9):
  cT P w K mg base (CX1 P w) 3 f fd ["_law_found"] (spF ⟨K,mg⟩ dD):=
 bu Fu qz fun cdv A outer s H E hr=>by
 have hu:=hr.units
 unfold mO mR
 exact (az (dg (lD (iy (qR (x:="") (ao 0) rfl B.isinstance dM rfl B.list rQ)))
  (aD (bW rB))
  bA)
  (az (iJ (k:=1000) PassesOwn.leaving rfl (oO (aF 0)) (aP (i:=1) qz.nd rfl oR)
  (az (dg (Bj (qH (lD (iy (qR (x:="") (ao 1) rfl B.isinstance dM rfl B.tuple jR))) (qH (bO (pG hu) (aq (cu dR rfl B.len lE (aO (ao 1) aY))) (aq aC) (bB _)) (qH (lD (iy (qR (x:="") (aq (aW (ao 1))) rfl B.isinstance dM rfl B.int UW))) (vD (iy (qR (x:="") (aq (aW (ao 1))) rfl B.isinstance dM rfl B.bool RP)))))))
  (aD (bW rB))
  bA)
  (az (dg (Bj (qH (lD (iy (bD G_law_is_text hr aN (ak (aW (ao 1)) aA)))) (qH (lD (iy (qR (x:="") (aq (aW (ao 1))) rfl B.isinstance dM rfl B.tuple jR))) (vD (lD (iy (bD G_law_is_record hr aN (ak (aW (ao 1)) aA))))))))
  (aD (bW rB))
  bA)
  (aD (dg (lD (iy (cu (Ac rfl) rfl B.all Ot (aO (aq (lg (iT (aH jk) ["_law_word"] [] 1 [] rfl (by walk_at "u2") .nil (um (qb (aW (ao 1)))) (fun _ _ _ _ _ _=>(aP (i:=0) (show List.Nodup (["_law_word"]:List Str) by decide) rfl oR)) (fun _ _ _ _ _ _=>fj) (fun _ _ _ _ _ _=>(bD G_law_is_text hr Kc (ak (aF 0) aA)))))) aY))))
  (aD (bW rB))
  bA)))))
  (aD (bW rB))))
theorem Vn (B:Bt mg)(Fu:Fun K "law" "law" uY f fd)(Glook:FF P w K mg base 8 "look" ["game"] ur)(G_law_cell_at:FF P w K mg base 1 "_law_cell_at" ["_law_script", "_law_k"] gf)(G_law_pool:FF P w K mg base 1 "_law_pool" ["_law_cell", "_law_turn"] oF)(G_law_game:FF P w K mg base 29 "_law_game" ["_law_cells", "_law_turn", "_law_depth", "_law_room", "_law_pool_here"] jF)(G_law_table:FF P w K mg base 2 "_law_table" ["_law_game_here"] gq)(G_law_is_table:FF P w K mg base 3 "_law_is_table" ["_law_found"] dD):
  cT P w K mg base (CX1 P w) 30 f fd ["_law_script"] (spF ⟨K,mg⟩ Uw):=
 bu Fu wN fun cdv A outer s H E hr=>by
 have hu:=hr.units
 unfold Uo J2
 exact (az (bK (i:=1) wN.nd rfl oR (bD G_law_pool hr aN (ak (bD G_law_cell_at hr aN (ak (aF 0) (ak aC aA))) (ak (bD G_law_cell_at hr aN (ak (aF 0) (ak aC aA))) aA))))
  (az (bK (i:=2) wN.nd rfl oR (bD G_law_cell_at hr aN (ak (aF 0) (ak aC aA))))
  (az (bK (i:=3) wN.nd rfl oR (iG n8 (aq (lg (fU (ak aC (ak aC (ak aC (ak aC aA))))))) (aq (aG bH (aq (bD G_law_cell_at hr aN (ak (aF 0) (ak aC aA)))) (aq aC))) (fun _ _=>rfl)))
  (az (bK (i:=4) wN.nd rfl oR (bD G_law_game hr aN (ak (aG bM (aq (qU (ao 0) (oW (aq aC)) (oW (aq aC)))) (aq (lg (fU (ak (bD G_law_cell_at hr aN (ak (aF 0) (ak aC aA))) aA))))) (ak (aF 2) (ak (aF 3) (ak aC (ak (aF 1) aA)))))))
  (az (bK (i:=5) wN.nd rfl oR (bD G_law_table hr aN (ak (aF 4) aA)))
  (az (gR (i:=6) wN.nd rfl oR (Uk Glook hr aN (ak (aF 4) aA)))
  (az (dg (Bj (qH (lD (iy (Vz G_law_is_table hr aN (aO (ao 6) aY)))) (vD (bO (pG hu) (ao 6) (ao 5) (bB _)))))
  (aD (bW rB))
  bA)
  (az (bK (i:=7) wN.nd rfl oR (bD G_law_game hr aN (ak (aG bM (aq (qU (ao 0) (oW (aq aC)) (oW (aq aC)))) (aq (lg (fU (ak (bD G_law_cell_at hr aN (ak (aF 0) (ak aC aA))) aA))))) (ak (aG dC (ao 2) (aq aC)) (ak aC (ak aC (ak (lg (Vt (ao 1) (oW (aq (Ai rH (aq aC)))))) aA)))))))
  (az (dg (Bj (qH (bO (pG hu) (aq (bD Glook hr aN (ak (aF 7) aA))) (aq (bD G_law_table hr aN (ak (aF 7) aA))) (bB _)) (vD (bO (pG hu) (ao 6) (ao 5) (bB _)))))
  (aD (bW rB))
  bA)
  (az (Ol 6)
  (aD (bW (tZ (gU hu) (aq (bD Glook hr aN (ak (aF 4) aA))) (ao 5) (bB _))))))))))))))
open PySem L2 Hd F Pk
local macro_rules | `(tactic| walk_at "b1")=>`(tactic| exact fun _ _ _ _ _ _ us hl=>(xl1 hl).elim fun a e=>by subst e; rfl)
local macro_rules | `(tactic| walk_at "b2")=>`(tactic| exact fun _ _ _ _ _ _ us hl=>by obtain ⟨a,b,e⟩:=xl2 hl; subst e; rfl)
local macro_rules | `(tactic| walk_at "b3")=>`(tactic| exact fun _ _ _ _ _ _ us hl=>by obtain ⟨a,b,c,e⟩:=xl3 hl; subst e; rfl)
local macro_rules | `(tactic| walk_at "b4")=>`(tactic| exact fun _ _ _ _ _ _ us hl=>by obtain ⟨a,b,c,d,e⟩:=xl4 hl; subst e; rfl)
theorem Yj {K:W.Frag}{mg:Str->Option Value}{x:Str}{st:Stmt}{ps:List Str}{f:Addr}{oc:Value}{od an:Option Addr}{osl:Array (Option Value)}{kV doc pm cdv ct:Value}(l:K.lookup f=some ⟨oc,od,.func (W.fnOf x x (lZ st) (iU st) (aH st) .none kV doc pm an cdv ct),osl⟩)
  (c:W.codeIn K cdv x=true) (k:W.keepIn K (.ref f)=true) (m:mg x=some (.ref f)) (hb:∀(kV doc pm:Value) (an:Option Addr) (cdv ct:Value) (us:List Value),us.length=ps.length->bindArgs (W.fnOf x x (lZ st) (iU st) (aH st) .none kV doc pm an cdv ct) ⟨us,[]⟩=pure (ps.zip us)):Df K mg x st ps:=
 let F:=M8 (st:=st) l c k
 ⟨f,_,F,F.binds hb,m⟩
noncomputable abbrev DfK (K:W.Frag)(x:Str)(st:Stmt):Prop:=∃(f:Addr) (oc:Value) (od an:Option Addr) (osl:Array (Option Value)) (kV doc pm cdv ct:Value),W.nsIn K mainGlobals x=some (some (.ref f))/\K.lookup f=some ⟨oc,od,.func (W.fnOf x x (lZ st) (iU st) (aH st) .none kV doc pm an cdv ct),osl⟩/\W.codeIn K cdv x=true/\W.keepIn K (.ref f)=true
theorem gm {K:W.Frag}{h:Heap}{mg:Str->Option Value}{x:Str}{st:Stmt}{ps:List Str}(X:K.In h)(G:h.Ns mainGlobals mg)(d:DfK K x st)(hb:∀(kV doc pm:Value) (an:Option Addr) (cdv ct:Value) (us:List Value),us.length=ps.length->bindArgs (W.fnOf x x (lZ st) (iU st) (aH st) .none kV doc pm an cdv ct) ⟨us,[]⟩=pure (ps.zip us)):Df K mg x st ps:=by
 obtain ⟨f,_,_,_,_,_,_,_,_,_,a,l,c,k⟩:=d
 exact Yj l c k (W.mg_of X G a) hb
theorem all_mk {l:PySem.W.OpenLaw}{w:World}{K:W.Frag}{h:Heap}{mg:Str->Option Value}{fa f39:Addr}(X:K.In h)(G:h.Ns mainGlobals mg)(hfa:mg "law" = some (.ref fa))
  (d0:DfK K "common_divisor" lq)
  (d1:DfK K "lowest" zb)
  (d2:DfK K "plus" GC)
  (d3:DfK K "under" Be)
  (d4:DfK K "total" Dd)
  (d5:DfK K "branches_of" lL)
  (d6:DfK K "places_of" oJ)
  (d7:DfK K "words_at" qu)
  (d8:DfK K "records_behind" lA)
  (d9:DfK K "places_with_records" gY)
  (d10:DfK K "row_at" yh)
  (d11:DfK K "table_of" tR)
  (d12:DfK K "rows_of" rM)
  (d13:DfK K "count_words" lV)
  (d14:DfK K "fractions_at" j0)
  (d15:DfK K "is_great" sY)
  (d16:DfK K "refuse_great_places" eF)
  (d17:DfK K "refuse_great_table" iB)
  (d18:DfK K "refuse_great_shape" ir)
  (d19:DfK K "refuse_great_fractions" dh)
  (d20:DfK K "are_shares" ni)
  (d21:DfK K "refuse_other_row" jx)
  (d22:DfK K "refuse_unsound" kZ)
  (d23:DfK K "look" Hl)
  (d24:DfK K "_law_cell_at" nR)
  (d25:DfK K "_law_lowest" pF)
  (d26:DfK K "_law_pool" mH)
  (d27:DfK K "_law_stake" qm)
  (d28:DfK K "_law_shares" lX)
  (d29:DfK K "_law_mix" tU)
  (d30:DfK K "_law_name_number" jA)
  (d31:DfK K "_law_move" rC)
  (d32:DfK K "_law_built" qi)
  (d33:DfK K "_law_game" qX)
  (d34:DfK K "_law_places" lY)
  (d35:DfK K "_law_table" nq)
  (d36:DfK K "_law_is_text" nO)
  (d37:DfK K "_law_is_record" lz)
  (d38:DfK K "_law_is_table" jk)
  {od39 an39:Option Addr} {sl39:Array (Option Value)} {oc39 kV39 dc39 pm39 cd39 ct39:Value}
  (a39:W.nsIn K mainGlobals "law" = some (some (.ref f39))) (l39:K.lookup f39=some ⟨oc39,od39,.func (W.fnOf "law" "law" (lZ uY) (iU uY) (aH uY) .none kV39 dc39 pm39 an39 cd39 ct39),sl39⟩) (c39:W.codeIn K cd39 "law" = true) (k39:W.keepIn K (.ref f39)=true)
  (zValueError:W.nsIn K mainGlobals "ValueError" = some none)
  (zabs:W.nsIn K mainGlobals "abs" = some none)
  (zall:W.nsIn K mainGlobals "all" = some none)
  (zany:W.nsIn K mainGlobals "any" = some none)
  (zbool:W.nsIn K mainGlobals "bool" = some none)
  (zenumerate:W.nsIn K mainGlobals "enumerate" = some none)
  (zint:W.nsIn K mainGlobals "int" = some none)
  (zisinstance:W.nsIn K mainGlobals "isinstance" = some none)
  (zlen:W.nsIn K mainGlobals "len" = some none)
  (zlist:W.nsIn K mainGlobals "list" = some none)
  (zrange:W.nsIn K mainGlobals "range" = some none)
  (zreversed:W.nsIn K mainGlobals "reversed" = some none)
  (zstr:W.nsIn K mainGlobals "str" = some none)
  (zsum:W.nsIn K mainGlobals "sum" = some none)
  (ztuple:W.nsIn K mainGlobals "tuple" = some none)
  {CNOUGHT:Addr} (nNOUGHT:W.nsIn K mainGlobals "NOUGHT" = some (some (.ref CNOUGHT)))
  {odNOUGHT:Option Addr} {nnNOUGHT:Nat} {slNOUGHT:Array (Option Value)} {tNOUGHT0 tNOUGHT1:Tok} (vNOUGHT:K.lookup CNOUGHT=some ⟨.type "tuple",odNOUGHT,.seq #[.int 0 tNOUGHT0,.int 1 tNOUGHT1] nnNOUGHT,slNOUGHT⟩)
  {CONE:Addr} (nONE:W.nsIn K mainGlobals "ONE" = some (some (.ref CONE)))
  {odONE:Option Addr} {nnONE:Nat} {slONE:Array (Option Value)} {tONE0 tONE1:Tok} (vONE:K.lookup CONE=some ⟨.type "tuple",odONE,.seq #[.int 1 tONE0,.int 1 tONE1] nnONE,slONE⟩)
  {tMOST_PLACES:Tok} (nMOST_PLACES:W.nsIn K mainGlobals "MOST_PLACES" = some (some (.int 64 tMOST_PLACES)))
  {tMOST_BRANCHES:Tok} (nMOST_BRANCHES:W.nsIn K mainGlobals "MOST_BRANCHES" = some (some (.int 12 tMOST_BRANCHES)))
  {tMOST_NAMES:Tok} (nMOST_NAMES:W.nsIn K mainGlobals "MOST_NAMES" = some (some (.int 8 tMOST_NAMES)))
  {tMOST_WORDS_SEEN:Tok} (nMOST_WORDS_SEEN:W.nsIn K mainGlobals "MOST_WORDS_SEEN" = some (some (.int 24 tMOST_WORDS_SEEN)))
  {tGREATEST_TOP:Tok} (nGREATEST_TOP:W.nsIn K mainGlobals "GREATEST_TOP" = some (some (.int 999999999999 tGREATEST_TOP)))
  {tGREATEST_BOTTOM:Tok} (nGREATEST_BOTTOM:W.nsIn K mainGlobals "GREATEST_BOTTOM" = some (some (.int 999 tGREATEST_BOTTOM)))
  : ∃fd:FuncData,(∀(s:Shared) (v:Value),BindsTo s fd ⟨[v],[]⟩ [("_law_script",v)])/\∀base:Heap,K.In base->base.Ns mainGlobals mg->cT l.prog w K mg base (CX1 l.prog w) 30 fa fd ["_law_script"] (IV K):=by
 have e:=hfa.symm.trans (W.mg_of X G a39)
 cases e
 have D0:=gm (ps:=["first", "second"]) X G d0 (by walk_at "b2")
 have D1:=gm (ps:=["top", "bottom"]) X G d1 (by walk_at "b2")
 have D2:=gm (ps:=["first", "second"]) X G d2 (by walk_at "b2")
 have D3:=gm (ps:=["first", "second"]) X G d3 (by walk_at "b2")
 have D4:=gm (ps:=["some"]) X G d4 (by walk_at "b1")
 have D5:=gm (ps:=["game"]) X G d5 (by walk_at "b1")
 have D6:=gm (ps:=["game"]) X G d6 (by walk_at "b1")
 have D7:=gm (ps:=["move"]) X G d7 (by walk_at "b1")
 have D8:=gm (ps:=["place", "records", "number"]) X G d8 (by walk_at "b3")
 have D9:=gm (ps:=["game"]) X G d9 (by walk_at "b1")
 have D10:=gm (ps:=["move", "records"]) X G d10 (by walk_at "b2")
 have D11:=gm (ps:=["game"]) X G d11 (by walk_at "b1")
 have D12:=gm (ps:=["game", "side"]) X G d12 (by walk_at "b2")
 have D13:=gm (ps:=["rows"]) X G d13 (by walk_at "b1")
 have D14:=gm (ps:=["place"]) X G d14 (by walk_at "b1")
 have D15:=gm (ps:=["fraction"]) X G d15 (by walk_at "b1")
 have D16:=gm (ps:=["game"]) X G d16 (by walk_at "b1")
 have D17:=gm (ps:=["game"]) X G d17 (by walk_at "b1")
 have D18:=gm (ps:=["game"]) X G d18 (by walk_at "b1")
 have D19:=gm (ps:=["game"]) X G d19 (by walk_at "b1")
 have D20:=gm (ps:=["shares"]) X G d20 (by walk_at "b1")
 have D21:=gm (ps:=["way", "row", "first_way", "first_row"]) X G d21 (by walk_at "b4")
 have D22:=gm (ps:=["game"]) X G d22 (by walk_at "b1")
 have D23:=gm (ps:=["game"]) X G d23 (by walk_at "b1")
 have D24:=gm (ps:=["_law_script", "_law_k"]) X G d24 (by walk_at "b2")
 have D25:=gm (ps:=["_law_top", "_law_bottom"]) X G d25 (by walk_at "b2")
 have D26:=gm (ps:=["_law_cell", "_law_turn"]) X G d26 (by walk_at "b2")
 have D27:=gm (ps:=["_law_number"]) X G d27 (by walk_at "b1")
 have D28:=gm (ps:=["_law_number", "_law_many"]) X G d28 (by walk_at "b2")
 have D29:=gm (ps:=["_law_cell", "_law_k"]) X G d29 (by walk_at "b2")
 have D30:=gm (ps:=["_law_state", "_law_side", "_law_record", "_law_many", "_law_bit"]) X G d30 (fun _ _ _ _ _ _ us hl=>match us,hl with | [_,_,_,_,_],_=>rfl)
 have D31:=gm (ps:=["_law_cells", "_law_state", "_law_depth", "_law_records", "_law_draw"]) X G d31 (fun _ _ _ _ _ _ us hl=>match us,hl with | [_,_,_,_,_],_=>rfl)
 have D32:=gm (ps:=["_law_cells", "_law_state", "_law_depth", "_law_records"]) X G d32 (by walk_at "b4")
 have D33:=gm (ps:=["_law_cells", "_law_turn", "_law_depth", "_law_room", "_law_pool_here"]) X G d33 (fun _ _ _ _ _ _ us hl=>match us,hl with | [_,_,_,_,_],_=>rfl)
 have D34:=gm (ps:=["_law_game_here"]) X G d34 (by walk_at "b1")
 have D35:=gm (ps:=["_law_game_here"]) X G d35 (by walk_at "b1")
 have D36:=gm (ps:=["_law_found"]) X G d36 (by walk_at "b1")
 have D37:=gm (ps:=["_law_found"]) X G d37 (by walk_at "b1")
 have D38:=gm (ps:=["_law_found"]) X G d38 (by walk_at "b1")
 have B:Bt mg:=⟨W.mg_none_of X G zValueError,W.mg_none_of X G zabs,W.mg_none_of X G zall,W.mg_none_of X G zany,W.mg_none_of X G zbool,W.mg_none_of X G zenumerate,W.mg_none_of X G zint,W.mg_none_of X G zisinstance,W.mg_none_of X G zlen,W.mg_none_of X G zlist,W.mg_none_of X G zrange,W.mg_none_of X G zreversed,W.mg_none_of X G zstr,W.mg_none_of X G zsum,W.mg_none_of X G ztuple⟩
 have Cn:CnT K mg:=⟨⟨.ref CNOUGHT,_,W.mg_of X G nNOUGHT,rfl,fun _ _=>.tup (xs:=[.int 0,.int 1]) (.inr ⟨_,_,_,vNOUGHT,rfl,rfl,(show 2<=sizeLine by decide),(.cons ⟨tNOUGHT0,rfl⟩ (.cons ⟨tNOUGHT1,rfl⟩ .nil))⟩) (.cons (.int 0) (.cons (.int 1) .nil))⟩,⟨.ref CONE,_,W.mg_of X G nONE,rfl,fun _ _=>.tup (xs:=[.int 1,.int 1]) (.inr ⟨_,_,_,vONE,rfl,rfl,(show 2<=sizeLine by decide),(.cons ⟨tONE0,rfl⟩ (.cons ⟨tONE1,rfl⟩ .nil))⟩) (.cons (.int 1) (.cons (.int 1) .nil))⟩,⟨.int 64,_,W.mg_of X G nMOST_PLACES,⟨tMOST_PLACES,rfl⟩,fun _ _=>.int 64⟩,⟨.int 12,_,W.mg_of X G nMOST_BRANCHES,⟨tMOST_BRANCHES,rfl⟩,fun _ _=>.int 12⟩,⟨.int 8,_,W.mg_of X G nMOST_NAMES,⟨tMOST_NAMES,rfl⟩,fun _ _=>.int 8⟩,⟨.int 24,_,W.mg_of X G nMOST_WORDS_SEEN,⟨tMOST_WORDS_SEEN,rfl⟩,fun _ _=>.int 24⟩,⟨.int 999999999999,_,W.mg_of X G nGREATEST_TOP,⟨tGREATEST_TOP,rfl⟩,fun _ _=>.int 999999999999⟩,⟨.int 999,_,W.mg_of X G nGREATEST_BOTTOM,⟨tGREATEST_BOTTOM,rfl⟩,fun _ _=>.int 999⟩⟩
 refine ⟨W.fnOf "law" "law" (lZ uY) (iU uY) (aH uY) .none kV39 dc39 pm39 an39 cd39 ct39,fun s v=>.of_eq rfl,fun base kb nb=>?_⟩
 have Gcommon_divisor:=D0.fn (P:=l.prog) (w:=w) (base:=base) fun f fd F=>uG B F
 have Glowest:=D1.fn (P:=l.prog) (w:=w) (base:=base) fun f fd F=>K4 B F Gcommon_divisor
 have Gplus:=D2.fn (P:=l.prog) (w:=w) (base:=base) fun f fd F=>RZ B F Glowest
 have Gunder:=D3.fn (P:=l.prog) (w:=w) (base:=base) fun f fd F=>Qe B F
 have Gtotal:=D4.fn (P:=l.prog) (w:=w) (base:=base) fun f fd F=>Qw B Cn F Gplus
 have Gbranches_of:=D5.fn (P:=l.prog) (w:=w) (base:=base) fun f fd F=>yD B F
 have Gplaces_of:=D6.fn (P:=l.prog) (w:=w) (base:=base) fun f fd F=>Av B F Gbranches_of
 have Gwords_at:=D7.fn (P:=l.prog) (w:=w) (base:=base) fun f fd F=>Ge B F
 have Grecords_behind:=D8.fn (P:=l.prog) (w:=w) (base:=base) fun f fd F=>uC B F
 have Gplaces_with_records:=D9.fn (P:=l.prog) (w:=w) (base:=base) fun f fd F=>pY B F Gbranches_of Gplaces_of Grecords_behind
 have Grow_at:=D10.fn (P:=l.prog) (w:=w) (base:=base) fun f fd F=>LQ B F Gwords_at
 have Gtable_of:=D11.fn (P:=l.prog) (w:=w) (base:=base) fun f fd F=>Fo B F Gplaces_with_records Grow_at
 have Grows_of:=D12.fn (P:=l.prog) (w:=w) (base:=base) fun f fd F=>HD B F Gtable_of
 have Gcount_words:=D13.fn (P:=l.prog) (w:=w) (base:=base) fun f fd F=>yF B F
 have Gfractions_at:=D14.fn (P:=l.prog) (w:=w) (base:=base) fun f fd F=>xm B F
 have Gis_great:=D15.fn (P:=l.prog) (w:=w) (base:=base) fun f fd F=>Fx B Cn F
 have Grefuse_great_places:=D16.fn (P:=l.prog) (w:=w) (base:=base) fun f fd F=>qd B Cn F Gplaces_of
 have Grefuse_great_table:=D17.fn (P:=l.prog) (w:=w) (base:=base) fun f fd F=>qJ B Cn F Grows_of Gcount_words
 have Grefuse_great_shape:=D18.fn (P:=l.prog) (w:=w) (base:=base) fun f fd F=>qK B F Grefuse_great_places Grefuse_great_table
 have Grefuse_great_fractions:=D19.fn (P:=l.prog) (w:=w) (base:=base) fun f fd F=>oE B F Gplaces_of Gfractions_at Gis_great
 have Gare_shares:=D20.fn (P:=l.prog) (w:=w) (base:=base) fun f fd F=>zL B Cn F Gunder Gtotal
 have Grefuse_other_row:=D21.fn (P:=l.prog) (w:=w) (base:=base) fun f fd F=>su B F
 have Grefuse_unsound:=D22.fn (P:=l.prog) (w:=w) (base:=base) fun f fd F=>uB B F Gplaces_with_records Grow_at Gfractions_at Gare_shares Grefuse_other_row
 have Glook:=D23.fn (P:=l.prog) (w:=w) (base:=base) fun f fd F=>SX B F Gtable_of Grefuse_great_shape Grefuse_great_fractions Grefuse_unsound
 have G_law_cell_at:=D24.fn (P:=l.prog) (w:=w) (base:=base) fun f fd F=>xj B F
 have G_law_lowest:=D25.fn (P:=l.prog) (w:=w) (base:=base) fun f fd F=>zm B F
 have G_law_pool:=D26.fn (P:=l.prog) (w:=w) (base:=base) fun f fd F=>Bd B F
 have G_law_stake:=D27.fn (P:=l.prog) (w:=w) (base:=base) fun f fd F=>zG B F G_law_lowest
 have G_law_shares:=D28.fn (P:=l.prog) (w:=w) (base:=base) fun f fd F=>yM B F G_law_lowest
 have G_law_mix:=D29.fn (P:=l.prog) (w:=w) (base:=base) fun f fd F=>Eu B F
 have G_law_name_number:=D30.fn (P:=l.prog) (w:=w) (base:=base) fun f fd F=>sy B F
 have G_law_built:∀n:Nat,FST l.prog w K mg base (2+2 * n) "_law_built" ["_law_cells", "_law_state", "_law_depth", "_law_records"] 1 (aU n):=by
  intro n
  induction n with
  |zero=>exact D32.fn fun f fd F=>Xu
  |succ n ih=>
   have GM:FST l.prog w K mg base (2+2 * n+1) "_law_move" ["_law_cells", "_law_state", "_law_depth", "_law_records", "_law_draw"] 1 (mC (aU n)):=D31.fn fun f fd F=>BV B F G_law_stake G_law_name_number (2+2 * n) (by omega) _ ih
   exact D32.fn fun f fd F=>zJ B F G_law_stake G_law_shares G_law_mix n ih GM
 have G_law_game:=D33.fn (P:=l.prog) (w:=w) (base:=base) fun f fd F=>BX B F (G_law_built 13)
 have G_law_places:=D34.fn (P:=l.prog) (w:=w) (base:=base) fun f fd F=>ye B F
 have G_law_table:=D35.fn (P:=l.prog) (w:=w) (base:=base) fun f fd F=>zO B F G_law_places
 have G_law_is_text:=D36.fn (P:=l.prog) (w:=w) (base:=base) fun f fd F=>wY B F
 have G_law_is_record:=D37.fn (P:=l.prog) (w:=w) (base:=base) fun f fd F=>uz B F G_law_is_text
 have G_law_is_table:=D38.fn (P:=l.prog) (w:=w) (base:=base) fun f fd F=>vQ B F G_law_is_text G_law_is_record
 have F:=M8 (st:=uY) l39 c39 k39
 exact Q0 Qo (Vn B F Glook G_law_cell_at G_law_pool G_law_game G_law_table G_law_is_table)
theorem walk {l:PySem.W.OpenLaw}{q:Program}{loose:List Str}{XP:(Str->Option Value)->Heap->Prop}{YP:World->Heap->Prop}{d:DefRec}{K:Params->W.Frag}(hn:l.most=some 63)(hdf:d.params.defaults=[])
  (hY:∀(w:World) (h:Heap),YP w h->(K w.params).In h)
  (F:∀(w:World) (mg:Str->Option Value) (fa:Addr) (h:Heap),(K w.params).In h->h.Ns mainGlobals mg->mg d.name=some (.ref fa)->
   ∃fd:FuncData,(∀(s:Shared) (u:Value),BindsTo s fd ⟨[u],[]⟩ [("_law_script",u)])/\∀base:Heap,(K w.params).In base->base.Ns mainGlobals mg->cT l.prog w (K w.params) mg base (CX1 l.prog w) 30 fa fd ["_law_script"] (IV (K w.params))):
  PySem.W.WalkO q loose XP YP l.row.toRowW d [] (fun f vs=>PySem.call f vs):=
 L2.T5 (n:=63) (k:=30) (x:="_law_script") (CX:=fun w=>CX1 l.prog w) (sp:=fun w=>IV (K w.params)) hn (by decide) hdf ⟨rfl,by decide,by decide,rfl⟩ hY F (fun _ _ a ns hl _ hS=>⟨a,ns,rfl,hS,hl,fun _=>rfl⟩) fun _ _ _ _ _ ⟨_,_,_,_,_,_,z⟩=>z.elim
end K13
namespace PySem.W.Fast
theorem tw10113510370696415977:True:=⟨⟩
theorem tw1013586091398316417:True:=⟨⟩
theorem tw10380463741054396575:True:=⟨⟩
theorem tw10416965372138054675:True:=⟨⟩
theorem tw10587751556059370855:True:=⟨⟩
theorem tw10640150450276998167:True:=⟨⟩
theorem tw10742444821454607128:True:=⟨⟩
theorem tw1075902682322450237:True:=⟨⟩
theorem tw10858992546575431868:True:=⟨⟩
theorem tw10860398616603448659:True:=⟨⟩
theorem tw1086671688039047988:True:=⟨⟩
theorem tw10971965727904378994:True:=⟨⟩
theorem tw11033379325654553466:True:=⟨⟩
theorem tw11033494654916679271:True:=⟨⟩
theorem tw11070306137058102212:True:=⟨⟩
theorem tw11123714551783921943:True:=⟨⟩
theorem tw11124747803237797551:True:=⟨⟩
theorem tw11137832700222555154:True:=⟨⟩
theorem tw11164461052533382794:True:=⟨⟩
theorem tw11168524587595732172:True:=⟨⟩
theorem tw11360328271125620107:True:=⟨⟩
theorem tw11472128646343123586:True:=⟨⟩
theorem tw11489321355528806762:True:=⟨⟩
theorem tw11558003935515861207:True:=⟨⟩
theorem tw11588245880301448626:True:=⟨⟩
theorem tw11621456808152818258:True:=⟨⟩
theorem tw11793301625574875095:True:=⟨⟩
theorem tw11819654891564768133:True:=⟨⟩
theorem tw11863575786352578820:True:=⟨⟩
theorem tw11930469396606036010:True:=⟨⟩
theorem tw11932897666101911244:True:=⟨⟩
theorem tw11978294144477529632:True:=⟨⟩
theorem tw12065570892195897596:True:=⟨⟩
theorem tw12100904940101303071:True:=⟨⟩
theorem tw12111080374211554637:True:=⟨⟩
theorem tw12117842978304803338:True:=⟨⟩
theorem tw12128314591713673782:True:=⟨⟩
theorem tw12149120932087961692:True:=⟨⟩
theorem tw12212465700719809698:True:=⟨⟩
theorem tw12222881302057537690:True:=⟨⟩
theorem tw12234928994829490179:True:=⟨⟩
theorem tw12245497133138841047:True:=⟨⟩
theorem tw12299130186611786832:True:=⟨⟩
theorem tw12316709444119744495:True:=⟨⟩
theorem tw12319471507791688580:True:=⟨⟩
theorem tw12355007022676235942:True:=⟨⟩
theorem tw12394569798126308051:True:=⟨⟩
theorem tw12453163789502210076:True:=⟨⟩
theorem tw12574149758525505576:True:=⟨⟩
theorem tw12595139769677512906:True:=⟨⟩
theorem tw12644156196084729667:True:=⟨⟩
theorem tw12653727564763730424:True:=⟨⟩
theorem tw12656979718185805362:True:=⟨⟩
theorem tw12695033840372538863:True:=⟨⟩
theorem tw12724615408119028552:True:=⟨⟩
theorem tw1279639999244499676:True:=⟨⟩
theorem tw12832327677967377965:True:=⟨⟩
theorem tw12853577706887147993:True:=⟨⟩
theorem tw12956550487562632427:True:=⟨⟩
theorem tw12967221404249289897:True:=⟨⟩
theorem tw13009663219778890336:True:=⟨⟩
theorem tw13193261374407931518:True:=⟨⟩
theorem tw13237805631446393809:True:=⟨⟩
theorem tw13252194264420910290:True:=⟨⟩
theorem tw13318298354183110651:True:=⟨⟩
theorem tw13326111953789479813:True:=⟨⟩
theorem tw13364785333081303038:True:=⟨⟩
theorem tw13365764802951024791:True:=⟨⟩
theorem tw13385687704790680033:True:=⟨⟩
theorem tw13399333949268390073:True:=⟨⟩
theorem tw134306433717212412:True:=⟨⟩
theorem tw13559312423059662812:True:=⟨⟩
theorem tw13571538167775595582:True:=⟨⟩
theorem tw13579600236559964721:True:=⟨⟩
theorem tw135796729096706788:True:=⟨⟩
theorem tw13597192782552652513:True:=⟨⟩
theorem tw13752345773543687310:True:=⟨⟩
theorem tw13754778030605858169:True:=⟨⟩
theorem tw13780445899450936974:True:=⟨⟩
theorem tw13796809351078883489:True:=⟨⟩
theorem tw13840973927415682416:True:=⟨⟩
theorem tw13911669986983740466:True:=⟨⟩
theorem tw13934145269963565639:True:=⟨⟩
theorem tw14080019400219274050:True:=⟨⟩
theorem tw14087093295237045335:True:=⟨⟩
theorem tw14184461037412055069:True:=⟨⟩
theorem tw1418951777248315305:True:=⟨⟩
theorem tw14238626349039836417:True:=⟨⟩
theorem tw14241675786244308498:True:=⟨⟩
theorem tw14343290408708991773:True:=⟨⟩
theorem tw14366578925796827894:True:=⟨⟩
theorem tw14370477444085479965:True:=⟨⟩
theorem tw14402908415060845561:True:=⟨⟩
theorem tw14419911808056502791:True:=⟨⟩
theorem tw14440932925171341452:True:=⟨⟩
theorem tw14508410752824648092:True:=⟨⟩
theorem tw14594472560199944907:True:=⟨⟩
theorem tw1460234331853160189:True:=⟨⟩
theorem tw14692382962020922832:True:=⟨⟩
theorem tw147361967664948217:True:=⟨⟩
theorem tw14766514285952850894:True:=⟨⟩
theorem tw14797115263489704925:True:=⟨⟩
theorem tw1490837923547110080:True:=⟨⟩
theorem tw14926586734682579123:True:=⟨⟩
theorem tw14961974975798063767:True:=⟨⟩
theorem tw15004062379134499631:True:=⟨⟩
theorem tw15117801708069451460:True:=⟨⟩
theorem tw15329267164546641844:True:=⟨⟩
theorem tw15371559780304964692:True:=⟨⟩
theorem tw15400908991841102217:True:=⟨⟩
theorem tw15406544799701125864:True:=⟨⟩
theorem tw15406801619418354449:True:=⟨⟩
theorem tw15542729346733560645:True:=⟨⟩
theorem tw15590849856648168065:True:=⟨⟩
theorem tw15617928293488638199:True:=⟨⟩
theorem tw15643896684545997974:True:=⟨⟩
theorem tw15755965751746392356:True:=⟨⟩
theorem tw15797198219396839415:True:=⟨⟩
theorem tw15823277800045515548:True:=⟨⟩
theorem tw15864446579944087439:True:=⟨⟩
theorem tw15926240187158698828:True:=⟨⟩
theorem tw16019357092951809710:True:=⟨⟩
theorem tw16021245632339340268:True:=⟨⟩
theorem tw1610216754984079587:True:=⟨⟩
theorem tw16152874763297649865:True:=⟨⟩
theorem tw16179471495810464232:True:=⟨⟩
theorem tw16195687042167327925:True:=⟨⟩
theorem tw16297466119638812267:True:=⟨⟩
theorem tw16340603519688523608:True:=⟨⟩
theorem tw16360295682764437260:True:=⟨⟩
theorem tw16449641998737998514:True:=⟨⟩
theorem tw16536607734573330954:True:=⟨⟩
theorem tw16558848524923532822:True:=⟨⟩
theorem tw1660151502771618950:True:=⟨⟩
theorem tw16665202134687013840:True:=⟨⟩
theorem tw16680567505527552273:True:=⟨⟩
theorem tw16749062283612469162:True:=⟨⟩
theorem tw16787030217214251289:True:=⟨⟩
theorem tw16914702589253705501:True:=⟨⟩
theorem tw1692715328883452120:True:=⟨⟩
theorem tw16960442265755194042:True:=⟨⟩
theorem tw16961952987013811700:True:=⟨⟩
theorem tw17118228299779017784:True:=⟨⟩
theorem tw17147176952693989212:True:=⟨⟩
theorem tw17164087225120754481:True:=⟨⟩
theorem tw17295408552382380126:True:=⟨⟩
theorem tw17323076231378921350:True:=⟨⟩
theorem tw17327015863850973997:True:=⟨⟩
theorem tw17352819563152620146:True:=⟨⟩
theorem tw17430827797970339829:True:=⟨⟩
theorem tw17476485825742956734:True:=⟨⟩
theorem tw17542230119649346339:True:=⟨⟩
theorem tw17645890641271639451:True:=⟨⟩
theorem tw17667623762131628478:True:=⟨⟩
theorem tw17691957022816389610:True:=⟨⟩
theorem tw17711866388317637517:True:=⟨⟩
theorem tw17722481137115735576:True:=⟨⟩
theorem tw17738282722136034107:True:=⟨⟩
theorem tw17783506530104849225:True:=⟨⟩
theorem tw17869340881785007776:True:=⟨⟩
theorem tw1790195932565932893:True:=⟨⟩
theorem tw17968349625556982708:True:=⟨⟩
theorem tw18086142402499382990:True:=⟨⟩
theorem tw18181900404507453749:True:=⟨⟩
theorem tw1825056501770946464:True:=⟨⟩
theorem tw18290361170441583761:True:=⟨⟩
theorem tw18315309522841334371:True:=⟨⟩
theorem tw18355769030756452698:True:=⟨⟩
theorem tw18387414969819931705:True:=⟨⟩
theorem tw18425332246630835408:True:=⟨⟩
theorem tw1863055163636421584:True:=⟨⟩
theorem tw1909068757273643614:True:=⟨⟩
theorem tw1963406257139815952:True:=⟨⟩
theorem tw2024213636096211968:True:=⟨⟩
theorem tw2089607920788427880:True:=⟨⟩
theorem tw2127820541420495440:True:=⟨⟩
theorem tw2165232389205196463:True:=⟨⟩
theorem tw2202465415093443729:True:=⟨⟩
theorem tw2229070027562825473:True:=⟨⟩
theorem tw2309154236294485960:True:=⟨⟩
theorem tw2433015297196506920:True:=⟨⟩
theorem tw2605965895731727663:True:=⟨⟩
theorem tw2633166901987216793:True:=⟨⟩
theorem tw2808687656288755507:True:=⟨⟩
theorem tw2819476829026817195:True:=⟨⟩
theorem tw2842496412025196055:True:=⟨⟩
theorem tw2873292103149762764:True:=⟨⟩
theorem tw3021407897590672946:True:=⟨⟩
theorem tw3022914964502432368:True:=⟨⟩
theorem tw3045339514437265417:True:=⟨⟩
theorem tw3107173438599044123:True:=⟨⟩
theorem tw311225412793120677:True:=⟨⟩
theorem tw3129471207139621689:True:=⟨⟩
theorem tw3144398161689732300:True:=⟨⟩
theorem tw3163949382872597321:True:=⟨⟩
theorem tw3200024808002754470:True:=⟨⟩
theorem tw3204244050101434832:True:=⟨⟩
theorem tw3307675542164596575:True:=⟨⟩
theorem tw3369080738135420418:True:=⟨⟩
theorem tw3375276364442352017:True:=⟨⟩
theorem tw3410474411492803498:True:=⟨⟩
theorem tw3417380498695191619:True:=⟨⟩
theorem tw3673237082739628841:True:=⟨⟩
theorem tw3730891708547610258:True:=⟨⟩
theorem tw3768836986551299996:True:=⟨⟩
theorem tw3887720131416035638:True:=⟨⟩
theorem tw3899392770232026904:True:=⟨⟩
theorem tw3961190910654294206:True:=⟨⟩
theorem tw3987315769907960313:True:=⟨⟩
theorem tw4020862080391160544:True:=⟨⟩
theorem tw403513096724064029:True:=⟨⟩
theorem tw4083997374461089585:True:=⟨⟩
theorem tw4100157604744108018:True:=⟨⟩
theorem tw4270863306740122263:True:=⟨⟩
theorem tw4292822509548691169:True:=⟨⟩
theorem tw437016024571904685:True:=⟨⟩
theorem tw437967950616103421:True:=⟨⟩
theorem tw4453595986719825065:True:=⟨⟩
theorem tw4526405121231994263:True:=⟨⟩
theorem tw4583769027605337163:True:=⟨⟩
theorem tw4587550722137182249:True:=⟨⟩
theorem tw4689619267403436028:True:=⟨⟩
theorem tw4704808060344028700:True:=⟨⟩
theorem tw4727815790552390764:True:=⟨⟩
theorem tw4782190671367390725:True:=⟨⟩
theorem tw4800654422931675016:True:=⟨⟩
theorem tw4887774163276591224:True:=⟨⟩
theorem tw4937171105624514604:True:=⟨⟩
theorem tw508916652257384996:True:=⟨⟩
theorem tw5264787225217392736:True:=⟨⟩
theorem tw5334248462445583636:True:=⟨⟩
theorem tw5352360220442210135:True:=⟨⟩
theorem tw5353017117020972141:True:=⟨⟩
theorem tw5365043176278352856:True:=⟨⟩
theorem tw55124527145663779:True:=⟨⟩
theorem tw5618474565254049489:True:=⟨⟩
theorem tw5848808075804309923:True:=⟨⟩
theorem tw587139929032517194:True:=⟨⟩
theorem tw5987448683478692248:True:=⟨⟩
theorem tw600190747681895113:True:=⟨⟩
theorem tw6035126023815838685:True:=⟨⟩
theorem tw6044448145483472337:True:=⟨⟩
theorem tw6099065405547412055:True:=⟨⟩
theorem tw6108800149878556737:True:=⟨⟩
theorem tw6154897284139158511:True:=⟨⟩
theorem tw6168433360294394031:True:=⟨⟩
theorem tw6241843468441404183:True:=⟨⟩
theorem tw6277840352945576384:True:=⟨⟩
theorem tw6385689140932774353:True:=⟨⟩
theorem tw6424294188868145331:True:=⟨⟩
theorem tw6433660688705105378:True:=⟨⟩
theorem tw6531641925643513145:True:=⟨⟩
theorem tw6593525225458084494:True:=⟨⟩
theorem tw6596774712531089538:True:=⟨⟩
theorem tw6610879718119667635:True:=⟨⟩
theorem tw6628338791688759130:True:=⟨⟩
theorem tw6731508961410566049:True:=⟨⟩
theorem tw6744836121333910723:True:=⟨⟩
theorem tw6749159219480233906:True:=⟨⟩
theorem tw6788166701063230459:True:=⟨⟩
theorem tw6801043011846015389:True:=⟨⟩
theorem tw6803975711088790435:True:=⟨⟩
theorem tw6838154502718750670:True:=⟨⟩
theorem tw6893608617948588458:True:=⟨⟩
theorem tw7039852160009437501:True:=⟨⟩
theorem tw7111118163594240383:True:=⟨⟩
theorem tw7237162731954037227:True:=⟨⟩
theorem tw7317109118369062067:True:=⟨⟩
theorem tw7328161305238191517:True:=⟨⟩
theorem tw7335723107165376599:True:=⟨⟩
theorem tw7409089744204303773:True:=⟨⟩
theorem tw7423659021858859318:True:=⟨⟩
theorem tw7463147493686312899:True:=⟨⟩
theorem tw7513165043521194471:True:=⟨⟩
theorem tw7576632194454132308:True:=⟨⟩
theorem tw7633866198608603428:True:=⟨⟩
theorem tw764711928308197966:True:=⟨⟩
theorem tw7726105905397863175:True:=⟨⟩
theorem tw7750419891109963066:True:=⟨⟩
theorem tw7756185942525792119:True:=⟨⟩
theorem tw7883283543615620810:True:=⟨⟩
theorem tw7886309633555524296:True:=⟨⟩
theorem tw8010405186841990620:True:=⟨⟩
theorem tw8016826015336544625:True:=⟨⟩
theorem tw8070115752114162518:True:=⟨⟩
theorem tw8131384523988429096:True:=⟨⟩
theorem tw8221597976369195389:True:=⟨⟩
theorem tw8239387665538882944:True:=⟨⟩
theorem tw8333139540358618464:True:=⟨⟩
theorem tw8348145967474396619:True:=⟨⟩
theorem tw8357557085670062367:True:=⟨⟩
theorem tw837228319244301583:True:=⟨⟩
theorem tw8372650761456465619:True:=⟨⟩
theorem tw8455588202753626327:True:=⟨⟩
theorem tw8461363217802946001:True:=⟨⟩
theorem tw8489713951491738015:True:=⟨⟩
theorem tw8532277702130694251:True:=⟨⟩
theorem tw854794691604327662:True:=⟨⟩
theorem tw8551688555331308771:True:=⟨⟩
theorem tw8561855019671874054:True:=⟨⟩
theorem tw8568409531073195071:True:=⟨⟩
theorem tw8596062783485963895:True:=⟨⟩
theorem tw8617822518370501511:True:=⟨⟩
theorem tw8643725741477131476:True:=⟨⟩
theorem tw8783832016621645845:True:=⟨⟩
theorem tw8793844522479840004:True:=⟨⟩
theorem tw883043639579060784:True:=⟨⟩
theorem tw8892515523094152552:True:=⟨⟩
theorem tw8945586017991674728:True:=⟨⟩
theorem tw9027528026450326749:True:=⟨⟩
theorem tw9036962411205259175:True:=⟨⟩
theorem tw9376825852901526390:True:=⟨⟩
theorem tw9386927156999464082:True:=⟨⟩
theorem tw9420550978322611121:True:=⟨⟩
theorem tw9446915262608267952:True:=⟨⟩
theorem tw9466271977993543704:True:=⟨⟩
theorem tw9504171014100392714:True:=⟨⟩
theorem tw954814534199559638:True:=⟨⟩
theorem tw9553429626170585573:True:=⟨⟩
theorem tw9702958509134306452:True:=⟨⟩
theorem tw9791884778563276741:True:=⟨⟩
theorem tw9800611184718689876:True:=⟨⟩
theorem tw9840207206875406425:True:=⟨⟩
theorem tw985505484641556706:True:=⟨⟩
theorem tw9874844075656375367:True:=⟨⟩
theorem tw9904840174421513478:True:=⟨⟩
theorem tw991212705396589542:True:=⟨⟩
theorem tw9959215082537661237:True:=⟨⟩
theorem tw9973104315531402797:True:=⟨⟩
end PySem.W.Fast
open PySem PySem.W PyProof.Rows
set_option maxRecDepth 100000 in
set_option maxHeartbeats 0 in
theorem PySem.Challenge.cw_hushduel_k13_tables_holds : PySem.Challenge.rw_hushduel_k13_tables.Holds := by
 w_on; o_law; k_head; (case hw=>w_witness2)
 k_fill
 refine K13.walk (l:=PySem.Challenge.rw_hushduel_k13_tables) rfl rfl (fun w h Y=>PySem.W.kIn_of Y) ?F
 case F=>
  intro w mg fa h KX G hmg
  refine' K13.all_mk KX G hmg ?_ ?_ ?_ ?_ ?_ ?_ ?_ ?_ ?_ ?_ ?_ ?_ ?_ ?_ ?_ ?_ ?_ ?_ ?_ ?_ ?_ ?_ ?_ ?_ ?_ ?_ ?_ ?_ ?_ ?_ ?_ ?_ ?_ ?_ ?_ ?_ ?_ ?_ ?_ ?_ ?_ ?_ ?_ ?_ ?_ ?_ ?_ ?_ ?_ ?_ ?_ ?_ ?_ ?_ ?_ ?_ ?_ ?_ ?_ ?_ ?_ ?_ ?_ ?_ ?_ ?_ ?_ ?_
  all_goals first | exact ⟨_,_,_,_,_,_,_,_,_,_,by k_is,by k_is,by k_is,by k_is⟩ | k_is | skip
