import PyProof.Rows.All
import Wide.All
import OpenK.AllK
import Wide.FinOn
import Lean
import PyProof.EqAt
import PyProof.EqKinds
import PyProof.TupleCall
import PyProof.TupleKey
import KE.KRevSl
import PyProof.P3Eq
import KE.LcSums
import PyProof.EnumMake
import PyProof.StrWalks
import PyProof.Conv_int_bool
import KE.KIntText
import PyProof.Rows.StrNews2
import PyProof.StrBlock2
import PyProof.Rows.StrNews
import PyProof.StrLawsRepr
import PyProof.ReprStr
import PyProof.ReprRoads
import PyProof.DictIter
import PyProof.Rows.SetFrom
import KE.KDictList
import KE.KDictOf
import PyProof.AttrMissHeap
import KE.KEqDict
import PyProof.DictItems
import KE.KPairComp
import PyProof.Rows.Range3
import KE.IntTextText
import PyProof.StrLawsFirst
import PyProof.ReprBulk
import PySem.Challenge.RW_hushduel_k16_turned_and_put_together
set_option genSizeOf false
theorem xq5 {A B C D E:Sort _}{R Q:A->B->C->D->E->Prop}{P:Prop}(h:∃a b c d e,R a b c d e/\Q a b c d e)(k:∀a b c d e,R a b c d e->Q a b c d e->P):P:=by
 obtain ⟨a,b,c,d,e,r,q⟩:=h
 exact k a b c d e r q
theorem xq7 {A B C D E F G:Sort _}{R Q S T:A->B->C->D->E->F->G->Prop}{P:Prop}(h:∃a b c d e f g,R a b c d e f g/\Q a b c d e f g/\S a b c d e f g/\T a b c d e f g)(k:∀a b c d e f g,R a b c d e f g->Q a b c d e f g->S a b c d e f g->T a b c d e f g->P):P:=by
 obtain ⟨a,b,c,d,e,f,g,r,q,s,t⟩:=h
 exact k a b c d e f g r q s t
theorem xq2 {A B:Sort _}{R Q S:A->B->Prop}{P:Prop}(h:∃a b,R a b/\Q a b/\S a b)(k:∀a b,R a b->Q a b->S a b->P):P:=by
 obtain ⟨a,b,r,q,s⟩:=h
 exact k a b r q s
theorem xl1 {A:Type _}{us:List A}(h:us.length=1):∃a,us=[a]:=by
 cases us with
 |nil=>cases h
 |cons a t=>cases t with
  |nil=>exact ⟨a,rfl⟩
  |cons _ _=>cases h
theorem xl0 {A:Type _}{us:List A}{n:Nat}(h:us.length=n+1):∃a t,us=a::t/\t.length=n:=by
 cases us with
 |nil=>cases h
 |cons a t=>exact ⟨a,t,rfl,Nat.succ.inj h⟩
theorem xl2 {A:Type _}{us:List A}(h:us.length=2):∃a b,us=[a,b]:=by
 obtain ⟨a,t,rfl,h'⟩:=xl0 (n:=1) h
 obtain ⟨b,rfl⟩:=xl1 h'
 exact ⟨a,b,rfl⟩
theorem xl3 {A:Type _}{us:List A}(h:us.length=3):∃a b c,us=[a,b,c]:=by
 obtain ⟨a,t,rfl,h'⟩:=xl0 (n:=2) h
 obtain ⟨b,c,rfl⟩:=xl2 h'
 exact ⟨a,b,c,rfl⟩
theorem xl4 {A:Type _}{us:List A}(h:us.length=4):∃a b c d,us=[a,b,c,d]:=by
 obtain ⟨a,t,rfl,h'⟩:=xl0 (n:=3) h
 obtain ⟨b,c,d,rfl⟩:=xl3 h'
 exact ⟨a,b,c,d,rfl⟩
set_option Elab.async false
set_option linter.all false
set_option maxRecDepth 100000
namespace L2
open PySem PySem.Spec PyProof.Rows
noncomputable abbrev Key:=Sum Int Str
noncomputable def yc:Key->Value->Bool
 | .inl k,v=>Value.isInt k v
 | .inr x,v=>Value.isStrOf x v
noncomputable def abg (w:World):Key->Int
 | .inl k=>hashInt k
 | .inr x=>hashStr w x
theorem cg:∀{k:Key} {v:Value},yc k v=true->(∃i t,k=Sum.inl i/\v=Value.int i t)\/(∃x t,k=Sum.inr x/\v=Value.str x t)
 | .inl i,v,h=>by
  obtain ⟨t,e⟩:=Value.isInt_shape (k:=i) (v:=v) h
  exact .inl ⟨i,t,rfl,e⟩
 | .inr x,v,h=>by
  obtain ⟨t,e⟩:=Value.isStrOf_shape (x:=x) (v:=v) h
  exact .inr ⟨x,t,rfl,e⟩
theorem Oa (i:Int)(t:Tok):yc (.inl i) (.int i t)=true:=by simp [yc,Value.isInt]
theorem Oo (x:Str)(t:Tok):yc (.inr x) (.str x t)=true:=by simp [yc,Value.isStrOf]
theorem aaq (a b:Int):decide ((Sum.inl a:Key)=Sum.inl b)=(a == b):=by
 by_cases e:a=b
 ·subst e; simp
 ·have h:¬(Sum.inl a:Key)=Sum.inl b:=λq=>e (Sum.inl.inj q)
  rw [decide_eq_false h]
  exact (beq_eq_false_iff_ne.mpr e).symm
theorem ZF (a b:Str):decide ((Sum.inr a:Key)=Sum.inr b)=decide (a=b):=by
 by_cases e:a=b
 ·subst e; simp
 ·have h:¬(Sum.inr a:Key)=Sum.inr b:=λq=>e (Sum.inr.inj q)
  rw [decide_eq_false h,decide_eq_false e]
theorem Zk (a:Int)(b:Str):decide ((Sum.inl a:Key)=Sum.inr b)=false:=decide_eq_false (λq=>nomatch q)
theorem Y4 (a:Str)(b:Int):decide ((Sum.inr a:Key)=Sum.inl b)=false:=decide_eq_false (λq=>nomatch q)
noncomputable def jT (prog:Program)(w:World):PySem.KeyKind prog w Key where
 is:=yc
 hash:=abg w
 inj:=λv a b ha hb=>by
  rcases cg ha with ⟨i,t,rfl,rfl⟩ | ⟨x,t,rfl,rfl⟩
  ·rcases cg hb with ⟨j,u,rfl,e⟩ | ⟨y,u,rfl,e⟩
   ·injection e with e1 _; rw [e1]
   ·exact nomatch e
  ·rcases cg hb with ⟨j,u,rfl,e⟩ | ⟨y,u,rfl,e⟩
   ·exact nomatch e
   ·injection e with e1 _; rw [e1]
 byValue:=λk v h=>by
  rcases cg h with ⟨i,t,rfl,rfl⟩ | ⟨x,t,rfl,rfl⟩ <;> rfl
 pyHash:=λhv h=>by
  rcases cg hv with ⟨i,t,rfl,rfl⟩ | ⟨x,t,rfl,rfl⟩
  ·exact wpAny_pyHash_int h
  ·exact wpAny_pyHash_str h
 eqBool:=λhu hv h=>by
  rcases cg hu with ⟨i,t,rfl,rfl⟩ | ⟨x,t,rfl,rfl⟩
  ·rcases cg hv with ⟨j,u,rfl,rfl⟩ | ⟨y,u,rfl,rfl⟩
   ·rw [aaq] at h; exact wpAny_eqBool_int h
   ·rw [Zk] at h; exact SeqAt.EqAt.int_str i t y u _ _ _ _ h
  ·rcases cg hv with ⟨j,u,rfl,rfl⟩ | ⟨y,u,rfl,rfl⟩
   ·rw [Y4] at h; exact SeqAt.EqAt.str_int x t j u _ _ _ _ h
   ·rw [ZF] at h; exact wpAny_eqBool_str h
 «strs»:=λk x t v h=>by
  rcases cg h with ⟨i,u,rfl,e⟩ | ⟨y,u,rfl,e⟩
  ·exact nomatch e
  ·injection e with e1 _
   subst e1
   cases v <;> rfl
theorem G8 (prog:Program)(w:World)(i:Int)(t:Tok):(jT prog w).is (.inl i) (.int i t)=true:=Oa i t
theorem Ie (prog:Program)(w:World)(x:Str)(t:Tok):(jT prog w).is (.inr x) (.str x t)=true:=Oo x t
inductive Kt where
 |k (x:Key) | t (xs:List Kt)
mutual
noncomputable def Kt.dec:(a b:Kt)->Decidable (a=b)
 | .k x,.k y=>if h:x=y then .isTrue (by rw [h]) else .isFalse λe=>h (by injection e)
 | .t xs,.t ys=>match Kt.decs xs ys with
  | .isTrue h=>.isTrue (by rw [h])
  | .isFalse h=>.isFalse λe=>h (by injection e)
 | .k _,.t _=>.isFalse λe=>nomatch e
 | .t _,.k _=>.isFalse λe=>nomatch e
noncomputable def Kt.decs:(a b:List Kt)->Decidable (a=b)
 |[],[]=>.isTrue rfl
 |[],_::_=>.isFalse λe=>nomatch e
 |_::_,[]=>.isFalse λe=>nomatch e
 |x::xs,y::ys=>match Kt.dec x y,Kt.decs xs ys with
  | .isTrue h,.isTrue g=>.isTrue (by rw [h,g])
  | .isFalse h,_=>.isFalse λe=>h (by injection e)
  |_,.isFalse g=>.isFalse λe=>g (by injection e)
end
noncomputable instance:DecidableEq Kt:=Kt.dec
mutual
noncomputable def uV (w:World):Kt->Int
 | .k x=>abg w x
 | .t xs=>reduceHash (Builtin.Tuple.tupleHashOf (oN w xs))
noncomputable def oN (w:World):List Kt->List Int
 |[]=>[]
 |x::xs=>uV w x::oN w xs
end
mutual
noncomputable def t7:Kt->Nat
 | .k _=>1
 | .t xs=>f9 xs+1
noncomputable def f9:List Kt->Nat
 |[]=>0
 |x::xs=>t7 x+f9 xs
end
noncomputable def nJ (h:Heap):Nat->Kt->Value->Prop
 |_,.k x,v=>yc x v=true
 |0,.t _,_=>False
 |n+1,.t xs,v=>∃a o items m,v=.ref a/\h.get? a=some o/\o.cls=.type "tuple"/\o.data=.seq items m/\Paired (nJ h n) xs items.toList
theorem mX {h:Heap}{n:Nat}{xs:List Kt}{v:Value}:nJ h (n+1) (.t xs) v↔∃a o items m,v=.ref a/\h.get? a=some o/\o.cls=.type "tuple"/\o.data=.seq items m/\Paired (nJ h n) xs items.toList:=by rw [nJ]
theorem qe {h:Heap}{n:Nat}{x:Key}{v:Value}:nJ h n (.k x) v↔yc x v=true:=by cases n <;> rw [nJ]
theorem zb {α β:Type}{F G:α->β->Prop}(f:∀a b,F a b->G a b):∀{l:List α} {m:List β},Paired F l m->Paired G l m
 |_,_,.nil=>.nil
 |_,_,.cons r t=>.cons (f _ _ r) (zb f t)
theorem Ax {α β:Type}{F:α->β->Prop}(f:∀x y b,F x b->F y b->x=y):∀{l l':List α} {m:List β},Paired F l m->Paired F l' m->l=l'
 |_,_,_,.nil,.nil=>rfl
 |_,_,_,.cons r t,.cons r' t'=>by rw [f _ _ _ r r',Ax f t t']
theorem zA {h:Heap}:∀(n:Nat) (x y:Kt) (v:Value),nJ h n x v->nJ h n y v->x=y
 |n,.k x,.k y,v,hx,hy=>by
  rw [qe] at hx hy
  rcases cg hx with ⟨i,t,rfl,rfl⟩ | ⟨z,t,rfl,rfl⟩
  ·rcases cg hy with ⟨j,u,rfl,e⟩ | ⟨y,u,rfl,e⟩
   ·injection e with e1 _; rw [e1]
   ·exact nomatch e
  ·rcases cg hy with ⟨j,u,rfl,e⟩ | ⟨y,u,rfl,e⟩
   ·exact nomatch e
   ·injection e with e1 _; rw [e1]
 |0,.t _,_,_,hx,_=>by rw [nJ] at hx; exact hx.elim
 |0,.k _,.t _,_,_,hy=>by rw [nJ] at hy; exact hy.elim
 |n+1,.k x,.t ys,v,hx,hy=>by
  rw [qe] at hx
  obtain ⟨a,_,_,_,e,_⟩:=mX.mp hy
  subst e
  rcases cg hx with ⟨_,_,_,e⟩ | ⟨_,_,_,e⟩ <;> exact nomatch e
 |n+1,.t xs,.k y,v,hx,hy=>by
  rw [qe] at hy
  obtain ⟨a,_,_,_,e,_⟩:=mX.mp hx
  subst e
  rcases cg hy with ⟨_,_,_,e⟩ | ⟨_,_,_,e⟩ <;> exact nomatch e
 |n+1,.t xs,.t ys,v,hx,hy=>by
  obtain ⟨a,o,it,m,e,g,_,d,p⟩:=mX.mp hx
  obtain ⟨a',o',it',m',e',g',_,d',p'⟩:=mX.mp hy
  subst e
  injection e' with e'
  subst e'
  cases g.symm.trans g'
  rw [d] at d'
  injection d' with d' _
  subst d'
  rw [Ax (zA n) p p']
theorem zG {h h':Heap}{d:Addr}{o:Obj}{es ep}(ho:h.get? d=some o)(hd:o.data=.dict es ep)(hs:Heap.SameBut d h h'):∀(n:Nat) (x:Kt) (v:Value),nJ h n x v->nJ h' n x v
 |n,.k x,v,hx=>by rw [qe] at hx ⊢; exact hx
 |0,.t _,_,hx=>by rw [nJ] at hx; exact hx.elim
 |n+1,.t xs,v,hx=>by
  obtain ⟨a,o',it,m,e,g,c,dd,p⟩:=mX.mp hx
  have ne:a≠d:=by
   rintro rfl
   cases g.symm.trans ho
   rw [hd] at dd
   cases dd
  exact mX.mpr ⟨a,o',it,m,e,(hs.2 a ne).trans g,c,dd,zb (zG ho hd hs n) p⟩
section
variable {pr:Program}{wo:World}{E:Value->Shared->Prop}
theorem yg (w:World):∀xs:List Kt,oN w xs=xs.map (uV w)
 |[]=>by rw [oN]; rfl
 |x::xs=>by rw [oN,yg w xs]; rfl
theorem vG:∀xs ys:List Kt,f9 (xs++ys)=f9 xs+f9 ys
 |[],ys=>by rw [List.nil_append,f9,Nat.zero_add]
 |x::xs,ys=>by rw [List.cons_append,f9,f9,vG xs ys,Nat.add_assoc]
theorem CQ (x:Kt):f9 [x]=t7 x:=by rw [f9,f9,Nat.add_zero]
theorem CG:∀(n:Nat) {A:Around} {s:Shared} {x:Kt} {v:Value} {Q:Int->Shared->Prop},A.units+n<cLine->nJ s.heap n x v->Q (uV wo x) { s with toks:=s.toks+t7 x }->wpAny (model pr wo) A (pyHash v) Q E s
 |n,A,s,.k x,v,Q,hu,hx,q=>by
  rw [qe] at hx
  rw [uV,t7] at q
  exact (jT pr wo).pyHash hx q
 |0,_,_,.t _,_,_,_,hx,_=>by rw [nJ] at hx; exact hx.elim
 |n+1,A,s,.t xs,v,Q,hu,hx,h=>by
  obtain ⟨a,o,items,m,e,ho,hc,hd,hi⟩:=mX.mp hx
  subst e
  have hT:s.TypeIs (.ref a) "tuple":=⟨o,ho,hc⟩
  rw [uV,t7] at h
  unfold pyHash
  first | unfold pyHashByItsType | skip
  first | refine wpAny_bind (wpAny_cRoomFor_or (.inr (by omega)) ?_) | skip
  refine wpAny_bind (wpAny_specialOf hT PySem.F.slot_tuple_hash.lookup ?_)
  show wpAny _ _ (if (some (Value.builtin "tuple.__hash__") == some Value.none)=true then _ else _) Q E s
  rw [if_neg (by rw [beq_builtin_none]; exact Bool.false_ne_true)]
  refine wpAny_bind (wpAny_specialOf hT PySem.F.slot_tuple_hash.lookup ?_)
  show wpAny _ _ (callSpecialIfBoundUnlessNone? (.ref a) "__hash__" _ >>= _) Q E s
  refine wpAny_bind (wpAny_callSpecialIfBoundUnlessNone?_slot hT PySem.F.slot_tuple_hash (wpAny_call_entry PySem.F.slot_tuple_hash hT PySem.F.entry_tuple_hash ?_ (PySem.F.args_tuple_hash_1 _)))
  show wpAny _ _ (Builtin.Tuple.tupleItemsOf (.ref a) >>= _) _ _ s
  refine wpAny_bind (wpAny_tupleItemsOf ho hd ?_)
  refine wpAny_bind ?_
  rw [← Array.forIn_toList]
  refine wpAny_forIn_list _
   (λrest (b:Array Int) s'=>∃done left,xs=done++left/\Paired (nJ s.heap n) left rest/\b.toList=done.map (uV wo)/\s'={ s with toks:=s.toks+f9 done })
   _ ?_ ?_ _ _ ⟨[],xs,rfl,hi,rfl,by rw [f9]; rfl⟩
  ·rintro x rest b s' ⟨done,left,rfl,hl,hb,rfl⟩
   cases hl with
   | @cons k _ ks' _ h1 hl'=>
    refine wpAny_bind (CG n (A:=A.in1) (show A.units+1+n<cLine by omega) (s:={ s with toks:=s.toks+f9 done }) h1 ?_)
    refine wpAny_pure ⟨done++[k],ks',by simp,hl',by simp [hb],?_⟩
    rw [vG,CQ,Nat.add_assoc]
  ·rintro b s' ⟨done,left,rfl,hl,hb,rfl⟩
   cases hl
   rw [List.append_nil] at h
   show wpAny _ _ (retInt (Builtin.Tuple.tupleHashOf b.toList)) _ _ _
   rw [hb,← yg]
   refine wpAny_ret_mkInt ?_
   show wpAny _ _ (if (decide (-(2:Int) ^ 63<=Builtin.Tuple.tupleHashOf (oN wo done)) && decide (Builtin.Tuple.tupleHashOf (oN wo done)<2 ^ 63))=true then _ else _) Q E _
   unfold reduceHash at h
   by_cases hr:(decide (-(2:Int) ^ 63<=Builtin.Tuple.tupleHashOf (oN wo done)) && decide (Builtin.Tuple.tupleHashOf (oN wo done)<2 ^ 63))=true
   ·rw [if_pos hr]
    rw [if_pos hr] at h
    exact wpAny_pure (by simpa [Nat.add_assoc] using h)
   ·rw [if_neg hr]
    rw [if_neg hr] at h
    exact wpAny_bind (wpAny_rule (wpAny_pure (by simpa [Nat.add_assoc] using h)))
noncomputable def rW (xs ys:List Kt)(j:Nat):Bool:=match xs[j]?,ys[j]? with
 |some x,some y=>decide (x=y)
 |_,_=>true
theorem z8:∀xs ys:List Kt,((List.range (min xs.length ys.length)).all (rW xs ys) && xs.length == ys.length)=decide (xs=ys)
 |[],[]=>by simp
 |[],_::_=>by simp
 |_::_,[]=>by simp
 |x::xs,y::ys=>by
  have ih:=z8 xs ys
  rw [List.length_cons,List.length_cons,Nat.succ_min_succ,List.range_succ_eq_map,List.all_cons,List.all_map]
  have e:(rW (x::xs) (y::ys) ∘ Nat.succ)=rW xs ys:=by funext j; simp [rW]
  rw [e]
  have e0:rW (x::xs) (y::ys) 0=decide (x=y):=by simp [rW]
  rw [e0,Bool.and_assoc]
  have e1:((xs.length+1 == ys.length+1):Bool)=(xs.length == ys.length):=by simp
  rw [e1,ih]
  by_cases a:x=y <;> by_cases b:xs=ys <;> simp [a,b]
theorem wW {α β:Type}{F:α->β->Prop}:∀{l:List α} {m:List β} (j:Nat) (h:j<m.length),Paired F l m->∃a,l[j]? = some a/\F a m[j]
 |_,_,j,h,.nil=>absurd h (Nat.not_lt_zero _)
 |_,_,0,_,.cons r _=>⟨_,rfl,r⟩
 |_,_,j+1,h,.cons _ t=>by
  obtain ⟨a,h1,h2⟩:=wW j (by simpa using h) t
  exact ⟨a,by simpa using h1,by simpa using h2⟩
theorem Mw:∀(n:Nat) (A:Around) (s:Shared) (x y:Kt) (v u:Value),A.units+n<cLine->nJ s.heap n x v->nJ s.heap n y u->SeqAt.EqAt A s v u (decide (x=y))
 |n,A,s,.k x,.k y,v,u,hu,hx,hy=>by
  rw [qe] at hx hy
  intro pr wo E Q q
  refine (jT pr wo).eqBool (a:=x) (b:=y) hx hy ?_
  have e:decide (Kt.k x=Kt.k y)=decide (x=y):=decide_eq_decide.mpr ⟨λe=>by injection e,λe=>by rw [e]⟩
  rw [← e]
  exact q
 |0,_,_,.t _,_,_,_,_,hx,_=>by rw [nJ] at hx; exact hx.elim
 |0,_,_,.k _,.t _,_,_,_,_,hy=>by rw [nJ] at hy; exact hy.elim
 |n+1,A,s,.k x,.t ys,v,u,hu,hx,hy=>by
  rw [qe] at hx
  obtain ⟨a,o,it,m,e,g,c,d,_⟩:=mX.mp hy
  subst e
  have hl:s.heap.IsTuple a it:=⟨o,g,c,m,d⟩
  rw [show decide (Kt.k x=Kt.t ys)=false from decide_eq_false λe=>nomatch e]
  rcases cg hx with ⟨i,t,rfl,rfl⟩ | ⟨z,t,rfl,rfl⟩
  ·exact SeqAt.EqAt.int_tuple i t hl (by omega)
  ·exact SeqAt.EqAt.str_tuple z t hl (by omega)
 |n+1,A,s,.t xs,.k y,v,u,hu,hx,hy=>by
  rw [qe] at hy
  obtain ⟨a,o,it,m,e,g,c,d,_⟩:=mX.mp hx
  subst e
  have hl:s.heap.IsTuple a it:=⟨o,g,c,m,d⟩
  rw [show decide (Kt.t xs=Kt.k y)=false from decide_eq_false λe=>nomatch e]
  rcases cg hy with ⟨i,t,rfl,rfl⟩ | ⟨z,t,rfl,rfl⟩
  ·exact SeqAt.EqAt.tuple_int i t hl (by omega)
  ·exact SeqAt.EqAt.tuple_str z t hl (by omega)
 |n+1,A,s,.t xs,.t ys,v,u,hu,hx,hy=>by
  have hx':=hx
  have hy':=hy
  obtain ⟨a,o,it,m,e,g,c,d,p⟩:=mX.mp hx
  obtain ⟨a',o',it',m',e',g',c',d',p'⟩:=mX.mp hy
  subst e e'
  by_cases ne:a=a'
  ·subst ne
   rw [zA _ _ _ _ hx' hy',decide_eq_true rfl]
   exact SeqAt.EqAt.same _
  ·have hl:s.heap.IsTuple a it:=⟨o,g,c,m,d⟩
   have hl':s.heap.IsTuple a' it':=⟨o',g',c',m',d'⟩
   have n1:it.size=xs.length:=by have:=Paired.length p; simpa using this.symm
   have n2:it'.size=ys.length:=by have:=Paired.length p'; simpa using this.symm
   have e2:decide (Kt.t xs=Kt.t ys)=decide (xs=ys):=decide_eq_decide.mpr ⟨λe=>by injection e,λe=>by rw [e]⟩
   rw [e2,← z8 xs ys,← n1,← n2]
   refine SeqAt.EqAt.of_refs ne (SeqAt.RcAt.tuples hl hl' (by omega) λj j1 j2=>?_)
   obtain ⟨b,q1,q2⟩:=wW j (by simpa using j1) p
   obtain ⟨b',r1,r2⟩:=wW j (by simpa using j2) p'
   have:rW xs ys j=decide (b=b'):=by unfold rW; rw [q1,r1]
   rw [this]
   exact Mw n A.in1 s b b' _ _ (show A.units+1+n<cLine by omega) (by simpa using q2) (by simpa using r2)
theorem Li:∀(n:Nat) {A:Around} {s:Shared} {x:Kt} {v:Value} {Q:Bool->Shared->Prop},nJ s.heap n x v->Q true s->wpAny (model pr wo) A (eqIsQuiet n v) Q E s
 |n,A,s,.k x,v,Q,hx,q=>by
  rw [qe] at hx
  rw [eqIsQuiet_byValue _ ((jT pr wo).byValue _ _ hx)]
  exact wpAny_pure q
 |0,_,_,.t _,_,_,hx,_=>by rw [nJ] at hx; exact hx.elim
 |n+1,A,s,.t xs,v,Q,hx,h=>by
  obtain ⟨a,o,items,m,e,ho,hc,hd,hi⟩:=mX.mp hx
  subst e
  have hT:s.TypeIs (.ref a) "tuple":=⟨o,ho,hc⟩
  unfold eqIsQuiet
  refine wpAny_bind (wpAny_specialOf hT PySem.F.slot_tuple_eq.lookup ?_)
  show wpAny _ _ (isInstance (.ref a) (.type "tuple") >>= _) _ _ s
  refine wpAny_bind (wpAny_isInstance hT isSubtype_tuple_tuple ?_)
  simp only [Bool.not_true,Bool.false_eq_true,if_false]
  refine wpAny_bind (wpAny_seqItems ho hd (wpAny_bind ?_))
  show wpAny _ _ (forIn items _ _) _ _ s
  rw [← Array.forIn_toList]
  refine wpAny_forIn_list _ (λrest r s'=>r.1=none/\s'=s/\∃ks,Paired (nJ s.heap n) ks rest) _ ?_ ?_ _ _ ⟨rfl,rfl,xs,hi⟩
  ·rintro v rest r s' ⟨hr,rfl,ks,al⟩
   cases al with
   |cons h1 al'=>
    refine wpAny_bind (Li n h1 ?_)
    simp only [Bool.not_true,Bool.false_eq_true,if_false]
    exact wpAny_pure ⟨rfl,rfl,_,al'⟩
  ·rintro ⟨r1,r2⟩ s' ⟨hr,rfl,_⟩
   simp only at hr
   subst hr
   exact wpAny_pure h
end
noncomputable def lQ (pr:Program)(wo:World):HeapKind pr wo (List Kt) where
 is:=λh ks a=>nJ h 8 (.t ks) (.ref a)
 hash:=λks=>uV wo (.t ks)
 draws:=λks=>t7 (.t ks)
 room:=λA=>A.units+8<cLine
 inj:=λa b=>by have:=zA _ _ _ _ a b; injection this
 keeps:=λx a b c=>zG a b c _ _ _ x
 pyHash:=λa b c=>CG 8 a b c
 eqBool:=λ{A E s x y a b Q} h1 h2 h3 h4=>by
  refine Mw 8 A s _ _ _ _ h1 h2 h3 _ _ _ _ ?_
  rw [show decide (Kt.t x=Kt.t y)=decide (x=y) from decide_eq_decide.mpr ⟨λe=>by injection e,λe=>by rw [e]⟩]
  exact h4
 quiet:=λa b=>Li 8 a b
open PySem PySem.Spec PyProof.Rows
inductive V where
 |non | bl (b:Bool) | int (i:Int) | str (x:Str) | byt (b:Array UInt8) | flt (b:UInt64) | ref (a:Addr) | ty (n:String)
 deriving DecidableEq
noncomputable def RelV:V->Value->Prop
 | .non,u=>u=Value.none
 | .bl b,u=>u=Value.bool b
 | .int i,u=>∃t,u=Value.int i t
 | .str x,u=>∃t,u=Value.str x t
 | .byt b,u=>∃t,u=Value.bytes b t
 | .flt b,u=>∃t,u=Value.float b t
 | .ref a,u=>u=Value.ref a
 | .ty n,u=>u=Value.type n
noncomputable abbrev Vals:List V->List Value->Prop:=Paired RelV
theorem Vals.length {xs:List V}{us:List Value}(r:Vals xs us):xs.length=us.length:=Paired.length r
theorem Vals.get:∀{xs:List V} {us:List Value} {i:Nat} {x:V},Vals xs us->xs[i]? = some x->∃u,us[i]? = some u/\RelV x u
 |_,_,_,_,.nil,e=>by simp at e
 |_,_,0,_,.cons r _,e=>by simp at e; subst e; exact ⟨_,rfl,r⟩
 |_,_,i+1,x,.cons _ t,e=>by
  obtain ⟨u,h1,h2⟩:=Vals.get (i:=i) (x:=x) t (by simpa using e)
  exact ⟨u,by simpa using h1,h2⟩
theorem Vals.set {x:V}{u:Value}(r:RelV x u):∀{xs:List V} {us:List Value} (i:Nat),Vals xs us->Vals (xs.set i x) (us.set i u)
 |_,_,_,.nil=>.nil
 |_,_,0,.cons _ t=>.cons r t
 |_,_,i+1,.cons q t=>.cons q (Vals.set r i t)
theorem Vals.append:∀{xs ys:List V} {us ws:List Value},Vals xs us->Vals ys ws->Vals (xs++ys) (us++ws)
 |_,_,_,_,.nil,s=>s
 |_,_,_,_,.cons r t,s=>.cons r (Vals.append t s)
theorem Vals.take:∀{xs:List V} {us:List Value} (n:Nat),Vals xs us->Vals (xs.take n) (us.take n)
 |_,_,0,_=>.nil
 |_,_,_+1,.nil=>.nil
 |_,_,n+1,.cons r t=>.cons r (Vals.take n t)
theorem Vals.drop:∀{xs:List V} {us:List Value} (n:Nat),Vals xs us->Vals (xs.drop n) (us.drop n)
 |_,_,0,r=>r
 |_,_,_+1,.nil=>.nil
 |_,_,n+1,.cons _ t=>Vals.drop n t
noncomputable def wQ:Option V->Option Value->Prop
 |some v,some u=>RelV v u
 |none,none=>True
 |_,_=>False
noncomputable def KV {κ:Type}:List (κ×V)->List (κ×Value)->Prop:=Paired λ(p:κ×V) (q:κ×Value)=>p.1=q.1/\RelV p.2 q.2
noncomputable def kV:Key->V
 | .inl i=>.int i
 | .inr x=>.str x
inductive HO where
  |lst (xs:List V)
  |tup (xs:List V)
  |dK (kvs:List (Key×V)) | dT (T:Addr->List V->Prop) (kvs:List (List Kt×V))
  |set (S:Int->Bool) (n:Nat)
  |ins (C dx:Addr) (fs:List (Str×V))
  |own (x:Addr)
  |xd (fs:List (Str×V))
  |met (f x:Addr)
  |rng (lo hi:Int)
  |frz (o:Obj) (u:HO)
  |tbl (ps:Array Value)
  |ext (φ:Heap->Prop)
noncomputable abbrev Hp:=Addr->Option HO
noncomputable def upd (H:Hp)(a:Addr)(o:HO):Hp:=λb=>if b=a then some o else H b
theorem bA {H:Hp}{a:Addr}{o:HO}:upd H a o a=some o:=by unfold upd; rw [if_pos rfl]
theorem cO {H:Hp}{a b:Addr}{o:HO}(h:b≠a):upd H a o b=H b:=by unfold upd; rw [if_neg h]
theorem Tz {H:Hp}{a b:Addr}{o u:HO}(h:H a=some o)(h':H b=some u)(d:o≠u):a≠b:=by
 intro e; subst e; rw [h] at h'; exact d (Option.some.inj h')
theorem my {H:Hp}{a b:Addr}{o:HO}(h:H a=some o)(h':H b=none):a≠b:=by
 intro e; subst e; rw [h] at h'; cases h'
mutual
inductive yD (T:Addr->List V->Prop)(H:Hp):Nat->V->Kt->Prop where
 |k {n:Nat} {x:Key}:yD T H n (kV x) (.k x)
 |t {n:Nat} {b:Addr} {vs:List V} {ks:List Kt}:(H b=some (.tup vs)\/T b vs)->rM T H n vs ks->yD T H (n+1) (.ref b) (.t ks)
inductive rM (T:Addr->List V->Prop)(H:Hp):Nat->List V->List Kt->Prop where
 |nil {n:Nat}:rM T H n [] []
 |cons {n:Nat} {v:V} {vs:List V} {k:Kt} {ks:List Kt}:yD T H n v k->rM T H n vs ks->rM T H n (v::vs) (k::ks)
end
noncomputable def TrT (T:Addr->List V->Prop)(H:Hp)(b:Addr)(ks:List Kt):Prop:=∃vs,(H b=some (.tup vs)\/T b vs)/\rM T H 7 vs ks
section
variable {T:Addr->List V->Prop}{H H':Hp}
mutual
theorem yD.imp (ht:∀b xs,H b=some (.tup xs)->H' b=some (.tup xs)):∀{n:Nat} {v:V} {k:Kt},yD T H n v k->yD T H' n v k
 |_,_,_,.k=>.k
 |_,_,_,.t h hs=>.t (h.imp (ht _ _) id) (rM.imp ht hs)
theorem rM.imp (ht:∀b xs,H b=some (.tup xs)->H' b=some (.tup xs)):∀{n:Nat} {vs:List V} {ks:List Kt},rM T H n vs ks->rM T H' n vs ks
 |_,_,_,.nil=>.nil
 |_,_,_,.cons h hs=>.cons (yD.imp ht h) (rM.imp ht hs)
end
theorem TrT.imp {b:Addr}{ks:List Kt}(h:TrT T H b ks)(ht:∀b xs,H b=some (.tup xs)->H' b=some (.tup xs)):TrT T H' b ks:=
 let ⟨vs,h1,h2⟩:=h; ⟨vs,h1.imp (ht _ _) id,h2.imp ht⟩
end
section
variable (P:Program)(w:World)
noncomputable def eE (H:Hp)(h:Heap)(a:Addr):HO->Prop
 | .lst xs=>xs.length<=sizeLine/\∃(its:List Value) (n:Nat),Vals xs its/\h.get? a=some { cls:=.type "list",data:=.seq its.toArray n }
 | .tup xs=>xs.length<=sizeLine/\∃its:List Value,Vals xs its/\IsTup h a its.toArray
 | .dK kvs=>kvs.length<=sizeLine/\(a == sysModules)=false/\∃vs,KV kvs vs/\h.DictOf (jT P w) a vs
 | .dT T kvs=>kvs.length<=sizeLine/\(a == sysModules)=false/\∃xs:List (List Kt×Addr×Value),
   Paired (λ(p:List Kt×V) (q:List Kt×Addr×Value)=>p.1=q.1/\TrT T H q.2.1 p.1/\RelV p.2 q.2.2) kvs xs/\
   ∃o es ep,h.get? a=some o/\o.ExactDict/\o.data=.dict es ep/\es.toList=xs.map (entryOfKey (lQ P w))/\(xs.map (·.1)).Nodup
 | .set S n=>h.SetOf (intKind P w) a S n
 | .ins C dx fs=>H dx=some (.own a)/\fs.length<=1000/\dx≠a/\h.get? a=some (PySem.W.instObj C dx)/\
   ∃mA,h.Ns1 dx mA/\(∀f,wQ (fs.lookup f) (mA f))/\PySem.Within mA (fs.map (·.1))
 | .own _=>∃o,h.get? a=some o
 | .xd fs=>∃mA,h.Ns1 a mA/\∀f,wQ (fs.lookup f) (mA f)
 | .rng lo hi=>∃t u v,h.get? a=some { cls:=.type "range",data:=.fields #[.int lo t,.int hi u,.int 1 v] }
 | .frz o u=>h.get? a=some o/\eE H h a u
 | .tbl ps=>h.get? a=some { cls:=.none,data:=.fields ps }
 | .met f x=>h.get? a=some (PySem.W.methodObj (.ref f) (.ref x))
 | .ext φ=>φ h/\(∃o,h.get? a=some o)/\∀h1 h2:Heap,φ h1->(∀o,h1.get? a=some o->h2.get? a=some o)->φ h2
noncomputable def HOk (H:Hp)(h:Heap):Prop:=∀a o,H a=some o->eE P w H h a o
end
section
variable {P:Program}{w:World}{H H':Hp}{h h':Heap}{a:Addr}{o:HO}
theorem eE.lt (x:eE P w H h a o):a<h.objs.size:=by
 cases o with
 |lst xs=>obtain ⟨_,_,_,_,e⟩:=x; exact Heap.lt_size e
 |tup xs=>obtain ⟨_,_,_,p⟩:=x; exact p.lt
 |dK kvs=>obtain ⟨_,_,_,_,o,_,_,e,_⟩:=x; exact Heap.lt_size e
 |dT T kvs=>obtain ⟨_,_,_,_,o,_,_,e,_⟩:=x; exact Heap.lt_size e
 |set S n=>obtain ⟨o,_,_,_,e,_⟩:=x; exact Heap.lt_size e
 |ins C dx fs=>obtain ⟨_,_,_,e,_⟩:=x; exact Heap.lt_size e
 |own y=>obtain ⟨_,e⟩:=x; exact Heap.lt_size e
 |xd fs=>obtain ⟨_,⟨_,_,_,e,_⟩,_⟩:=x; exact Heap.lt_size e
 |rng lo hi=>obtain ⟨_,_,_,e⟩:=x; exact Heap.lt_size e
 |frz ob u=>obtain ⟨e,_⟩:=x; exact Heap.lt_size e
 |tbl ps=>exact Heap.lt_size (show h.get? a=some _ from x)
 |met f y=>exact Heap.lt_size (show h.get? a=some _ from x)
 |ext φ=>obtain ⟨_,⟨_,e⟩,_⟩:=x; exact Heap.lt_size e
theorem Paired.aao {α β:Type}{F G:α->β->Prop}:∀{l₁:List α} {l₂:List β},Paired F l₁ l₂->(∀a b,F a b->G a b)->Paired G l₁ l₂
 |_,_,.nil,_=>.nil
 |_,_,.cons r t,f=>.cons (f _ _ r) (Paired.aao t f)
theorem eE.stay (x:eE P w H h a o)(k:∀b u,(b=a\/H b=some (.own a))->h.get? b=some u->h'.get? b=some u)
  (ho:∀b,H b=some (.own a)->H' b=some (.own a)) (ht:∀b xs,H b=some (.tup xs)->H' b=some (.tup xs)):eE P w H' h' a o:=by
 induction o with
 |lst xs=>obtain ⟨z,its,n,r,e⟩:=x; exact ⟨z,its,n,r,k _ _ (.inl rfl) e⟩
 |tup xs=>obtain ⟨z,its,r,ob,e,c⟩:=x; exact ⟨z,its,r,ob,k _ _ (.inl rfl) e,c⟩
 |dK kvs=>obtain ⟨z,y,vs,r,ob,es,ep,e,c⟩:=x; exact ⟨z,y,vs,r,ob,es,ep,k _ _ (.inl rfl) e,c⟩
 |dT T kvs=>
  obtain ⟨z,y,xs,r,ob,es,ep,e,c⟩:=x
  exact ⟨z,y,xs,Paired.aao r λp q z=>⟨z.1,z.2.1.imp ht,z.2.2⟩,ob,es,ep,k _ _ (.inl rfl) e,c⟩
 |set S n=>obtain ⟨ob,es,ep,t,e,c⟩:=x; exact ⟨ob,es,ep,t,k _ _ (.inl rfl) e,c⟩
 |ins C dx fs=>
  obtain ⟨d,z,ne,e,mA,⟨od,es,ep,e2,c⟩,r⟩:=x
  exact ⟨ho _ d,z,ne,k _ _ (.inl rfl) e,mA,⟨od,es,ep,k _ _ (.inr d) e2,c⟩,r⟩
 |own y=>obtain ⟨ob,e⟩:=x; exact ⟨ob,k _ _ (.inl rfl) e⟩
 |xd fs=>obtain ⟨mA,⟨od,es,ep,e,c⟩,r⟩:=x; exact ⟨mA,⟨od,es,ep,k _ _ (.inl rfl) e,c⟩,r⟩
 |rng lo hi=>obtain ⟨t,u,v,e⟩:=x; exact ⟨t,u,v,k _ _ (.inl rfl) e⟩
 |frz ob u ih=>obtain ⟨e,q⟩:=x; exact ⟨k _ _ (.inl rfl) e,ih q⟩
 |tbl ps=>
  have e:h.get? a=some { cls:=.none,data:=.fields ps }:=x
  show h'.get? a=some { cls:=.none,data:=.fields ps }
  exact k a _ (.inl rfl) e
 |met f y=>
  have e:h.get? a=some (PySem.W.methodObj (.ref f) (.ref y)):=x
  show h'.get? a=some (PySem.W.methodObj (.ref f) (.ref y))
  exact k a _ (.inl rfl) e
 |ext φ=>obtain ⟨p,⟨o,e⟩,st⟩:=x; exact ⟨st _ _ p λo q=>k _ _ (.inl rfl) q,⟨o,k _ _ (.inl rfl) e⟩,st⟩
theorem HOk.lt (x:HOk P w H h)(e:H a=some o):a<h.objs.size:=(x a o e).lt
theorem HOk.fresh (x:HOk P w H h)(e:h.objs.size<=a):H a=none:=by
 cases q:H a with
 |none=>rfl
 |some u=>exact absurd (Nat.lt_of_lt_of_le (x.lt q) e) (Nat.lt_irrefl _)
theorem HOk.kept (x:HOk P w H h)(k:∀b u,h.get? b=some u->h'.get? b=some u):HOk P w H h':=λa o e=>
 (x a o e).stay (λb u _ q=>k b u q) (λ_ q=>q) λ_ _ q=>q
theorem HOk.laid (x:HOk P w H h)(k:∀b u,h.get? b=some u->h'.get? b=some u)(hp:h.objs.size<=a)(new:eE P w (upd H a o) h' a o):HOk P w (upd H a o) h':=λb u e=>by
 have hn:=x.fresh hp
 by_cases hb:b=a
 ·subst hb; rw [bA] at e; cases e; exact new
 ·rw [cO hb] at e
  exact (x b u e).stay (λc v _ q=>k c v q) (λc q=>by rw [cO (my q hn)]; exact q) λc xs q=>by rw [cO (my q hn)]; exact q
end
noncomputable def Rd (H:Hp)(a:Addr)(u:HO):Prop:=H a=some u\/∃o,H a=some (.frz o u)
theorem Rd.ok {P:Program}{w:World}{H:Hp}{h:Heap}{a:Addr}{u:HO}(r:Rd H a u)(x:HOk P w H h):eE P w H h a u:=by
 rcases r with r | ⟨o,r⟩
 ·exact x a u r
 ·obtain ⟨_,q⟩:=x a _ r
  exact q
noncomputable def Mut:Option HO->Prop
 |some (.lst _)=>True
 |some (.dK _)=>True
 |some (.dT _ _)=>True
 |some (.set _ _)=>True
 |some (.ins _ _ _)=>True
 |some (.ext _)=>True
 |_=>False
section
variable {P:Program}{w:World}{H:Hp}{h h':Heap}{x e:Addr}{o':HO}
theorem HOk.write (ok:HOk P w H h)(mu:Mut (H x))(he:e=x\/H e=some (.own x))(k:∀b u,b≠e->h.get? b=some u->h'.get? b=some u)(heo:∃u,h'.get? e=some u)
  (new:eE P w (upd H x o') h' x o'):HOk P w (upd H x o') h':=λb u q=>by
 have nown:∀c y,H c=some (.own y)->c≠x:=λc y r z=>by subst z; rw [r] at mu; exact mu
 have ntup:∀c xs,H c=some (.tup xs)->c≠x:=λc xs r z=>by subst z; rw [r] at mu; exact mu
 by_cases hb:b=x
 ·subst hb; rw [bA] at q; cases q; exact new
 ·rw [cO hb] at q
  by_cases hbe:b=e
  ·have q':H b=some (.own x):=by
    rcases he with z | z
    ·exact absurd (hbe.trans z) hb
    ·rw [hbe]; exact z
   rw [q] at q'; cases q'
   obtain ⟨v,hv⟩:=heo
   exact ⟨v,by rw [hbe]; exact hv⟩
  ·refine (ok b u q).stay (λc v hc r=>k c v ?_ r) (λc r=>by rw [cO (nown c b r)]; exact r) λc xs r=>by rw [cO (ntup c xs r)]; exact r
   rcases hc with rfl | hc
   ·exact hbe
   ·rintro rfl
    rcases he with z | z
    ·exact nown c b hc z
    ·rw [hc] at z; cases z; exact hb rfl
end
structure Un (fs ex:List Addr)(H H':Hp)(h h':Heap):Prop where
 keep:∀b o,h.get? b=some o->H b=none->b∉fs->b∉ex->h'.get? b=some o
 slot:∀b o,h.get? b=some o->H b=none->b∈fs->b∉ex->∃sl,h'.get? b=some { o with slots:=sl }
 free:∀b o,h.get? b=some o->H b=none->b∉ex->H' b=none
 there:∀b o,h.get? b=some o->b∉ex->∃o',h'.get? b=some o'
 tups:∀b xs,H b=some (.tup xs)->H' b=some (.tup xs)
 frzs:∀b o u,H b=some (.frz o u)->H' b=some (.frz o u)
 tbls:∀b ps,H b=some (.tbl ps)->∃more,H' b=some (.tbl (ps++more))
section
variable {fs fs' ex ex':List Addr}{H H1 H2:Hp}{h h1 h2 h':Heap}{a x e:Addr}{o:HO}
theorem Un.any (u:Un fs ex H H1 h h1){b:Addr}{ob:Obj}(q:h.get? b=some ob)(n:H b=none)(hx:b∉ex):∃sl,h1.get? b=some { ob with slots:=sl }:=by
 by_cases hb:b∈fs
 ·exact u.slot b ob q n hb hx
 ·exact ⟨ob.slots,u.keep b ob q n hb hx⟩
theorem Un.kept (k:∀b u,h.get? b=some u->h'.get? b=some u):Un fs ex H H h h':=
 ⟨λb ob q _ _ _=>k b ob q,λb ob q _ _ _=>⟨ob.slots,k b ob q⟩,λ_ _ _ n _=>n,λb ob q _=>⟨ob,k b ob q⟩,λ_ _ q=>q,λ_ _ _ q=>q,λ_ ps q=>⟨#[],by rw [q]; simp⟩⟩
theorem Un.refl:Un fs ex H H h h:=Un.kept λ_ _ q=>q
theorem Un.laid (k:∀b u,h.get? b=some u->h'.get? b=some u)(hp:h.objs.size<=a)(hn:H a=none):Un fs ex H (upd H a o) h h' where
 keep:=λb u q _ _ _=>k b u q
 slot:=λb u q _ _ _=>⟨u.slots,k b u q⟩
 free:=λb u q n _=>by rw [cO (Nat.ne_of_lt (Nat.lt_of_lt_of_le (Heap.lt_size q) hp))]; exact n
 there:=λb u q _=>⟨u,k b u q⟩
 tups:=λb xs q=>by rw [cO (my q hn)]; exact q
 frzs:=λb u xs q=>by rw [cO (my q hn)]; exact q
 tbls:=λb ps q=>⟨#[],by rw [cO (my q hn),q]; simp⟩
theorem Un.write (mu:Mut (H x))(he:e=x\/H e=some (.own x))(k:∀b u,b≠e->h.get? b=some u->h'.get? b=some u)(heo:∃u,h'.get? e=some u):Un fs ex H (upd H x o) h h':=by
 have hx:∀b,H b=none->b≠x:=λb n z=>by subst z; rw [n] at mu; exact mu
 have hb:∀b,H b=none->b≠e:=λb n z=>by
  subst z
  rcases he with r | r
  ·exact hx b n r
  ·rw [n] at r; cases r
 have hm:∀b u,H b=some u->¬Mut (some u)->b≠x:=λb u q nm z=>by subst z; rw [q] at mu; exact nm mu
 refine ⟨λb u q n _ _=>k b u (hb b n) q,λb u q n _ _=>⟨u.slots,k b u (hb b n) q⟩,λb u q n _=>by rw [cO (hx b n)]; exact n,λb u q _=>?_,
  λb xs q=>by rw [cO (hm b _ q λz=>z)]; exact q,λb u xs q=>by rw [cO (hm b _ q λz=>z)]; exact q,λb ps q=>⟨#[],by rw [cO (hm b _ q λz=>z),q]; simp⟩⟩
 by_cases hbe:b=e
 ·subst hbe; exact heo
 ·exact ⟨u,k b u hbe q⟩
end
noncomputable def trk (h:Heap)(H:Hp):List Addr:=(List.range h.objs.size).filter λa=>(H a).isSome
noncomputable def Dl (h:Heap)(H:Hp):Heap:=PySem.W.hideAll h (trk h H)
theorem PB (h:Heap)(H:Hp):(Dl h H).objs.size=h.objs.size:=PySem.W.hideAll_size _ _
theorem QB {h:Heap}{H:Hp}{b:Addr}{o:Obj}(e:h.get? b=some o)(n:H b=none):(Dl h H).get? b=some o:=
 PySem.W.hideAll_get _ e λhm=>by
  have q:(H b).isSome=true:=(List.mem_filter.mp hm).2
  rw [n] at q; simp at q
theorem Wy {h:Heap}{H:Hp}{b:Addr}{o:Obj}(e:(Dl h H).get? b=some o):h.get? b=some o/\H b=none:=by
 have e':h.get? b=some o:=PySem.W.of_hideAll (trk h H) e
 refine ⟨e',?_⟩
 cases q:H b with
 |none=>rfl
 |some x=>
  have hm:b∈trk h H:=List.mem_filter.mpr ⟨List.mem_range.mpr (Heap.lt_size e'),by simp [q]⟩
  have z:(Dl h H).get? b=none:=PySem.W.hideAll_none (trk h H) hm
  rw [z] at e; cases e
noncomputable def Xv (g h:Heap)(L:Addr):List (Addr×Obj):=(List.range h.objs.size).filterMap λa=>if a=L\/(g.get? a).isSome=true then none else (h.get? a).map λo=>(a,o)
noncomputable def rest (g h:Heap)(L d:Addr):List (Addr×Obj):=(Xv g h L).filter λp=>decide (p.1≠d)
open PySem PySem.Spec PyProof.Rows
structure Mod (K:W.Frag)(mg:Str->Option Value)(base:Heap):Prop where
 kin:K.In base
 glob:base.Ns mainGlobals mg
 blt:∃mb,base.Ns builtinsNs mb/\∀x:Str,x≠"__name__"->mb x=bootBuiltins x
 nolimit:base.NoLimit
structure Cx where
 prog:Program
 w:World
 K:W.Frag
 mg:Str->Option Value
 base:Heap
 A:Around
 N:List Str
 s₀:Shared
 H₀:Hp
 env:Env
 outer:List Env
 stack:List Env
 ex:List Addr
 fn:Str->Bool
 calm:Bool
 pn:List (Addr×Obj)
 xe:Value->Shared->Prop
noncomputable def frs (l:List Env):List Addr:=l.filterMap (·.frame)
noncomputable abbrev Cx.fs (X:Cx):List Addr:=frs X.outer
noncomputable def Vis (sc:Scope)(x:Str):Prop:=sc.names.lookup x=some .local\/sc.names.lookup x=some .cell\/sc.names.lookup x=some .free
noncomputable def Loc (sc:Scope)(x:Str):Prop:=sc.names.lookup x=some .local\/sc.names.lookup x=some .cell
noncomputable def Look (env:Env)(h:Heap)(m:Str->Option Value)(x:Str)(u:Value):Prop:=
 (env.kindOf x=some .local/\m x=some u)\/((env.kindOf x=some .cell\/env.kindOf x=some .free)/\∃c,env.cells.lookup x=some c/\h.IsCell c (some u))
structure Cx.Ok (X:Cx):Prop where
 mod:Mod X.K X.mg X.base
 kind:X.env.scope.kind=.function
 glob:X.env.globals=mainGlobals
 blt:X.env.builtins=builtinsNs
 above:X.s₀.heap.objs.size<=X.env.locals
 inj:∀x y c,X.env.cells.lookup x=some c->X.env.cells.lookup y=some c->x=y
 has:∀x,(X.env.kindOf x=some .cell\/X.env.kindOf x=some .free)->∃c,X.env.cells.lookup x=some c
 cab:∀x c,X.fn x=true->X.env.cells.lookup x=some c->X.s₀.heap.objs.size<=c
 hd:X.calm=true->X.A.handled=none
 frames:X.A.frames=some X.stack
 stk:X.stack=X.outer\/(X.stack=X.env::X.outer/\X.env.frame=some X.env.locals)
 exf:∀b∈X.ex,b≠X.env.locals/\∀x c,X.env.cells.lookup x=some c->c≠b
 bs:∀b o,X.base.get? b=some o->X.s₀.heap.get? b=some o/\X.H₀ b=none
 bsz:X.base.objs.size<=X.s₀.heap.objs.size
 noex:∀b o,X.base.get? b=some o->b∉X.ex
 exfs:∀b∈X.ex,b∉X.fs
 ym:X.s₀.heap.FunFrames X.base X.outer
 frf:∀b∈X.fs,X.H₀ b=none
structure Inv (X:Cx)(pins:List (Addr×Obj))(σ:List (Option V))(H:Hp)(s:Shared):Prop where
 ok:X.Ok
 os:s.os=X.s₀.os
 bare:AllBare s.gens
 base:Un X.fs X.ex X.H₀ H X.s₀.heap s.heap
 loc:∃m,s.heap.Ns X.env.locals m/\∀(i:Nat) (x:Str) (v:V),X.N[i]? = some x->σ[i]? = some (some v)->Vis X.env.scope x->∃u,RelV v u/\Look X.env s.heap m x u
 cell:∀x c,X.env.cells.lookup x=some c->∃v,s.heap.IsCell c v
 free:H X.env.locals=none
 freeC:∀x c,X.env.cells.lookup x=some c->H c=none
 pin:∀p∈X.pn++pins,s.heap.get? p.1=some p.2/\H p.1=none/\p.1≠X.env.locals/\p.1∉X.fs/\∀v,p.2.data≠.cell v
 hok:HOk X.prog X.w H s.heap
 len:σ.length=X.N.length
section
variable {X:Cx}{pins:List (Addr×Obj)}{σ:List (Option V)}{H H':Hp}{s:Shared}{h':Heap}
theorem Cx.Ok.acb (ok:X.Ok){b:Addr}{o:Obj}(e:X.base.get? b=some o):b∉X.fs:=λhb=>by
 have:=(ok.ym.mem hb).1
 rw [e] at this; cases this
theorem Inv.bs (I:Inv X pins σ H s):∀b o,X.base.get? b=some o->s.heap.get? b=some o/\H b=none:=λb o e=>
 ⟨I.base.keep b o (I.ok.bs b o e).1 (I.ok.bs b o e).2 (I.ok.acb e) (I.ok.noex b o e),I.base.free b o (I.ok.bs b o e).1 (I.ok.bs b o e).2 (I.ok.noex b o e)⟩
theorem Inv.bk (I:Inv X pins σ H s):∀b o,X.base.get? b=some o->s.heap.get? b=some o:=λb o e=>(I.bs b o e).1
theorem Inv.mod (I:Inv X pins σ H s):Mod X.K X.mg X.base:=I.ok.mod
theorem Inv.kIn (I:Inv X pins σ H s):X.K.In s.heap:=I.ok.mod.kin.keeps I.bk
theorem Inv.nolimit (I:Inv X pins σ H s):s.heap.NoLimit:=I.ok.mod.nolimit.keeps I.bk
theorem Inv.fr (I:Inv X pins σ H s):∃m,Fr X.base X.env.locals s.heap m:=
 let ⟨m,hn,_⟩:=I.loc
 ⟨m,hn,I.bk,Nat.le_trans I.ok.bsz I.ok.above⟩
theorem Inv.lt (I:Inv X pins σ H s):X.env.locals<s.heap.objs.size:=let ⟨_,hn,_⟩:=I.loc; hn.lt
theorem Inv.sz (I:Inv X pins σ H s):X.s₀.heap.objs.size<=s.heap.objs.size:=Nat.le_trans I.ok.above (Nat.le_of_lt I.lt)
theorem Inv.acn (I:Inv X pins σ H s){a:Addr}(h:s.heap.objs.size<=a):a∉X.fs:=λhb=>by
 obtain ⟨_,o,ho,_⟩:=I.ok.ym.mem hb
 exact absurd (Nat.lt_of_lt_of_le (Heap.lt_size ho) (Nat.le_trans I.sz h)) (Nat.lt_irrefl _)
theorem Inv.cne (I:Inv X pins σ H s):∀x c,X.env.cells.lookup x=some c->c≠X.env.locals:=λx c e z=>by
 obtain ⟨v,o,ho,hd⟩:=I.cell x c e
 obtain ⟨m,⟨o',es,ep,ho',hd',_⟩,_⟩:=I.loc
 rw [z,ho'] at ho; cases ho; rw [hd'] at hd; cases hd
theorem Inv.ym (I:Inv X pins σ H s):s.heap.FunFrames X.base X.outer:=by
 have all:∀(l:List Env),(∀b∈frs l,b∈X.fs)->X.s₀.heap.FunFrames X.base l->s.heap.FunFrames X.base l:=by
  intro l
  induction l with
  |nil=>intro _ _; trivial
  |cons env r ih=>
   intro hs hl
   obtain ⟨hk,⟨L,o,hf,hn,ho,hd⟩,hr⟩:=hl
   have hL:L∈X.fs:=hs L (by unfold frs; rw [List.filterMap_cons,hf]; exact List.mem_cons_self)
   obtain ⟨sl,e⟩:=I.base.slot L o ho (I.ok.frf L hL) hL λz=>I.ok.exfs L z hL
   exact ⟨hk,⟨L,_,hf,hn,e,hd⟩,ih (λb hb=>hs b (by unfold frs; rw [List.filterMap_cons,hf]; exact List.mem_cons_of_mem _ hb)) hr⟩
 exact all X.outer (λ_ hb=>hb) I.ok.ym
theorem Inv.stack (I:Inv X pins σ H s):s.heap.FunFrames X.base X.stack:=by
 rcases I.ok.stk with e | ⟨e,hf⟩
 ·rw [e]; exact I.ym
 ·rw [e]
  obtain ⟨m,hn,_⟩:=I.loc
  refine .cons (by rw [I.ok.kind]; decide) hf hn ?_ I.ym
  exact Heap.get?_none_of_le (Nat.le_trans I.ok.bsz I.ok.above)
theorem Inv.Ge (I:Inv X pins σ H s):∀b∈frs X.stack,b∈X.env.locals::X.fs:=λb hb=>by
 rcases I.ok.stk with e | ⟨e,hf⟩
 ·rw [e] at hb; exact List.mem_cons_of_mem _ hb
 ·rw [e] at hb
  unfold frs at hb
  rw [List.filterMap_cons,hf] at hb
  exact hb
theorem Inv.MT (I:Inv X pins σ H s):∀b∈frs X.stack,H b=none:=λb hb=>by
 rcases List.mem_cons.mp (I.Ge b hb) with e | hb
 ·rw [e]; exact I.free
 ·obtain ⟨_,o,ho,_⟩:=I.ok.ym.mem hb
  exact I.base.free b o ho (I.ok.frf b hb) λz=>I.ok.exfs b z hb
theorem Inv.step {g':Array GenState}{t':Nat}{d':Drawn}{ch:List Addr}(I:Inv X pins σ H s)
  (hch:∀b∈ch,(b∈X.ex\/X.s₀.heap.objs.size<=b)/\b≠X.env.locals/\(∀x c,X.env.cells.lookup x=some c->c≠b)/\∀p∈X.pn++pins,p.1≠b)
  (keep:∀b o,b≠X.env.locals->b∉X.fs->b∉ch->s.heap.get? b=some o->H b=none->h'.get? b=some o)
  (slot:∀b o,b≠X.env.locals->b∈X.fs->b∉ch->s.heap.get? b=some o->H b=none->∃sl,h'.get? b=some { o with slots:=sl }) (free:∀b o,b∉ch->s.heap.get? b=some o->H b=none->H' b=none)
  (there:∀b o,b∉ch->s.heap.get? b=some o->∃o',h'.get? b=some o')
  (tups:∀b xs,H b=some (.tup xs)->H' b=some (.tup xs)) (frzs:∀b o u,H b=some (.frz o u)->H' b=some (.frz o u)) (tbls:∀b ps,H b=some (.tbl ps)->∃more,H' b=some (.tbl (ps++more)))
  (ns:∀m,s.heap.Ns X.env.locals m->h'.Ns X.env.locals m) (hok:HOk X.prog X.w H' h') (hg:AllBare g'):
  Inv X pins σ H' { s with heap:=h',gens:=g',drawn:=d',toks:=t' }:=by
 have neL:∀b o,X.s₀.heap.get? b=some o->b≠X.env.locals:=λb o e=>Nat.ne_of_lt (Nat.lt_of_lt_of_le (Heap.lt_size e) I.ok.above)
 have neC:∀b o,X.s₀.heap.get? b=some o->b∉X.ex->b∉ch:=λb o e hx hb=>by
  rcases (hch b hb).1 with z | z
  ·exact hx z
  ·exact absurd (Nat.lt_of_lt_of_le (Heap.lt_size e) z) (Nat.lt_irrefl _)
 have cellK:∀x c,X.env.cells.lookup x=some c->∀v,s.heap.IsCell c v->h'.IsCell c v:=λx c e v ⟨o,ho,hd⟩=>by
  have nch:c∉ch:=λz=>(hch c z).2.2.1 x c e rfl
  by_cases hc:c∈X.fs
  ·obtain ⟨sl,q⟩:=slot c o (I.cne x c e) hc nch ho (I.freeC x c e)
   exact ⟨_,q,hd⟩
  ·exact ⟨o,keep c o (I.cne x c e) hc nch ho (I.freeC x c e),hd⟩
 refine ⟨I.ok,I.os,hg,⟨λb o e n hb hx=>?_,λb o e n hb hx=>?_,λb o e n hx=>?_,λb o e hx=>?_,λb xs e=>tups b xs (I.base.tups b xs e),λb o xs e=>frzs b o xs (I.base.frzs b o xs e),λb ps e=>?_⟩,?_,λx c e=>?_,?_,λx c e=>?_,λp hp=>?_,hok,I.len⟩
 ·exact keep b o (neL b o e) hb (neC b o e hx) (I.base.keep b o e n hb hx) (I.base.free b o e n hx)
 ·obtain ⟨sl,e1⟩:=I.base.slot b o e n hb hx
  obtain ⟨sl',e2⟩:=slot b _ (neL b o e) hb (neC b o e hx) e1 (I.base.free b o e n hx)
  exact ⟨sl',e2⟩
 ·obtain ⟨o',e1⟩:=I.base.there b o e hx
  exact free b o' (neC b o e hx) e1 (I.base.free b o e n hx)
 ·obtain ⟨o',e1⟩:=I.base.there b o e hx
  exact there b o' (neC b o e hx) e1
 ·obtain ⟨m1,e1⟩:=I.base.tbls b ps e
  obtain ⟨m2,e2⟩:=tbls b _ e1
  exact ⟨m1++m2,by rw [e2,Array.append_assoc]⟩
 ·obtain ⟨m,hn,hl⟩:=I.loc
  refine ⟨m,ns m hn,λi x v e1 e2 e3=>?_⟩
  obtain ⟨u,r,l⟩:=hl i x v e1 e2 e3
  refine ⟨u,r,?_⟩
  rcases l with l | ⟨k,c,e,z⟩
  ·exact .inl l
  ·exact .inr ⟨k,c,e,cellK x c e _ z⟩
 ·obtain ⟨v,z⟩:=I.cell x c e
  exact ⟨v,cellK x c e v z⟩
 ·obtain ⟨m,⟨o,_,_,ho,_⟩,_⟩:=I.loc
  exact free _ o (λz=>(hch _ z).2.1 rfl) ho I.free
 ·obtain ⟨v,o,ho,hd⟩:=I.cell x c e
  exact free c o (λz=>(hch c z).2.2.1 x c e rfl) ho (I.freeC x c e)
 ·obtain ⟨e,n,ne,nf,d⟩:=I.pin p hp
  have nch:p.1∉ch:=λz=>(hch p.1 z).2.2.2 p hp rfl
  exact ⟨keep p.1 p.2 ne nf nch e n,free p.1 p.2 nch e n,ne,nf,d⟩
theorem Inv.un {t':Nat}(I:Inv X pins σ H s)(u:Un X.fs [] H H' s.heap h')(hok:HOk X.prog X.w H' h'):Inv X pins σ H' { s with heap:=h',toks:=t' }:=by
 obtain ⟨m,⟨o,es,ep,ho,r⟩,_⟩:=id I.loc
 obtain ⟨sl,hL⟩:=u.any ho I.free (by simp)
 exact I.step (g':=s.gens) (d':=s.drawn) (ch:=[]) (λ_ z=>nomatch z) (λb o _ hb _ e n=>u.keep b o e n hb (by simp)) (λb o _ hb _ e n=>u.slot b o e n hb (by simp)) (λb o _ e n=>u.free b o e n (by simp)) (λb o _ e=>u.there b o e (by simp)) u.tups u.frzs u.tbls (λm' hm=>by
  obtain ⟨o',es',ep',ho',r'⟩:=hm
  rw [ho] at ho'; cases ho'
  exact ⟨_,es',ep',hL,r'⟩) hok I.bare
theorem Inv.call {g':Array GenState}{t':Nat}{d':Drawn}{ch:List Addr}(I:Inv X pins σ H s)(u:Un (frs X.stack) ch H H' s.heap h')(hok:HOk X.prog X.w H' h')(hg:AllBare g')
  (hch:∀b∈ch,(b∈X.ex\/X.s₀.heap.objs.size<=b)/\b≠X.env.locals/\(∀x c,X.env.cells.lookup x=some c->c≠b)/\∀p∈X.pn++pins,p.1≠b):
  Inv X pins σ H' { s with heap:=h',gens:=g',drawn:=d',toks:=t' }:=by
 obtain ⟨m,⟨o,es,ep,ho,r⟩,_⟩:=id I.loc
 obtain ⟨sl,hL⟩:=u.any ho I.free λz=>(hch _ z).2.1 rfl
 exact I.step (ch:=ch) hch (λb o hL hb hc e n=>u.keep b o e n (λz=>(List.mem_cons.mp (I.Ge b z)).elim hL hb) hc) (λb o _ _ hc e n=>u.any e n hc) (λb o hc e n=>u.free b o e n hc) (λb o hc e=>u.there b o e hc) u.tups u.frzs u.tbls (λm' hm=>by
  obtain ⟨o',es',ep',ho',r'⟩:=hm
  rw [ho] at ho'; cases ho'
  exact ⟨_,es',ep',hL,r'⟩) hok hg
theorem Inv.turned {t':Nat}{it:Addr}(I:Inv X pins σ H s)(k:∀b o,b≠it->s.heap.get? b=some o->h'.get? b=some o)(hn:H it=none)(hL:it≠X.env.locals)
  (h1:it∈X.ex\/X.s₀.heap.objs.size<=it) (h2:∀x c,X.env.cells.lookup x=some c->c≠it) (h3:∀p∈X.pn++pins,p.1≠it):Inv X pins σ H { s with heap:=h',toks:=t' }:=by
 have nit:∀b u,H b=some u->b≠it:=λb u e z=>by rw [z,hn] at e; cases e
 refine I.step (g':=s.gens) (d':=s.drawn) (ch:=[it]) (λb hb=>?_) (λb o _ _ hc e _=>k b o (λz=>hc (by simp [z])) e) (λb o _ _ hc e _=>⟨o.slots,k b o (λz=>hc (by simp [z])) e⟩) (λ_ _ _ _ n=>n)
  (λb o hc e=>⟨o,k b o (λz=>hc (by simp [z])) e⟩) (λ_ _ e=>e) (λ_ _ _ e=>e) (λb ps e=>⟨#[],by rw [e]; simp⟩) (λm hm=>?_) (λb u e=>?_) I.bare
 ·have e:b=it:=by simpa using hb
  subst e
  exact ⟨h1,hL,h2,h3⟩
 ·obtain ⟨o,es,ep,ho,r⟩:=hm
  exact ⟨o,es,ep,k _ o (Ne.symm hL) ho,r⟩
 ·refine (I.hok b u e).stay (λc v hc q=>k c v ?_ q) (λ_ q=>q) λ_ _ q=>q
  rcases hc with z | z
  ·rw [z]; exact nit b u e
  ·exact nit c _ z
theorem Inv.tok (I:Inv X pins σ H s)(t:Nat):Inv X pins σ H { s with toks:=t }:=I.un (h':=s.heap) (t':=t) Un.refl I.hok
theorem Inv.kept {t':Nat}(I:Inv X pins σ H s)(k:∀b u,s.heap.get? b=some u->h'.get? b=some u):Inv X pins σ H { s with heap:=h',toks:=t' }:=I.un (Un.kept k) (I.hok.kept k)
theorem Inv.laid {a:Addr}{o:HO}{t':Nat}(I:Inv X pins σ H s)(k:∀b u,s.heap.get? b=some u->h'.get? b=some u)(hp:s.heap.objs.size<=a)(new:eE X.prog X.w (upd H a o) h' a o):
  Inv X pins σ (upd H a o) { s with heap:=h',toks:=t' }:=I.un (Un.laid k hp (I.hok.fresh hp)) (I.hok.laid k hp new)
theorem Inv.write {x e:Addr}{o:HO}{t':Nat}(I:Inv X pins σ H s)(mu:Mut (H x))(he:e=x\/H e=some (.own x))(k:∀b u,b≠e->s.heap.get? b=some u->h'.get? b=some u)(heo:∃u,h'.get? e=some u)
  (new:eE X.prog X.w (upd H x o) h' x o):Inv X pins σ (upd H x o) { s with heap:=h',toks:=t' }:=I.un (Un.write mu he k heo) (I.hok.write mu he k heo new)
theorem Inv.weak {σ':List (Option V)}(I:Inv X pins σ H s)(hl:σ'.length=σ.length)(w:∀(i:Nat) v,σ'[i]? = some (some v)->σ[i]? = some (some v)):Inv X pins σ' H s:=
 ⟨I.ok,I.os,I.bare,I.base,let ⟨m,hn,hl'⟩:=I.loc; ⟨m,hn,λi x v e1 e2 e3=>hl' i x v e1 (w i v e2) e3⟩,I.cell,I.free,I.freeC,I.pin,I.hok,hl.trans I.len⟩
theorem Inv.Nr {pins':List (Addr×Obj)}(I:Inv X pins σ H s)(h:∀p∈pins',s.heap.get? p.1=some p.2/\H p.1=none/\p.1≠X.env.locals/\p.1∉X.fs/\∀v,p.2.data≠.cell v):Inv X pins' σ H s:=
 ⟨I.ok,I.os,I.bare,I.base,I.loc,I.cell,I.free,I.freeC,λp hp=>(List.mem_append.mp hp).elim (λz=>I.pin p (List.mem_append_left _ z)) (h p),I.hok,I.len⟩
theorem GP {N:List Str}(hN:N.Nodup){i j:Nat}{x:Str}(a:N[i]? = some x)(b:N[j]? = some x):i=j:=by
 obtain ⟨h1,e1⟩:=List.getElem?_eq_some_iff.mp a
 obtain ⟨h2,e2⟩:=List.getElem?_eq_some_iff.mp b
 exact (List.getElem_inj hN).mp (e1.trans e2.symm)
theorem Cw {M:Model}{A:Around}{E:Value->Shared->Prop}{i:Nat}{x:Str}{v:V}{u:Value}{Q:Unit->Shared->Prop}(I:Inv X pins σ H s)(hN:X.N.Nodup)(hi:X.N[i]? = some x)(hx:Loc X.env.scope x)(r:RelV v u)
  (h:∀s',Inv X pins (σ.set i (some v)) H s'->(∃a,Heap.SameBut a s.heap s'.heap/\(a=X.env.locals\/X.env.cells.lookup x=some a))->Q () s') (hf:X.fn x=true\/X.env.scope.names.lookup x=some .local:=by first | exact .inl rfl | exact .inr rfl | assumption):wpAny M A (storeName X.env x u) Q E s:=by
 obtain ⟨m,hn,hl⟩:=id I.loc
 have hcls:(X.env.scope.kind == .class || (X.env.scope.kind == .module && X.env.locals != X.env.globals))=false:=by rw [I.ok.kind]; rfl
 have hiσ:i<σ.length:=by rw [I.len]; exact (List.getElem?_eq_some_iff.mp hi).1
 have cne:=I.cne
 have tracked:∀{a:Addr} {h':Heap},(∃o,s.heap.get? a=some o/\H a=none)->Heap.SameBut a s.heap h'->HOk X.prog X.w H h':=λ{a h'} ha hs b ob e=>by
  obtain ⟨_,_,hfree⟩:=ha
  refine (I.hok b ob e).stay (λc w' hc q=>(hs.2 c ?_).trans q) (λ_ q=>q) λ_ _ q=>q
  rintro rfl
  rcases hc with rfl | hc
  ·rw [hfree] at e; cases e
  ·rw [hfree] at hc; cases hc
 rcases hx with hk | hk
 ·refine wpAny_storeName_local hk hn (λh' hn' hs=>?_) hcls
  obtain ⟨oL,_,_,hoL,_⟩:=id hn
  refine h _ ⟨I.ok,I.os,I.bare,⟨λb o e n hb hx=>?_,λb o e n hb hx=>?_,I.base.free,λb o e hx=>?_,I.base.tups,I.base.frzs,I.base.tbls⟩,⟨_,hn',λj y v' e1 e2 e3=>?_⟩,λy c e=>?_,I.free,I.freeC,λp hp=>?_,tracked ⟨oL,hoL,I.free⟩ hs,by simpa using I.len⟩ ⟨_,hs,.inl rfl⟩
  ·exact (hs.2 b (Nat.ne_of_lt (Nat.lt_of_lt_of_le (Heap.lt_size e) I.ok.above))).trans (I.base.keep b o e n hb hx)
  ·obtain ⟨sl,e1⟩:=I.base.slot b o e n hb hx
   exact ⟨sl,(hs.2 b (Nat.ne_of_lt (Nat.lt_of_lt_of_le (Heap.lt_size e) I.ok.above))).trans e1⟩
  ·obtain ⟨o',e1⟩:=I.base.there b o e hx
   exact ⟨o',(hs.2 b (Nat.ne_of_lt (Nat.lt_of_lt_of_le (Heap.lt_size e) I.ok.above))).trans e1⟩
  ·by_cases hj:j=i
   ·subst hj
    rw [hi] at e1; cases e1
    rw [List.getElem?_set_self hiσ] at e2
    cases e2
    exact ⟨u,r,.inl ⟨hk,by simp⟩⟩
   ·rw [List.getElem?_set_ne (Ne.symm hj)] at e2
    obtain ⟨u',r',q⟩:=hl j y v' e1 e2 e3
    refine ⟨u',r',?_⟩
    rcases q with ⟨k,e⟩ | ⟨k,c,e,z⟩
    ·refine .inl ⟨k,?_⟩
     have:y≠x:=λe=>hj (GP hN e1 (e ▸ hi))
     simp [this,e]
    ·exact .inr ⟨k,c,e,z.sameBut hs (cne y c e)⟩
  ·obtain ⟨w',z⟩:=I.cell y c e
   exact ⟨w',z.sameBut hs (cne y c e)⟩
  ·obtain ⟨e,n,ne,nf,d⟩:=I.pin p hp
   exact ⟨(hs.2 p.1 ne).trans e,n,ne,nf,d⟩
 ·have hfn:X.fn x=true:=by
   rcases hf with z | z
   ·exact z
   ·rw [z] at hk; cases hk
  obtain ⟨c,hc⟩:=I.ok.has x (.inl hk)
  obtain ⟨w',z⟩:=I.cell x c hc
  refine wpAny_storeName_cell I.ok.kind hk hc z (λh' hc' hs=>?_)
  obtain ⟨oc,hoc,hocd⟩:=id z
  refine h { s with heap:=h' } ⟨I.ok,I.os,I.bare,⟨λb o e n hb hx=>?_,λb o e n hb hx=>?_,I.base.free,λb o e hx=>?_,I.base.tups,I.base.frzs,I.base.tbls⟩,⟨m,hn.sameBut hs (Ne.symm (cne x c hc)),λj y v' e1 e2 e3=>?_⟩,λy c' e=>?_,I.free,I.freeC,λp hp=>?_,tracked ⟨oc,hoc,I.freeC x c hc⟩ hs,by simpa using I.len⟩ ⟨c,hs,.inr hc⟩
  ·exact (hs.2 b (Nat.ne_of_lt (Nat.lt_of_lt_of_le (Heap.lt_size e) (I.ok.cab x c hfn hc)))).trans (I.base.keep b o e n hb hx)
  ·obtain ⟨sl,e1⟩:=I.base.slot b o e n hb hx
   exact ⟨sl,(hs.2 b (Nat.ne_of_lt (Nat.lt_of_lt_of_le (Heap.lt_size e) (I.ok.cab x c hfn hc)))).trans e1⟩
  ·obtain ⟨o',e1⟩:=I.base.there b o e hx
   exact ⟨o',(hs.2 b (Nat.ne_of_lt (Nat.lt_of_lt_of_le (Heap.lt_size e) (I.ok.cab x c hfn hc)))).trans e1⟩
  ·by_cases hj:j=i
   ·subst hj
    rw [hi] at e1; cases e1
    rw [List.getElem?_set_self hiσ] at e2
    cases e2
    exact ⟨u,r,.inr ⟨.inl hk,c,hc,hc'⟩⟩
   ·rw [List.getElem?_set_ne (Ne.symm hj)] at e2
    obtain ⟨u',r',q⟩:=hl j y v' e1 e2 e3
    refine ⟨u',r',?_⟩
    rcases q with q | ⟨k,c',e,z'⟩
    ·exact .inl q
    ·refine .inr ⟨k,c',e,z'.sameBut hs ?_⟩
     rintro rfl
     exact hj (GP hN e1 (I.ok.inj _ _ _ e hc ▸ hi))
  ·by_cases hcc:c'=c
   ·subst hcc; exact ⟨_,hc'⟩
   ·obtain ⟨w2,z2⟩:=I.cell y c' e
    exact ⟨w2,z2.sameBut hs hcc⟩
  ·obtain ⟨e,n,ne,nf,d⟩:=I.pin p hp
   refine ⟨(hs.2 p.1 ?_).trans e,n,ne,nf,d⟩
   intro q
   rw [q,hoc] at e
   have q':oc=p.2:=Option.some.inj e
   exact d w' (by rw [← q']; exact hocd)
theorem vJ {M:Model}{A:Around}{E:Value->Shared->Prop}{i:Nat}{x:Str}{v:V}{u:Value}{Q:Unit->Shared->Prop}(I:Inv X pins σ H s)(hN:X.N.Nodup)(hi:X.N[i]? = some x)(hx:Loc X.env.scope x)(r:RelV v u)
  (h:∀s',Inv X pins (σ.set i (some v)) H s'->Q () s') (hf:X.fn x=true\/X.env.scope.names.lookup x=some .local:=by first | exact .inl rfl | exact .inr rfl | assumption):wpAny M A (storeName X.env x u) Q E s:=
 Cw I hN hi hx r (λs' I' _=>h s' I') hf
theorem Inv.call' {s':Shared}{ch:List Addr}(I:Inv X pins σ H s)(ho:s'.os=s.os)(u:Un (frs X.stack) ch H H' s.heap s'.heap)(hok:HOk X.prog X.w H' s'.heap)(hg:AllBare s'.gens)
  (hch:∀b∈ch,(b∈X.ex\/X.s₀.heap.objs.size<=b)/\b≠X.env.locals/\(∀x c,X.env.cells.lookup x=some c->c≠b)/\∀p∈X.pn++pins,p.1≠b):Inv X pins σ H' s':=by
 obtain ⟨h',g',d',t',o'⟩:=s'
 have e:o'=s.os:=ho
 subst e
 exact I.call (g':=g') (t':=t') (d':=d') u hok hg hch
end
noncomputable abbrev XK:=Value->Option Addr->Hp->Prop
noncomputable abbrev St:=List (Option V)
noncomputable abbrev VK:=V->Hp->Prop
noncomputable abbrev TE:=St->Hp->VK->Prop
noncomputable abbrev TT:=St->Hp->(Bool->Hp->Prop)->Prop
noncomputable abbrev TA:=St->Hp->(List V->Hp->Prop)->Prop
structure Ends where
 nx:St->Hp->Prop
 rt:VK
 bk:St->Hp->Prop:=λ_ _=>False
 ct:St->Hp->Prop:=λ_ _=>False
noncomputable abbrev TS:=Ends->St->Hp->Prop
noncomputable def EP (X:Cx)(pins:List (Addr×Obj))(σ:St)(Q:VK)(u:Value)(s':Shared):Prop:=∃v H',Inv X pins σ H' s'/\RelV v u/\Q v H'
noncomputable def TP (X:Cx)(pins:List (Addr×Obj))(σ:St)(Q:Bool->Hp->Prop)(b:Bool)(s':Shared):Prop:=∃H',Inv X pins σ H' s'/\Q b H'
noncomputable def AP (X:Cx)(pins:List (Addr×Obj))(σ:St)(Q:List V->Hp->Prop)(us:List Value)(s':Shared):Prop:=∃vs H',Inv X pins σ H' s'/\Vals vs us/\Q vs H'
noncomputable def SP (X:Cx)(pins:List (Addr×Obj))(D:Ends)(f:Flow)(s':Shared):Prop:=
 match f with
 | .next=>∃σ' H',Inv X pins σ' H' s'/\D.nx σ' H'
 | .brk=>∃σ' H',Inv X pins σ' H' s'/\D.bk σ' H'
 | .cont=>∃σ' H',Inv X pins σ' H' s'/\D.ct σ' H'
 | .ret u=>∃v σ' H',Inv X pins σ' H' s'/\RelV v u/\D.rt v H'
noncomputable def PE (X:Cx)(e:Expr)(t:TE):Prop:=
 ∀(pins:List (Addr×Obj)) (s:Shared) (σ:St) (H:Hp) (Q:VK),Inv X pins σ H s->t σ H Q->wpAny (model X.prog X.w) X.A (eval e X.env) (EP X pins σ Q) X.xe s
noncomputable def PT (X:Cx)(e:Expr)(t:TT):Prop:=
 ∀(pins:List (Addr×Obj)) (s:Shared) (σ:St) (H:Hp) (Q:Bool->Hp->Prop),Inv X pins σ H s->t σ H Q->wpAny (model X.prog X.w) X.A (isTrue e X.env (eval e X.env)) (TP X pins σ Q) X.xe s
noncomputable def PW (X:Cx)(e:Expr)(t:TT):Prop:=
 ∀(whole:Sem Value) (pins:List (Addr×Obj)) (s:Shared) (σ:St) (H:Hp) (Q:Bool->Hp->Prop),Inv X pins σ H s->t σ H Q->wpAny (model X.prog X.w) X.A (isTrue e X.env whole) (TP X pins σ Q) X.xe s
theorem PW.pt {X:Cx}{e:Expr}{t:TT}(h:PW X e t):PT X e t:=h _
noncomputable def PA (X:Cx)(es:List Expr)(t:TA):Prop:=
 ∀(pos:Pos) (pins:List (Addr×Obj)) (s:Shared) (σ:St) (H:Hp) (Q:List V->Hp->Prop),Inv X pins σ H s->t σ H Q->wpAny (model X.prog X.w) X.A (spliced (backTo pos (starEach es X.env))) (AP X pins σ Q) X.xe s
noncomputable def PS (X:Cx)(st:Stmt)(t:TS):Prop:=
 ∀(pins:List (Addr×Obj)) (s:Shared) (σ:St) (H:Hp) (D:Ends),Inv X pins σ H s->t D σ H->wpAny (model X.prog X.w) X.A (exec st X.env) (SP X pins D) X.xe s
noncomputable def PSs (X:Cx)(st:List Stmt)(t:TS):Prop:=
 ∀(pins:List (Addr×Obj)) (s:Shared) (σ:St) (H:Hp) (D:Ends),Inv X pins σ H s->t D σ H->wpAny (model X.prog X.w) X.A (execs st X.env) (SP X pins D) X.xe s
theorem thn {α:Type}{t:Sem α}{Q Q':α->Shared->Prop}{M:Model}{A:Around}{E:Value->Shared->Prop}{s:Shared}(h:wpAny M A t Q E s)(hQ:∀a s,Q a s->Q' a s):wpAny M A t Q' E s:=wpAny_mono h hQ λ_ _ x=>x
open PySem PySem.Spec PyProof.Rows
section
variable {X:Cx}
theorem bin {a b:Expr}{ta tb:TE}(ha:PE X a ta)(hb:PE X b tb){pins:List (Addr×Obj)}{s:Shared}{σ:St}{H:Hp}{R:V->V->Hp->Prop}(I:Inv X pins σ H s)(h:ta σ H λx H1=>tb σ H1 λy H2=>R x y H2)
  {α:Type} {Q:α->Shared->Prop} {f:Value->Value->Sem α}
  (hf:∀v u s2 x y H2,Inv X pins σ H2 s2->RelV x v->RelV y u->R x y H2->wpAny (model X.prog X.w) X.A (f v u) Q X.xe s2):
  wpAny (model X.prog X.w) X.A (eval a X.env) (λv s₁=>wpAny (model X.prog X.w) X.A (eval b X.env) (λu s₂=>wpAny (model X.prog X.w) X.A (f v u) Q X.xe s₂) X.xe s₁) X.xe s:=by
 refine thn (ha pins s σ H _ I h) λv s1 hE=>xq2 hE λx H1 I1 r1 q1=>?_
 refine thn (hb pins s1 σ H1 _ I1 q1) λu s2 hE=>xq2 hE λy H2 I2 r2 q2=>?_
 exact hf v u s2 x y H2 I2 r1 r2 q2
noncomputable def abA (i:Nat):TE:=λσ H Q=>∃v,σ[i]? = some (some v)/\Q v H
noncomputable def tC (v:V):TE:=λ_ H Q=>Q v H
theorem jC {i:Nat}{x:Str}{pos:Pos}(hN:X.N[i]? = some x)(hv:Vis X.env.scope x)(hd:(x == ("__debug__" : Str))=false:=by decide)(hcd:(x == ("__classdict__" : Str))=false:=by decide):PE X (.Name x pos) (abA i):=by
 intro pins s σ H Q I h
 obtain ⟨v,e,h⟩:=h
 obtain ⟨m,hn,hl⟩:=I.loc
 obtain ⟨u,r,l⟩:=hl i x v hN e hv
 have fin:EP X pins σ Q u s:=⟨v,H,I,r,h⟩
 rcases l with ⟨hk,hm⟩ | ⟨hk,c,hc,hcell⟩
 ·exact wpAny_Name (wpAny_loadName_local I.ok.kind hk hn hm fin) hd
 ·rcases hk with hk | hk
  ·exact wpAny_Name (wpAny_loadName_cell I.ok.kind hk hc hcell fin) hd
  ·exact wpAny_Name (wpAny_loadName_free I.ok.kind hk hc hcell fin hcd) hd
theorem aah {i j pos}:PE X (.Constant (.int i) j pos) (tC (.int i)):=λ_ _ _ H _ I h=>wpAny_Constant_int ⟨.int i,H,I.tok _,⟨_,rfl⟩,h⟩
theorem abl {b j pos}:PE X (.Constant (.bool b) j pos) (tC (.bl b)):=λ_ _ _ H _ I h=>Constant_bool ⟨.bl b,H,I,rfl,h⟩
theorem aau {x j pos}:PE X (.Constant (.str x) j pos) (tC (.str x)):=λ_ _ _ H _ I h=>Calls.Constant_str ⟨.str x,H,I.tok _,⟨_,rfl⟩,h⟩
noncomputable def Gl (X:Cx)(x:Str):Prop:=X.env.kindOf x=some .globalImplicit
theorem NB {E:Value->Shared->Prop}{pins:List (Addr×Obj)}{s:Shared}{σ:St}{H:Hp}{x:Str}{u:Value}{pos:Pos}{Q:Value->Shared->Prop}(I:Inv X pins σ H s)(hg:Gl X x)(hm:X.mg x=some u)(h:Q u s)
  (hd:(x == ("__debug__" : Str))=false:=by decide):wpAny (model X.prog X.w) X.A (eval (.Name x pos) X.env) Q E s:=
 Calls.Name_function_global I.ok.kind hg (Calls.loadGlobal_global (by rw [I.ok.glob]; exact I.mod.glob.keeps I.bk) hm h) hd
theorem tH {E:Value->Shared->Prop}{pins:List (Addr×Obj)}{s:Shared}{σ:St}{H:Hp}{x:Str}{u:Value}{pos:Pos}{Q:Value->Shared->Prop}(I:Inv X pins σ H s)(hg:Gl X x)(hm:X.mg x=none)(hv:bootBuiltins x=some u)(h:Q u s)
  (hn:x≠"__name__":=by decide) (hd:(x == ("__debug__" : Str))=false:=by decide):wpAny (model X.prog X.w) X.A (eval (.Name x pos) X.env) Q E s:=by
 obtain ⟨mb,h1,h2⟩:=I.mod.blt
 exact Calls.Name_function_global I.ok.kind hg (Calls.loadGlobal_builtin (by rw [I.ok.glob]; exact I.mod.glob.keeps I.bk) hm (by rw [I.ok.blt]; exact h1.keeps I.bk) ((h2 x hn).trans hv) h) hd
theorem Xy {x:Str}{v:V}{u:Value}{pos:Pos}(hg:Gl X x)(hm:X.mg x=some u)(r:RelV v u)(hd:(x == ("__debug__" : Str))=false:=by decide):PE X (.Name x pos) (tC v):=
 λ_ _ _ H _ I h=>NB I hg hm ⟨v,H,I,r,h⟩ hd
theorem W4 {x:Str}{v:V}{u:Value}{pos:Pos}(hg:Gl X x)(hm:X.mg x=none)(hv:bootBuiltins x=some u)(r:RelV v u)(hn:x≠"__name__":=by decide)(hd:(x == ("__debug__" : Str))=false:=by decide):PE X (.Name x pos) (tC v):=
 λ_ _ _ H _ I h=>tH I hg hm hv ⟨v,H,I,r,h⟩ hn hd
variable {a b:Expr}{ta tb:TE}{pos:Pos}
noncomputable def PC (X:Cx)(op:CmpOp)(a b:Expr)(t:TE):Prop:=
 ∀(pins:List (Addr×Obj)) (s:Shared) (σ:St) (H:Hp) (Q:VK),Inv X pins σ H s->t σ H Q->
  wpAny (model X.prog X.w) X.A (eval a X.env) (λv s₁=>wpAny (model X.prog X.w) X.A (eval b X.env) (λu s₂=>wpAny (model X.prog X.w) X.A (compareOp op v u) (EP X pins σ Q) X.xe s₂) X.xe s₁) X.xe s
theorem U3 (b:Expr){op:CmpOp}(h:op≠.In)(h2:op≠.NotIn):behindInMarks op b=false:=by
 have e1:(op == CmpOp.In)=false:=by cases op <;> first | rfl | exact absurd rfl h
 have e2:(op == CmpOp.NotIn)=false:=by cases op <;> first | rfl | exact absurd rfl h2
 cases b <;> simp [behindInMarks,e1,e2]
noncomputable def tB (t:TE):TT:=λσ H Q=>t σ H λx H1=>∃c,x=.bl c/\Q c H1
theorem ace {op:CmpOp}{t:TE}(h:PC X op a b t)(h1:behindInMarks op b=false:=by first | exact U3 _ (by decide) (by decide) | rfl):PT X (.Compare a [op] [b] pos) (tB t):=by
 intro pins s σ H Q I hw
 refine wpAny_isTrue_Compare1 (thn (h pins s σ H _ I hw) λv s1 h1=>thn h1 λu s2 h2=>thn h2 λc s3 hE=>xq2 hE λx H1 I1 r1 q1=>?_) h1
 obtain ⟨d,rfl,q⟩:=q1
 cases r1
 exact wpAny_truthy_bool ⟨H1,I1,q⟩
theorem YB {e:Expr}{t:TE}(h:PE X e t)(he:∀whole,isTrue e X.env whole=(do let v ← whole; standAt e.pos; holding [v] (truthy v)):=by intro _; rfl):PT X e (tB t):=by
 intro pins s σ H Q I hw
 refine isTrue_plain (thn (h pins s σ H _ I hw) λv s1 hE=>xq2 hE λx H1 I1 r1 q1=>?_) (he _)
 obtain ⟨d,rfl,q⟩:=q1
 cases r1
 exact wpAny_truthy_bool ⟨H1,I1,q⟩
variable {tA tB':TT}{rest:List Expr}
noncomputable def acq (t u:TT):TT:=λσ H Q=>t σ H λc H1=>if c=true then u σ H1 Q else Q false H1
noncomputable def tOr (t u:TT):TT:=λσ H Q=>t σ H λc H1=>if c=true then Q true H1 else u σ H1 Q
noncomputable def acp (t:TT):TT:=λσ H Q=>t σ H λc H1=>Q (!c) H1
theorem WQ (ha:PT X a tA):PW X (.BoolOp .And [a] pos) tA:=by
 intro wh pins s σ H Q I h
 refine isTrue_and (thn (ha pins s σ H Q I h) λc s1 e=>?_)
 cases c with
 |true=>exact isTrue_and_nil e
 |false=>exact e
theorem aap (ha:PT X a tA):PW X (.BoolOp .Or [a] pos) tA:=by
 intro wh pins s σ H Q I h
 refine isTrue_or (thn (ha pins s σ H Q I h) λc s1 e=>?_)
 cases c with
 |false=>exact isTrue_or_nil e
 |true=>exact e
theorem Z6 (ha:PT X a tA)(hb:PW X (.BoolOp .And (b::rest) pos) tB'):PW X (.BoolOp .And (a::b::rest) pos) (acq tA tB'):=by
 intro wh pins s σ H Q I h
 refine isTrue_and (thn (ha pins s σ H _ I h) λc s1 ⟨H1,I1,q1⟩=>?_)
 cases c with
 |true=>exact hb wh pins s1 σ H1 Q I1 q1
 |false=>exact ⟨H1,I1,q1⟩
theorem aaS (ha:PT X a tA)(hb:PW X (.BoolOp .Or (b::rest) pos) tB'):PW X (.BoolOp .Or (a::b::rest) pos) (tOr tA tB'):=by
 intro wh pins s σ H Q I h
 refine isTrue_or (thn (ha pins s σ H _ I h) λc s1 ⟨H1,I1,q1⟩=>?_)
 cases c with
 |true=>exact ⟨H1,I1,q1⟩
 |false=>exact hb wh pins s1 σ H1 Q I1 q1
theorem YX (ha:PT X a tA):PT X (.UnaryOp .Not a pos) (acp tA):=by
 intro pins s σ H Q I h
 exact isTrue_not (ha pins s σ H (λc H1=>Q (!c) H1) I h)
noncomputable def aa9 (ta tb:TE):TE:=λσ H Q=>ta σ H λx H1=>∃c,x=.bl c/\if c=true then tb σ H1 Q else Q (.bl false) H1
noncomputable def acA (ta tb:TE):TE:=λσ H Q=>ta σ H λx H1=>∃c,x=.bl c/\if c=true then Q (.bl true) H1 else tb σ H1 Q
theorem aav {op}{t:TE}(h:PE X a t):PE X (.BoolOp op [a] pos) t:=λpins s σ H Q I hw=>BoolOp_one (h pins s σ H Q I hw)
theorem YM (ha:PE X a ta)(hb:PE X (.BoolOp .And (b::rest) pos) tb):PE X (.BoolOp .And (a::b::rest) pos) (aa9 ta tb):=by
 intro pins s σ H Q I h
 refine BoolOp_and (thn (ha pins s σ H _ I h) λv s1 hE=>xq2 hE λx H1 I1 r1 q1=>?_)
 obtain ⟨c,rfl,q1⟩:=q1
 cases r1
 refine wpAny_truthy_bool ?_
 cases c with
 |true=>exact hb pins s1 σ H1 Q I1 q1
 |false=>exact ⟨.bl false,H1,I1,rfl,q1⟩
theorem abI (ha:PE X a ta)(hb:PE X (.BoolOp .Or (b::rest) pos) tb):PE X (.BoolOp .Or (a::b::rest) pos) (acA ta tb):=by
 intro pins s σ H Q I h
 refine BoolOp_or (thn (ha pins s σ H _ I h) λv s1 hE=>xq2 hE λx H1 I1 r1 q1=>?_)
 obtain ⟨c,rfl,q1⟩:=q1
 cases r1
 refine wpAny_truthy_bool ?_
 cases c with
 |false=>exact hb pins s1 σ H1 Q I1 q1
 |true=>exact ⟨.bl true,H1,I1,rfl,q1⟩
end
open PySem PySem.Spec PyProof.Rows
noncomputable def SqL (K:W.Frag)(H:Hp)(a:Addr)(xs:List V):Prop:=
 Rd H a (.lst xs) ∨
  ∃(o:Obj) (its:Array Value) (n:Nat),K.lookup a=some o/\o.cls=.type "list"/\o.dict=none/\o.data=.seq its n/\its.size<=sizeLine/\Vals xs its.toList
noncomputable def SqT (K:W.Frag)(H:Hp)(a:Addr)(xs:List V):Prop:=
 Rd H a (.tup xs) ∨
  ∃(o:Obj) (its:Array Value) (n:Nat),K.lookup a=some o/\o.cls=.type "tuple"/\o.data=.seq its n/\its.size<=sizeLine/\Vals xs its.toList
noncomputable abbrev KTp (K:W.Frag)(a:Addr)(xs:List V):Prop:=
  ∃(o:Obj) (its:Array Value) (n:Nat),K.lookup a=some o/\o.cls=.type "tuple"/\o.data=.seq its n/\its.size<=sizeLine/\Vals xs its.toList
noncomputable def SqU (K:W.Frag)(H:Hp)(a:Addr)(xs:List V):Prop:=H a=some (.tup xs)\/KTp K a xs
theorem SqU.sq {K:W.Frag}{H:Hp}{a:Addr}{xs:List V}(h:SqU K H a xs):SqT K H a xs:=h.elim (λe=>.inl (.inl e)) .inr
theorem SqU.of {K:W.Frag}{H:Hp}{a:Addr}{xs:List V}(h:H a=some (.tup xs)):SqU K H a xs:=.inl h
noncomputable def acf:Value->Option V
 | .none=>some .non
 | .bool b=>some (.bl b)
 | .int i _=>some (.int i)
 | .str x _=>some (.str x)
 | .bytes b _=>some (.byt b)
 | .float b _=>some (.flt b)
 | .ref a=>some (.ref a)
 | .type n=>some (.ty n)
 |_=>none
theorem RelV.abs {x:V}{u:Value}(r:RelV x u):acf u=some x:=by
 cases x with
 |non=>cases r; rfl
 |bl _=>cases r; rfl
 |int _=>obtain ⟨t,rfl⟩:=r; rfl
 |str _=>obtain ⟨t,rfl⟩:=r; rfl
 |byt _=>obtain ⟨t,rfl⟩:=r; rfl
 |flt _=>obtain ⟨t,rfl⟩:=r; rfl
 |ref _=>cases r; rfl
 |ty _=>cases r; rfl
theorem RelV.inj {x y:V}{u:Value}(r:RelV x u)(q:RelV y u):x=y:=Option.some.inj (r.abs.symm.trans q.abs)
theorem Vals.inj:∀{xs ys:List V} {us:List Value},Vals xs us->Vals ys us->xs=ys
 |_,_,_,.nil,.nil=>rfl
 |_,_,_,.cons r t,.cons r' t'=>by rw [r.inj r',Vals.inj t t']
section
variable {X:Cx}{pins:List (Addr×Obj)}{σ:St}{H:Hp}{s:Shared}{a:Addr}{xs ys:List V}
theorem SqL.of {K:W.Frag}(h:H a=some (.lst xs)):SqL K H a xs:=.inl (.inl h)
theorem Inv.list (I:Inv X pins σ H s)(h:SqL X.K H a xs):∃its:List Value,Vals xs its/\PlainL s.heap a its.toArray/\xs.length<=sizeLine:=by
 rcases h with h | ⟨o,its,n,hk,hc,hd,hs,hz,r⟩
 ·obtain ⟨z,its,n,r,e⟩:=h.ok I.hok
  exact ⟨its,r,⟨_,n,e,rfl,rfl,rfl⟩,z⟩
 ·refine ⟨its.toList,r,⟨o,n,I.kIn a o hk,hc,hd,by simpa using hs⟩,?_⟩
  have e:=r.length
  simp only [Array.length_toList] at e
  omega
theorem Inv.tuple (I:Inv X pins σ H s)(h:SqT X.K H a xs):∃its:List Value,Vals xs its/\IsTup s.heap a its.toArray/\xs.length<=sizeLine:=by
 rcases h with h | ⟨o,its,n,hk,hc,hs,hz,r⟩
 ·obtain ⟨z,its,r,p⟩:=h.ok I.hok
  exact ⟨its,r,p,z⟩
 ·refine ⟨its.toList,r,⟨o,I.kIn a o hk,hc,n,by simpa using hs⟩,?_⟩
  have e:=r.length
  simp only [Array.length_toList] at e
  omega
theorem Inv.G9 (I:Inv X pins σ H s)(h:SqL X.K H a xs)(h':SqL X.K H a ys):xs=ys:=by
 obtain ⟨its,r,⟨o,n,e,_,_,d⟩,_⟩:=I.list h
 obtain ⟨its',r',⟨o',n',e',_,_,d'⟩,_⟩:=I.list h'
 rw [e] at e'; cases e'
 rw [d] at d'
 injection d' with d1 _
 have:its=its':=by simpa using congrArg Array.toList d1
 subst this
 exact r.inj r'
theorem Inv.P0 (I:Inv X pins σ H s)(h:SqT X.K H a xs)(h':SqT X.K H a ys):xs=ys:=by
 obtain ⟨its,r,⟨o,e,_,n,d⟩,_⟩:=I.tuple h
 obtain ⟨its',r',⟨o',e',_,n',d'⟩,_⟩:=I.tuple h'
 rw [e] at e'; cases e'
 rw [d] at d'
 injection d' with d1 _
 have:its=its':=by simpa using congrArg Array.toList d1
 subst this
 exact r.inj r'
end
section
variable {X:Cx}{pins:List (Addr×Obj)}{σ:St}{H:Hp}{s:Shared}{E:Value->Shared->Prop}
end
section
variable {X:Cx}{st:Stmt}{rest:List Stmt}{t u:TS}{e:Expr}{te:TE}{pos:Pos}
noncomputable def aaO:TS:=λD σ H=>D.nx σ H
noncomputable def aaT (t u:TS):TS:=λD σ H=>t { D with nx:=u D } σ H
theorem Ve:PSs X [] aaO:=λ_ _ σ H _ I h=>wpAny_execs_nil ⟨σ,H,I,h⟩
theorem HR (h1:PS X st t)(h2:PSs X rest u):PSs X (st::rest) (aaT t u):=by
 intro pins s σ H D I h
 refine wpAny_execs_cons (thn (h1 pins s σ H { D with nx:=u D } I h) λf s1 q=>?_)
 cases f with
 |next=>
  obtain ⟨σ',H',I',q⟩:=q
  exact h2 pins s1 σ' H' D I' q
 |ret v=>exact q
 |brk=>exact q
 |cont=>exact q
theorem Wj (h1:PS X st t):PSs X [st] t:=by
 intro pins s σ H D I h
 refine wpAny_execs_cons (thn (h1 pins s σ H D I h) λf s1 q=>?_)
 cases f with
 |next=>exact wpAny_execs_nil q
 |ret v=>exact q
 |brk=>exact q
 |cont=>exact q
theorem Inv.quiet {pins:List (Addr×Obj)}{σ:St}{H:Hp}{s:Shared}(I:Inv X pins σ H s):interactive X.env=false:=by simp [interactive,I.ok.kind]
noncomputable def aaB (te:TE):TS:=λD σ H=>te σ H λ_ H1=>D.nx σ H1
theorem vW (he:PE X e te)(hs:swapsWith e none pos.line X.env=pure false:=by rfl):PS X (.Expr e pos) (aaB te):=by
 intro pins s σ H D I h
 exact wpAny_Expr_any (thn (he pins s σ H _ I h) λv s1 hE=>xq2 hE λx H1 I1 r1 q1=>⟨σ,H1,I1,q1⟩) I.quiet hs
noncomputable def acs (te:TE):TS:=λD σ H=>te σ H D.rt
theorem Dk (he:PE X e te):PS X (.Return (some e) pos) (acs te):=by
 intro pins s σ H D I h
 exact wpAny_Return_some (thn (he pins s σ H _ I h) λv s1 hE=>xq2 hE λx H1 I1 r1 q1=>⟨x,σ,H1,I1,r1,q1⟩)
noncomputable def ab6 (c:TT)(t u:TS):TS:=λD σ H=>c σ H λb H1=>if b=true then t D σ H1 else u D σ H1
theorem aaZ {c:Expr}{a b:List Stmt}{tc:TT}(hc:PT X c tc)(ha:PSs X a t)(hb:PSs X b u):PS X (.If c a b pos) (ab6 tc t u):=by
 intro pins s σ H D I h
 refine wpAny_If (thn (hc pins s σ H _ I h) λd s1 ⟨H1,I1,q1⟩=>?_)
 cases d with
 |true=>exact ha pins s1 σ H1 D I1 q1
 |false=>exact hb pins s1 σ H1 D I1 q1
end
noncomputable abbrev TG:=V->St->Hp->(St->Hp->Prop)->Prop
noncomputable abbrev TGs:=List V->St->Hp->(St->Hp->Prop)->Prop
noncomputable def PG (X:Cx)(target:Expr)(t:TG):Prop:=
 ∀(pins:List (Addr×Obj)) (s:Shared) (σ:St) (H:Hp) (v:V) (u:Value) (Q:St->Hp->Prop),Inv X pins σ H s->RelV v u->t v σ H Q->
  wpAny (model X.prog X.w) X.A (assign target X.env u) (λ_ s'=>∃σ' H',Inv X pins σ' H' s'/\Q σ' H') X.xe s
noncomputable def PGs (X:Cx)(ts:List Expr)(t:TGs):Prop:=
 ∀(pins:List (Addr×Obj)) (s:Shared) (σ:St) (H:Hp) (vs:List V) (us:List Value) (Q:St->Hp->Prop),Inv X pins σ H s->Vals vs us->t vs σ H Q->
  wpAny (model X.prog X.w) X.A (assignInOrder ((assignEach ts X.env).map (·.2)) us) (λ_ s'=>∃σ' H',Inv X pins σ' H' s'/\Q σ' H') X.xe s
noncomputable abbrev YL:=V->V->V->Hp->(Hp->Prop)->Prop
noncomputable def aaP (X:Cx)(t:YL):Prop:=
 ∀(pins:List (Addr×Obj)) (s:Shared) (σ:St) (H:Hp) (o i v:V) (ov iv u:Value) (Q:Hp->Prop),Inv X pins σ H s->RelV o ov->RelV i iv->RelV v u->t o i v H Q->
  wpAny (model X.prog X.w) X.A (setItem ov iv u) (λ_ s'=>∃H',Inv X pins σ H' s'/\Q H') X.xe s
section
variable {X:Cx}{pos:Pos}
noncomputable def BR (i:Nat):TG:=λv σ H Q=>Q (σ.set i (some v)) H
theorem WM {i:Nat}{x:Str}(hN:X.N.Nodup)(hi:X.N[i]? = some x)(hx:Loc X.env.scope x)(hf:X.fn x=true\/X.env.scope.names.lookup x=some .local:=by first | exact .inl rfl | exact .inr rfl | assumption):PG X (.Name x pos) (BR i):=by
 intro pins s σ H v u Q I r h
 exact wpAny_assign_Name (vJ I hN hi hx r (λs' I'=>⟨_,H,I',h⟩) hf)
noncomputable def acx:TGs:=λvs σ H Q=>vs=[]/\Q σ H
noncomputable def aaH (t:TG)(u:TGs):TGs:=λvs σ H Q=>∃v r,vs=v::r/\t v σ H λσ' H'=>u r σ' H' Q
theorem V4:PGs X [] acx:=by
 intro pins s σ H vs us Q I r h
 obtain ⟨e,h⟩:=h
 subst e
 cases r
 exact assignInOrder_nil ⟨σ,H,I,h⟩
theorem QW {e:Expr}{es:List Expr}{t:TG}{u:TGs}(h1:PG X e t)(h2:PGs X es u)
  (hs:(assignEach (e::es) X.env).map (·.2)=assign e X.env::(assignEach es X.env).map (·.2):=by rfl):PGs X (e::es) (aaH t u):=by
 intro pins s σ H vs us Q I r h
 obtain ⟨v,vr,e1,h⟩:=h
 subst e1
 cases r with
 |cons r rr=>
  rw [hs]
  refine assignInOrder_cons (thn (h1 pins s σ H _ _ _ I r h) λ_ s1 ⟨σ1,H1,I1,q1⟩=>?_)
  exact h2 pins s1 σ1 H1 _ _ Q I1 rr q1
noncomputable def aci (K:W.Frag)(n:Nat)(t:TGs):TG:=λv σ H Q=>∃a xs,v=.ref a/\SqT K H a xs/\xs.length=n/\t xs σ H Q
theorem Zf {es:List Expr}{k:Nat}{t:TGs}{n:Nat}(hc:X.calm=true)(h:PGs X es t)
  (hn:(assignEach es X.env).length=n:=by rfl) (hst:(assignEach es X.env).findIdx? (·.1)=none:=by rfl):PG X (.Tuple es k pos) (aci X.K n t):=by
 intro pins s σ H v u Q I r hw
 obtain ⟨a,xs,e1,hq,hl,hw⟩:=hw
 subst e1
 cases r
 obtain ⟨its,rv,ht,hz⟩:=I.tuple hq
 refine assign_Tuple_tuple (I.ok.hd hc) ht (by simp [hn,← hl,rv.length]) hst λh' hx=>?_
 have I1:Inv X pins σ H { s with heap:=h' }:=I.kept (t':=s.toks) λb o e=>hx b o (Nat.ne_of_lt (Heap.lt_size e)) e
 exact h pins _ σ H xs _ Q I1 (by simpa using rv) hw
noncomputable def gC (to ti:TE)(t:YL):TG:=λv σ H Q=>to σ H λo H1=>ti σ H1 λi H2=>t o i v H2 λH3=>Q σ H3
theorem Tq {o i:Expr}{to ti:TE}{t:YL}(ho:PE X o to)(hi:PE X i ti)(hs:aaP X t)
  (ha:∀v,assign (.Subscript o i pos) X.env v=(do
   let ov ← holding [v] (eval o X.env)
   let iv ← holding [v,ov] (eval i X.env)
   standAt pos
   holding [v,ov,iv] (setItem ov iv v)
   release [v,ov,iv] []):=by intro _; rfl):PG X (.Subscript o i pos) (gC to ti t):=by
 intro pins s σ H v u Q I r h
 rw [ha]
 refine wpAny_bind (wpAny_holding (thn (ho pins s σ H _ I h) λov s1 hE=>xq2 hE λx H1 I1 r1 q1=>?_))
 refine wpAny_bind (wpAny_holding (thn (hi pins s1 σ H1 _ I1 q1) λiv s2 hE=>xq2 hE λy H2 I2 r2 q2=>?_))
 refine wpAny_bind (wpAny_standAt (wpAny_bind (wpAny_holding (thn (hs pins s2 σ H2 x y v ov iv u _ I2 r1 r2 r q2) λ_ s3 ⟨H3,I3,q3⟩=>?_))))
 exact wpAny_release ⟨σ,H3,I3,q3⟩
noncomputable def Ql (te:TE)(g:TG):TS:=λD σ H=>te σ H λx H1=>g x σ H1 D.nx
theorem JB {tg e:Expr}{te:TE}{g:TG}(he:PE X e te)(hg:PG X tg g)(hs:swapsWithSole [tg] e pos.line X.env=pure false:=by rfl)(hw:swappedStores [tg] e X.env=pure none:=by rfl)
  (h1:(assignEach [tg] X.env).map (·.2)=[assign tg X.env]:=by rfl):PS X (.Assign [tg] e pos) (Ql te g):=by
 intro pins s σ H D I h
 refine wpAny_Assign_stores (thn (he pins s σ H _ I h) λv s1 hE=>xq2 hE λx H1 I1 r1 q1=>?_) hs hw
 rw [h1]
 exact thn (hg pins s1 σ H1 x v _ I1 r1 q1) λ_ s2 q=>q
theorem zM {i:Nat}{x:Str}{e:Expr}{te:TE}{pos':Pos}(hN:X.N.Nodup)(hi:X.N[i]? = some x)(hx:Loc X.env.scope x)(he:PE X e te)(hs:swapsWith e (some (.Name x pos')) pos.line X.env=pure false:=by rfl)(hf:X.fn x=true\/X.env.scope.names.lookup x=some .local:=by first | exact .inl rfl | exact .inr rfl | assumption):
  PS X (.Assign [.Name x pos'] e pos) (Ql te (BR i)):=by
 intro pins s σ H D I h
 refine wpAny_Assign_Name (thn (he pins s σ H _ I h) λv s1 hE=>xq2 hE λy H1 I1 r1 q1=>?_) hs
 exact vJ I1 hN hi hx r1 (λs2 I2=>⟨_,H1,I2,q1⟩) hf
noncomputable def acr (i j:Nat)(ta:TA):TS:=λD σ H=>ta σ H λvs H1=>∃v w,vs=[v,w]/\D.nx ((σ.set i (some v)).set j (some w)) H1
theorem YS {i j:Nat}{x y:Str}{a b:Expr}{ta:TA}{px py pt:Pos}{kt k2 pt2}(hc:X.calm=true)(hN:X.N.Nodup)(hi:X.N[i]? = some x)(hj:X.N[j]? = some y)(hij:i≠j)
  (hx:X.env.scope.names.lookup x=some .local) (hy:X.env.scope.names.lookup y=some .local) (ha:PA X [a,b] ta)
  (hw:swappedStores [.Tuple [.Name x px,.Name y py] kt pt] (.Tuple [a,b] k2 pt2) X.env=pure (some [x,y]))
  (hs:swapsWithSole [.Tuple [.Name x px,.Name y py] kt pt] (.Tuple [a,b] k2 pt2) pos.line X.env=pure false:=by rfl):
  PS X (.Assign [.Tuple [.Name x px,.Name y py] kt pt] (.Tuple [a,b] k2 pt2) pos) (acr i j ta):=by
 intro pins s σ H D I h
 rw [exec_Assign_arm]
 refine wpAny_bind (wpAny_standAt ?_)
 rw [hs]
 refine wpAny_bind (wpAny_pure ?_)
 rw [if_neg (by decide)]
 refine wpAny_bind (Tuple_ (thn (ha _ pins s σ H _ I h) λus s1 hE=>xq2 hE λvs H1 I1 r1 q1=>?_))
 obtain ⟨v,w,e1,q1⟩:=q1
 subst e1
 obtain ⟨u1,u2,rfl,rv,rw'⟩:∃u1 u2,us=[u1,u2]/\RelV v u1/\RelV w u2:=by
  cases r1 with
  |cons p q=>
   cases q with
   |cons p' q'=>
    cases q'
    exact ⟨_,_,rfl,p,p'⟩
 refine wpAny_newObj_type ?_ (by show 2<=sizeLine; decide)
 have I2:Inv X pins σ H1 { s1 with heap:=s1.heap.push { cls:=.type "tuple",data:=.seq [u1,u2].toArray } }:=I1.kept (t':=s1.toks) λb o e=>Heap.get?_push_of_some _ e
 rw [hw]
 refine wpAny_bind (wpAny_pure ?_)
 show wpAny (model X.prog X.w) X.A (do rule "assign.swapped-stores"; let items ← unpackItems (.ref s1.heap.objs.size) 2 none; assignInOrder [λv=>bindName X.env y v,λv=>bindName X.env x v] items.reverse; pure Flow.next) _ _ _
 refine wpAny_bind (wpAny_rule (wpAny_bind (unpackItems_tuple (items:=#[u1,u2]) (I.ok.hd hc) (IsTup.new s1.heap _) λh' hx'=>?_)))
 have I3:=I2.kept (h':=h') (t':=s1.toks) λb o e=>hx' b o (Nat.ne_of_lt (Heap.lt_size e)) e
 show wpAny _ _ (assignInOrder [λv=>bindName X.env y v,λv=>bindName X.env x v] [u2,u1] >>= λ_=>pure Flow.next) _ _ _
 refine wpAny_bind (assignInOrder_cons (wpAny_bindName (vJ I3 hN hj (.inl hy) rw' (λs2 I4=>?_) (.inr hy))))
 refine assignInOrder_cons (wpAny_bindName (vJ I4 hN hi (.inl hx) rv (λs3 I5=>assignInOrder_nil (wpAny_pure ?_)) (.inr hx)))
 rw [List.set_comm _ _ (Ne.symm hij)] at I5
 exact ⟨_,H1,I5,q1⟩
end
section
variable {X:Cx}{pos:Pos}
noncomputable def Yz (c:TT)(tb:TS):TS:=λD σ H=>∃W:Nat->St->Hp->Prop,(∃m,W m σ H)/\∀m σ H,W m σ H->
 c σ H λb H1=>if b=true then ∃N:St->Hp->Prop,(∀σ' H',N σ' H'->∃m',m'<m/\W m' σ' H')/\tb { D with nx:=N,ct:=N,bk:=D.nx } σ H1 else D.nx σ H1
theorem Qu {c:Expr}{body:List Stmt}{tc:TT}{tb:TS}(hp:PassesOwn (model X.prog X.w) X.A X.env X.xe)(hc:PT X c tc)(hb:PSs X body tb):PS X (.While c body [] pos) (Yz tc tb):=by
 intro pins s σ H D I h
 obtain ⟨W,⟨m0,w0⟩,turn⟩:=h
 refine wpAny_While (codeAny_whileLoop (λn s'=>∃σ' H',Inv X pins σ' H' s'/\W n σ' H') ?_ m0 ⟨σ,H,I,w0⟩)
 rintro n s1 ⟨σ1,H1,I1,w1⟩
 refine wpAny_passesOwn hp (thn (hc pins s1 σ1 H1 _ I1 (turn n σ1 H1 w1)) λb s2 ⟨H2,I2,q2⟩=>?_)
 cases b with
 |true=>
  obtain ⟨N,hN,q2⟩:=q2
  rw [if_pos rfl]
  refine wpAny_passesOwn hp (thn (hb pins s2 σ1 H2 _ I2 q2) λf s3 q3=>?_)
  cases f with
  |next=>
   obtain ⟨σ3,H3,I3,n3⟩:=q3
   obtain ⟨m',hm,w3⟩:=hN σ3 H3 n3
   exact ⟨m',hm,σ3,H3,I3,w3⟩
  |cont=>
   obtain ⟨σ3,H3,I3,n3⟩:=q3
   obtain ⟨m',hm,w3⟩:=hN σ3 H3 n3
   exact ⟨m',hm,σ3,H3,I3,w3⟩
  |brk=>exact q3
  |ret v=>exact q3
 |false=>
  rw [if_neg Bool.false_ne_true]
  exact wpAny_execs_nil ⟨σ1,H2,I2,q2⟩
end
structure It where
 go:Nat->Hp->Prop
 yld:Nat->Hp->V->Hp->Prop
 stop:Nat->Hp->Prop
noncomputable def wL (X:Cx)(pins:List (Addr×Obj))(H:Hp)(b:Addr):Prop:=
 H b=none/\b≠X.env.locals/\b∉X.fs/\(b∈X.ex\/X.s₀.heap.objs.size<=b)/\(∀x c,X.env.cells.lookup x=some c->c≠b)/\∀p∈X.pn++pins,p.1≠b
theorem Inv.WR {X:Cx}{pins:List (Addr×Obj)}{σ:St}{H H':Hp}{s:Shared}{b:Addr}(I:Inv X pins σ H s)(hb:s.heap.objs.size<=b)(hn:H' b=none):wL X pins H' b:=by
 refine ⟨hn,Nat.ne_of_gt (Nat.lt_of_lt_of_le I.lt hb),I.acn hb,.inr (Nat.le_trans I.sz hb),λx c e z=>?_,λp hp z=>?_⟩
 ·obtain ⟨v,q⟩:=I.cell x c e
  exact absurd (Nat.lt_of_lt_of_le q.lt (by rw [z]; exact hb)) (Nat.lt_irrefl _)
 ·exact absurd (Nat.lt_of_lt_of_le (Heap.lt_size (I.pin p hp).1) (by rw [z]; exact hb)) (Nat.lt_irrefl _)
structure Turn (P:Program)(w:World)(K:W.Frag)(tg:Expr)(J:It)(fp:List Addr)(it:Addr)(tn:Nat->Heap->Prop):Prop where
 mem:it∈fp
 obj:∀i h,tn i h->∀b∈fp,∃o,h.get? b=some o/\∀v,o.data≠.cell v
 keep:∀i h h',tn i h->(∀b∈fp,∀o,h.get? b=some o->h'.get? b=some o)->tn i h'
 item:∀(X:Cx),X.prog=P->X.w=w->X.K=K->X.calm=true->∀(i:Nat) (pins:List (Addr×Obj)) (s:Shared) (σ:St) (H:Hp) (E:Value->Shared->Prop),Inv X pins σ H s->(∀b∈fp,wL X pins H b)->tn i s.heap->J.go i H->
  wpAny (model P w) X.A (pyNext (.ref it)) (λr s1=>∃u,r=some u/\
   wpAny (model P w) X.A (letOwnedTupleGo tg (.ref it) u) (λ_ s2=>∃x H',Inv X pins σ H' s2/\RelV x u/\J.yld i H x H'/\tn (i+1) s2.heap/\∀b∈fp,H' b=none) E s1) E s
 done:∀(X:Cx),X.prog=P->X.w=w->X.K=K->X.calm=true->∀(i:Nat) (pins:List (Addr×Obj)) (s:Shared) (σ:St) (H:Hp) (E:Value->Shared->Prop),Inv X pins σ H s->(∀b∈fp,wL X pins H b)->tn i s.heap->J.stop i H->
  wpAny (model P w) X.A (pyNext (.ref it)) (λr s1=>r=none/\Inv X pins σ H s1) E s
 self:∀(A:Around) (i:Nat) (s:Shared) (Q:Value->Shared->Prop) (E:Value->Shared->Prop),tn i s.heap->Q (.ref it) s->wpAny (model P w) A (pyIter (.ref it)) Q E s
noncomputable abbrev TI:=St->Hp->(It->Hp->Prop)->Prop
noncomputable def PIE (X:Cx)(pins:List (Addr×Obj))(σ:St)(tg:Expr)(R:It->Hp->Prop)(itv:Value)(s2:Shared):Prop:=
 ∃(it:Addr) (fp:List Addr) (tn:Nat->Heap->Prop) (J:It) (H':Hp),itv=.ref it/\Inv X pins σ H' s2/\Turn X.prog X.w X.K tg J fp it tn/\tn 0 s2.heap/\(∀b∈fp,wL X pins H' b)/\R J H'
noncomputable def PI (X:Cx)(tg iter:Expr)(wi:TI):Prop:=
 ∀(pins:List (Addr×Obj)) (s:Shared) (σ:St) (H:Hp) (R:It->Hp->Prop),Inv X pins σ H s->wi σ H R->
  wpAny (model X.prog X.w) X.A (eval iter X.env) (λv s1=>wpAny (model X.prog X.w) X.A (pyIter v) (PIE X pins σ tg R) X.xe s1) X.xe s
theorem Tn {M : Model} {A : Around} {E : Value → Shared → Prop} {s : Shared} {tg : Expr} {it : Addr} {u : Value} {o : Obj} {n : String} {vs : Array Value} {Q : Unit → Shared → Prop} (ho : s.heap.get? it = some o) (hc : o.cls = .type n) (hd : o.data = .fields vs)
    (hn : ["enumerate", "zip", "dict_itemiterator", "dict_reverseitemiterator", "odict_iterator", "itertools.zip_longest", "itertools.pairwise"].contains n = false) (hQ : Q () s) : wpAny M A (letOwnedTupleGo tg (.ref it) u) Q E s := by
  unfold letOwnedTupleGo
  cases tg <;> first
    | exact wpAny_pure hQ
    | (cases u <;> first
        | exact wpAny_pure hQ
        | (refine wpAny_bind (wpAny_load ho ?_)
           rw [hc, hd]
           show wpAny M A (if (["enumerate", "zip", "dict_itemiterator", "dict_reverseitemiterator", "odict_iterator", "itertools.zip_longest", "itertools.pairwise"].contains n && vs[0]? == some (rawInt _)) = true then _ else _) Q E s
           rw [if_neg (by intro h; rw [hn, Bool.false_and] at h; cases h)]
           exact wpAny_pure hQ))
noncomputable def Itl (K:W.Frag)(a:Addr):It:=
 ⟨λi H=>∃xs x,SqL K H a xs/\xs[i]? = some x,λi H x H'=>H'=H/\∀xs,SqL K H a xs->xs[i]? = some x,λi H=>∃xs,SqL K H a xs/\xs.length<=i⟩
noncomputable def Itt (K:W.Frag)(a:Addr):It:=
 ⟨λi H=>∃xs x,SqT K H a xs/\xs[i]? = some x,λi H x H'=>H'=H/\∀xs,SqT K H a xs->xs[i]? = some x,λi H=>∃xs,SqT K H a xs/\xs.length<=i⟩
noncomputable def Itr (lo:Int)(n:Nat):It:=⟨λi _=>i<n,λi H x H'=>H'=H/\x=.int (lo+i),λi _=>n<=i⟩
theorem PK {P:Program}{w:World}{K:W.Frag}{tg:Expr}(a it:Addr):Turn P w K tg (Itl K a) [it] it (λi h=>h.IsListIter it a i) where
 mem:=by simp
 obj:=λi h st b hb=>by
  have e:b=it:=by simpa using hb
  subst e
  obtain ⟨o,e,c,d⟩:=st
  exact ⟨o,e,λv z=>by rw [d] at z; cases z⟩
 keep:=λi h h' st k=>st.at λo e=>k it (by simp) o e
 item:=by
  intro X hP hw hK hc i pins s σ H E I hf st hg
  subst hP hw hK
  obtain ⟨xs,x,hq,hx⟩:=hg
  obtain ⟨its,rv,p,hz⟩:=I.list hq
  obtain ⟨u,hu,ru⟩:=rv.get hx
  obtain ⟨f0,f1,f2,f3,f4,f5⟩:=hf it (by simp)
  refine wpAny_pyNext_list_item st p.isList (x:=u) (by simpa using hu) λh' st' sb=>?_
  have I1:Inv X pins σ H { s with heap:=h' }:=I.turned (t':=s.toks) (λb o hb e=>(sb.2 b hb).trans e) f0 f1 f3 f4 f5
  obtain ⟨o,e,c,d⟩:=id st'
  exact ⟨u,rfl,Tn (s:={ s with heap:=h' }) e c d (by decide) ⟨x,H,I1,ru,⟨rfl,λys hy=>by rw [I.G9 hy hq]; exact hx⟩,st',λb hb=>(hf b hb).1⟩⟩
 done:=by
  intro X hP hw hK hc i pins s σ H E I hf st hg
  subst hP hw hK
  obtain ⟨xs,hq,hx⟩:=hg
  obtain ⟨its,rv,p,hz⟩:=I.list hq
  obtain ⟨f0,f1,f2,f3,f4,f5⟩:=hf it (by simp)
  have hl:=rv.length
  exact wpAny_pyNext_list_end (I.ok.hd hc) st p.isList (by simp; omega) λh' eb=>⟨rfl,I.turned (t':=s.toks) (λb o hb e=>eb b o hb e) f0 f1 f3 f4 f5⟩
 self:=λ_ _ _ _ _ st h=>wpAny_pyIter_listiter st h
theorem Ko {P:Program}{w:World}{K:W.Frag}{tg:Expr}(a it:Addr):Turn P w K tg (Itt K a) [it] it (λi h=>h.IsTupleIter it a i) where
 mem:=by simp
 obj:=λi h st b hb=>by
  have e:b=it:=by simpa using hb
  subst e
  obtain ⟨o,e,c,d⟩:=st
  exact ⟨o,e,λv z=>by rw [d] at z; cases z⟩
 keep:=λi h h' st k=>st.at λo e=>k it (by simp) o e
 item:=by
  intro X hP hw hK hc i pins s σ H E I hf st hg
  subst hP hw hK
  obtain ⟨xs,x,hq,hx⟩:=hg
  obtain ⟨its,rv,p,hz⟩:=I.tuple hq
  obtain ⟨u,hu,ru⟩:=rv.get hx
  obtain ⟨f0,f1,f2,f3,f4,f5⟩:=hf it (by simp)
  refine wpAny_pyNext_tuple_item st (show s.heap.IsTuple a its.toArray from p) (x:=u) (by simpa using hu) λh' st' sb=>?_
  have I1:Inv X pins σ H { s with heap:=h' }:=I.turned (t':=s.toks) (λb o hb e=>(sb.2 b hb).trans e) f0 f1 f3 f4 f5
  obtain ⟨o,e,c,d⟩:=id st'
  exact ⟨u,rfl,Tn (s:={ s with heap:=h' }) e c d (by decide) ⟨x,H,I1,ru,⟨rfl,λys hy=>by rw [I.P0 hy hq]; exact hx⟩,st',λb hb=>(hf b hb).1⟩⟩
 done:=by
  intro X hP hw hK hc i pins s σ H E I hf st hg
  subst hP hw hK
  obtain ⟨xs,hq,hx⟩:=hg
  obtain ⟨its,rv,p,hz⟩:=I.tuple hq
  obtain ⟨f0,f1,f2,f3,f4,f5⟩:=hf it (by simp)
  have hl:=rv.length
  exact wpAny_pyNext_tuple_end (I.ok.hd hc) st (show s.heap.IsTuple a its.toArray from p) (by simp; omega) λh' eb=>⟨rfl,I.turned (t':=s.toks) (λb o hb e=>eb b o hb e) f0 f1 f3 f4 f5⟩
 self:=λ_ _ _ _ _ st h=>wpAny_pyIter_tupleiter st h
theorem J3 {P:Program}{w:World}{K:W.Frag}{tg:Expr}(it:Addr)(lo:Int)(n:Nat):Turn P w K tg (Itr lo n) [it] it (λi h=>IsRangeIter h it (lo+(i:Nat) * 1) ((n:Int) - (i:Nat)) 1) where
 mem:=by simp
 obj:=λi h st b hb=>by
  have e:b=it:=by simpa using hb
  subst e
  exact ⟨_,st,λv z=>by
   have z':Data.fields _=Data.cell v:=z
   cases z'⟩
 keep:=λi h h' st k=>k it (by simp) _ st
 item:=by
  intro X hP hw hK hc i pins s σ H E I hf st hg
  subst hP hw hK
  obtain ⟨f0,f1,f2,f3,f4,f5⟩:=hf it (by simp)
  have W:=Walks.range (prog:=X.prog) (w:=X.w) (I.ok.hd hc) it lo 1 n
  refine W.item i s _ _ hg st λv h' tk hv st' kk=>?_
  obtain ⟨t,rfl⟩:=hv
  have I1:Inv X pins σ H { s with heap:=h',toks:=tk }:=I.turned (λb o hb e=>kk b o (by simpa using hb) e) f0 f1 f3 f4 f5
  refine ⟨_,rfl,Tn (s:={ s with heap:=h',toks:=tk }) (n:="range_iterator") st' rfl rfl (by decide) ⟨.int (lo+i),H,I1,⟨t,?_⟩,⟨rfl,rfl⟩,st',λb hb=>(hf b hb).1⟩⟩
  rw [Int.mul_one]
 done:=by
  intro X hP hw hK hc i pins s σ H E I hf st hg
  subst hP hw hK
  obtain ⟨f0,f1,f2,f3,f4,f5⟩:=hf it (by simp)
  exact wpAny_pyNext_range_end (I.ok.hd hc) st (by have:n<=i:=hg; omega) λh' eb=>⟨rfl,I.turned (t':=s.toks) (λb o hb e=>eb b o hb e) f0 f1 f3 f4 f5⟩
 self:=λ_ _ _ _ _ st h=>wpAny_pyIter_rangeiter st h
open PySem PySem.Spec PyProof.Rows
section
variable {X:Cx}{tg:Expr}
noncomputable def aaD (K:W.Frag)(tl:TE):TI:=λσ H R=>tl σ H λx H1=>∃a,x=.ref a/\(∃xs,SqL K H1 a xs)/\R (Itl K a) H1
noncomputable def acz (K:W.Frag)(tl:TE):TI:=λσ H R=>tl σ H λx H1=>∃a,x=.ref a/\(∃xs,SqT K H1 a xs)/\R (Itt K a) H1
theorem Nq {l:Expr}{tl:TE}(hl:PE X l tl):PI X tg l (aaD X.K tl):=by
 intro pins s σ H R I h
 refine thn (hl pins s σ H _ I h) λv s1 hE=>xq2 hE λx H1 I1 r1 q1=>?_
 obtain ⟨a,e,⟨xs,hq⟩,q⟩:=q1
 subst e
 cases r1
 obtain ⟨its,rv,p,hz⟩:=I1.list hq
 refine wpAny_pyIter_list p.isList ?_
 refine ⟨s1.heap.objs.size,[s1.heap.objs.size],_,_,H1,rfl,I1.kept (t':=s1.toks) λb o e=>Heap.get?_push_of_some _ e,PK a _,⟨_,Heap.get?_push_size _ rfl,rfl,rfl⟩,λb hb=>?_,q⟩
 have e:b=s1.heap.objs.size:=by simpa using hb
 subst e
 exact I1.WR (Nat.le_refl _) (I1.hok.fresh (Nat.le_refl _))
theorem ZS {l:Expr}{tl:TE}(hl:PE X l tl):PI X tg l (acz X.K tl):=by
 intro pins s σ H R I h
 refine thn (hl pins s σ H _ I h) λv s1 hE=>xq2 hE λx H1 I1 r1 q1=>?_
 obtain ⟨a,e,⟨xs,hq⟩,q⟩:=q1
 subst e
 cases r1
 obtain ⟨its,rv,p,hz⟩:=I1.tuple hq
 refine wpAny_pyIter_tuple (show s1.heap.IsTuple a its.toArray from p) ?_
 refine ⟨s1.heap.objs.size,[s1.heap.objs.size],_,_,H1,rfl,I1.kept (t':=s1.toks) λb o e=>Heap.get?_push_of_some _ e,Ko a _,⟨_,Heap.get?_push_size _ rfl,rfl,rfl⟩,λb hb=>?_,q⟩
 have e:b=s1.heap.objs.size:=by simpa using hb
 subst e
 exact I1.WR (Nat.le_refl _) (I1.hok.fresh (Nat.le_refl _))
theorem Hy {pins:List (Addr×Obj)}{σ:St}{H:Hp}{s:Shared}{R:It->Hp->Prop}{E:Value->Shared->Prop}{lo hi:Int}{t u v:Tok}{tk:Nat}(I:Inv X pins σ H s)(h1:-(2 ^ 62)<=lo)(h2:lo<2 ^ 62)(h3:-(2 ^ 62)<=hi)(h4:hi<2 ^ 62)
  (q:R (Itr lo (hi - lo).toNat) H):wpAny (model X.prog X.w) X.A (pyIter (.ref s.heap.objs.size)) (PIE X pins σ tg R) E { s with heap:=s.heap.push { cls:=.type "range",data:=.fields #[.int lo t,.int hi u,.int 1 v] },toks:=tk }:=by
 refine wpAny_pyIter_range (IsRange.new ..) (small_one h1 h2 h3 h4) ?_
 have I1:Inv X pins σ H { s with heap:=s.heap.push { cls:=.type "range",data:=.fields #[.int lo t,.int hi u,.int 1 v] },toks:=tk }:=I.kept λb o e=>Heap.get?_push_of_some _ e
 refine ⟨(s.heap.push { cls:=.type "range",data:=.fields #[.int lo t,.int hi u,.int 1 v] }).objs.size,[(s.heap.push { cls:=.type "range",data:=.fields #[.int lo t,.int hi u,.int 1 v] }).objs.size],_,_,H,rfl,
  I1.kept (t':=tk) λb o e=>Heap.get?_push_of_some _ e,J3 _ lo (hi - lo).toNat,?_,λb hb=>?_,q⟩
 ·have e1:lo+((0:Nat):Int) * 1=lo:=by simp
  have e2:(((hi - lo).toNat:Nat):Int) - ((0:Nat):Int)=Builtin.Range.rangeSize lo hi 1:=by rw [rangeSize_one]; split <;> omega
  show IsRangeIter _ _ (lo+((0:Nat):Int) * 1) ((((hi - lo).toNat:Nat):Int) - ((0:Nat):Int)) 1
  rw [e1,e2]
  exact Heap.get?_push_size _ rfl
 ·have e:b=(s.heap.push { cls:=.type "range",data:=.fields #[.int lo t,.int hi u,.int 1 v] }).objs.size:=by simpa using hb
  subst e
  exact I1.WR (Nat.le_refl _) (I1.hok.fresh (Nat.le_refl _))
noncomputable def aaM (ta:TA):TI:=λσ H R=>ta σ H λvs H1=>∃j:Int,vs=[.int j]/\-(2 ^ 62)<=j/\j<2 ^ 62/\R (Itr 0 j.toNat) H1
noncomputable def aaJ (ta:TA):TI:=λσ H R=>ta σ H λvs H1=>∃i j:Int,vs=[.int i,.int j]/\(-(2 ^ 62)<=i/\i<2 ^ 62/\-(2 ^ 62)<=j/\j<2 ^ 62)/\R (Itr i (j - i).toNat) H1
theorem Pz {a:Expr}{ta:TA}{p pos:Pos}(hg:Gl X "range")(hm:X.mg "range" = none)(ha:PA X [a] ta)(hs:starEach [a] X.env=[(false,eval a X.env)]:=by rfl):PI X tg (.Call (.Name "range" p) [a] [] pos) (aaM ta):=by
 intro pins s σ H R I h
 refine Call_ (tH I hg hm boot_range (PyProof.Rows.callWith_type1 (thn (ha pos pins s σ H _ I h) λus s1 hE=>xq2 hE λvs H1 I1 r1 q1=>?_) hs rfl))
 obtain ⟨j,e,q1,q2,q⟩:=q1
 subst e
 cases r1 with
 |cons r rr=>
  cases rr
  obtain ⟨t,rfl⟩:=r
  exact call_range_1 (Hy I1 (by omega) (by omega) q1 q2 (by simpa using q))
theorem O4 {a b:Expr}{ta:TA}{p pos:Pos}(hg:Gl X "range")(hm:X.mg "range" = none)(ha:PA X [a,b] ta)(hs:starEach [a,b] X.env=[(false,eval a X.env),(false,eval b X.env)]:=by rfl)(hs2:starEach [b] X.env=[(false,eval b X.env)]:=by rfl):
  PI X tg (.Call (.Name "range" p) [a,b] [] pos) (aaJ ta):=by
 intro pins s σ H R I h
 refine Call_ (tH I hg hm boot_range (PyProof.Rows.callWith_type1 (thn (ha pos pins s σ H _ I h) λus s1 hE=>xq2 hE λvs H1 I1 r1 q1=>?_) (by rw [hs,hs2]) (by rw [hs2]; rfl)))
 obtain ⟨i,j,e,⟨q1,q2,q3,q4⟩,q⟩:=q1
 subst e
 cases r1 with
 |cons r rr=>
  cases rr with
  |cons r' rr=>
   cases rr
   obtain ⟨t,rfl⟩:=r
   obtain ⟨t',rfl⟩:=r'
   exact call_range_2 (Hy I1 q1 q2 q3 q4 q)
noncomputable def acw (wi:TI)(g:TG)(tb:TS):TS:=λD σ H=>wi σ H λJ H1=>∃W:Nat->Nat->St->Hp->Prop,(∃m,W 0 m σ H1)/\∀i m σ H,W i m σ H->
 (J.stop i H/\D.nx σ H)\/(J.go i H/\∃N:St->Hp->Prop,(∀σ' H',N σ' H'->∃m',m'<m/\W (i+1) m' σ' H')/\∀x H',J.yld i H x H'->g x σ H' λσ2 H2=>tb { D with nx:=N,ct:=N,bk:=D.nx } σ2 H2)
noncomputable def uD (fp:List Addr)(h:Heap):List (Addr×Obj):=fp.filterMap λb=>(h.get? b).map λo=>(b,o)
theorem qI {fp:List Addr}{h:Heap}{b:Addr}{o:Obj}(hb:b∈fp)(e:h.get? b=some o):(b,o)∈uD fp h:=List.mem_filterMap.mpr ⟨b,hb,by rw [e]; rfl⟩
theorem PN {fp:List Addr}{h:Heap}{p:Addr×Obj}(hp:p∈uD fp h):p.1∈fp/\h.get? p.1=some p.2:=by
 obtain ⟨b,hb,e⟩:=List.mem_filterMap.mp hp
 cases q:h.get? b with
 |none=>rw [q] at e; cases e
 |some o=>
  rw [q] at e
  have e':(b,o)=p:=Option.some.inj e
  subst e'
  exact ⟨hb,q⟩
theorem Inv.pinned {pins:List (Addr×Obj)}{σ:St}{H:Hp}{s:Shared}{fp:List Addr}(I:Inv X pins σ H s)(hf:∀b∈fp,wL X pins H b)(ho:∀b∈fp,∃o,s.heap.get? b=some o/\∀v,o.data≠.cell v):Inv X (pins++uD fp s.heap) σ H s:=
 I.Nr λp hp=>(List.mem_append.mp hp).elim (λz=>I.pin p (List.mem_append_right _ z)) λz=>by
  obtain ⟨hb,e⟩:=PN z
  obtain ⟨f0,f1,f2,_⟩:=hf p.1 hb
  obtain ⟨o,e',d⟩:=ho p.1 hb
  rw [e] at e'; cases e'
  exact ⟨e,f0,f1,f2,d⟩
theorem Inv.wy {pins pl:List (Addr×Obj)}{σ:St}{H:Hp}{s:Shared}(I:Inv X (pins++pl) σ H s):Inv X pins σ H s:=I.Nr λp hp=>I.pin p (List.mem_append_right _ (List.mem_append_left _ hp))
theorem YT {iter:Expr}{body:List Stmt}{wi:TI}{g:TG}{tb:TS}{pos:Pos}(hp:PassesOwn (model X.prog X.w) X.A X.env X.xe)(hc:X.calm=true)(hi:PI X tg iter wi)(hg:PG X tg g)(hb:PSs X body tb)
  (hs:∀x,foldedSetIterable iter X.env x=pure x:=by intro _; rfl):PS X (.For tg iter body [] pos) (acw wi g tb):=by
 intro pins s σ H D I h
 refine wpAny_For (thn (hi pins s σ H _ I h) λv s1 h1=>thn h1 λitv s2 h2=>?_) hs
 obtain ⟨it,fp,tn,J,H2,e,I2,T,st2,f2,W,⟨m0,w0⟩,turn⟩:=h2
 subst e
 have stat:∀{H':Hp},(∀b∈fp,H' b=none)->∀b∈fp,wL X pins H' b:=λhn b hb=>⟨hn b hb,(f2 b hb).2⟩
 refine codeAny_forLoop_any (λn s'=>∃i σ' H',Inv X pins σ' H' s'/\tn i s'.heap/\(∀b∈fp,H' b=none)/\W i n σ' H') ?_ m0 ⟨0,σ,H2,I2,st2,λb hb=>(f2 b hb).1,w0⟩
 rintro n s3 ⟨i,σ3,H3,I3,st3,fr3,w3⟩
 rcases turn i n σ3 H3 w3 with ⟨stop,qn⟩ | ⟨go,N,hN,step⟩
 ·refine wpAny_passesOwn hp (thn (T.done X rfl rfl rfl hc i pins s3 σ3 H3 X.xe I3 (stat fr3) st3 stop) λr s4 ⟨hr,I4⟩=>?_)
  subst hr
  exact wpAny_execs_nil ⟨σ3,H3,I4,qn⟩
 ·refine wpAny_passesOwn hp (thn (T.item X rfl rfl rfl hc i pins s3 σ3 H3 X.xe I3 (stat fr3) st3 go) λr s4 ⟨u,hr,h4⟩=>?_)
  subst hr
  refine wpAny_passesOwn hp (thn h4 λ_ s5 ⟨x,H5,I5,r5,y5,st5,fr5⟩=>?_)
  have I5':=I5.pinned (stat fr5) (T.obj _ _ st5)
  refine wpAny_passesOwn hp (thn (hg _ s5 σ3 H5 x u _ I5' r5 (step x H5 y5)) λ_ s6 ⟨σ6,H6,I6,q6⟩=>?_)
  refine wpAny_passesOwn hp (thn (hb _ s6 σ6 H6 _ I6 q6) λf s7 q7=>?_)
  have again:∀{σ7:St} {H7:Hp},Inv X (pins++uD fp s5.heap) σ7 H7 s7->N σ7 H7->∃m,m<n/\∃i σ' H',Inv X pins σ' H' s7/\tn i s7.heap/\(∀b∈fp,H' b=none)/\W i m σ' H':=λ{σ7 H7} I7 n7=>by
   obtain ⟨m',hm,w7⟩:=hN σ7 H7 n7
   refine ⟨m',hm,i+1,σ7,H7,I7.wy,T.keep _ _ _ st5 λb hb o e=>(I7.pin (b,o) (List.mem_append_right _ (List.mem_append_right _ (qI hb e)))).1,λb hb=>?_,w7⟩
   obtain ⟨o,e,d⟩:=T.obj _ _ st5 b hb
   exact (I7.pin (b,o) (List.mem_append_right _ (List.mem_append_right _ (qI hb e)))).2.1
  cases f with
  |next=>obtain ⟨σ7,H7,I7,n7⟩:=q7; exact again I7 n7
  |cont=>obtain ⟨σ7,H7,I7,n7⟩:=q7; exact again I7 n7
  |brk=>obtain ⟨σ7,H7,I7,q7⟩:=q7; exact ⟨σ7,H7,I7.wy,q7⟩
  |ret v=>obtain ⟨x7,σ7,H7,I7,r7,q7⟩:=q7; exact ⟨x7,σ7,H7,I7.wy,r7,q7⟩
end
open PySem PySem.Spec PyProof.Rows
noncomputable abbrev R2:=V->V->Hp->VK->Prop
noncomputable def OpR (X:Cx)(f:Value->Value->Sem Value)(r:R2):Prop:=
 ∀(pins:List (Addr×Obj)) (s:Shared) (σ:St) (H:Hp) (x y:V) (v u:Value) (Q:VK),Inv X pins σ H s->RelV x v->RelV y u->r x y H Q->
  wpAny (model X.prog X.w) X.A (f v u) (EP X pins σ Q) X.xe s
noncomputable def UnR (X:Cx)(f:Value->Sem Value)(r:V->Hp->VK->Prop):Prop:=
 ∀(pins:List (Addr×Obj)) (s:Shared) (σ:St) (H:Hp) (x:V) (v:Value) (Q:VK),Inv X pins σ H s->RelV x v->r x H Q->
  wpAny (model X.prog X.w) X.A (f v) (EP X pins σ Q) X.xe s
noncomputable def kJ (X:Cx)(f:Value)(r:List V->Hp->VK->Prop):Prop:=
 ∀(pins:List (Addr×Obj)) (s:Shared) (σ:St) (H:Hp) (xs:List V) (us:List Value) (Q:VK),Inv X pins σ H s->Vals xs us->r xs H Q->
  wpAny (model X.prog X.w) X.A (call f us) (EP X pins σ Q) X.xe s
noncomputable def tOp (r:R2)(ta tb:TE):TE:=λσ H Q=>ta σ H λx H1=>tb σ H1 λy H2=>r x y H2 Q
noncomputable def tUn (r:V->Hp->VK->Prop)(ta:TE):TE:=λσ H Q=>ta σ H λx H1=>r x H1 Q
noncomputable def rI (C:Int->Int->Prop)(g:Int->Int->V):R2:=λx y H Q=>∃i j,x=.int i/\y=.int j/\C i j/\Q (g i j) H
noncomputable def rI0 (g:Int->Int->V):R2:=λx y H Q=>∃i j,x=.int i/\y=.int j/\Q (g i j) H
noncomputable def rU (g:Int->V):V->Hp->VK->Prop:=λx H Q=>∃i,x=.int i/\Q (g i) H
section
variable {X:Cx}{a b c:Expr}{ta tb tc:TE}{pos:Pos}
theorem YF (ha:PE X a ta)(hb:PE X b tb){pins:List (Addr×Obj)}{s:Shared}{σ:St}{H:Hp}{R:V->V->Hp->Prop}(I:Inv X pins σ H s)
  (h:ta σ H λx H1=>tb σ H1 λy H2=>R x y H2) {Q:Value->Shared->Prop} {f:Value->Value->Sem Value}
  (hf:∀v u s2 x y H2,Inv X pins σ H2 s2->RelV x v->RelV y u->R x y H2->wpAny (model X.prog X.w) X.A (f v u) Q X.xe s2):
  wpAny (model X.prog X.w) X.A (eval a X.env) (λv s₁=>wpAny (model X.prog X.w) X.A (eval b X.env) (λu s₂=>wpAny (model X.prog X.w) X.A (f v u) Q X.xe s₂) X.xe s₁) X.xe s:=by
 refine thn (ha pins s σ H _ I h) λv s1 hE=>xq2 hE λx H1 I1 r1 q1=>?_
 refine thn (hb pins s1 σ H1 _ I1 q1) λu s2 hE=>xq2 hE λy H2 I2 r2 q2=>?_
 exact hf v u s2 x y H2 I2 r1 r2 q2
theorem abN {op:Operator}{r:R2}(ho:OpR X (binaryOp op) r)(ha:PE X a ta)(hb:PE X b tb):PE X (.BinOp a op b pos) (tOp r ta tb):=by
 intro pins s σ H Q I h
 exact wpAny_BinOp (YF ha hb I h λv u s2 x y H2 I2 rx ry q=>ho pins s2 σ H2 x y v u Q I2 rx ry q)
theorem abm {op:UnaryOp}{r:V->Hp->VK->Prop}(ho:UnR X (unaryOp op) r)(ha:PE X a ta):PE X (.UnaryOp op a pos) (tUn r ta):=by
 intro pins s σ H Q I h
 exact UnaryOp_ (thn (ha pins s σ H _ I h) λv s1 hE=>xq2 hE λx H1 I1 r1 q1=>ho pins s1 σ H1 x v Q I1 r1 q1)
theorem opI {f:Value->Value->Sem Value}{C:Int->Int->Prop}{g:Int->Int->Int}
  (rule:∀(i j:Int) (t u:Tok) (s:Shared) (Q:Value->Shared->Prop) (E:Value->Shared->Prop),C i j->Q (.int (g i j) s.toks) { s with toks:=s.toks+1 }->wpAny (model X.prog X.w) X.A (f (.int i t) (.int j u)) Q E s):
  OpR X f (rI C λi j=>.int (g i j)):=by
 intro pins s σ H x y v u Q I rx ry h
 obtain ⟨i,j,rfl,rfl,hc,q⟩:=h
 obtain ⟨t,rfl⟩:=rx
 obtain ⟨t',rfl⟩:=ry
 exact rule i j t t' s _ _ hc ⟨.int (g i j),H,I.tok _,⟨_,rfl⟩,q⟩
theorem abp {f:Value->Value->Sem Value}{g:Int->Int->Int}
  (rule:∀(i j:Int) (t u:Tok) (s:Shared) (Q:Value->Shared->Prop) (E:Value->Shared->Prop),Q (.int (g i j) s.toks) { s with toks:=s.toks+1 }->wpAny (model X.prog X.w) X.A (f (.int i t) (.int j u)) Q E s):
  OpR X f (rI0 λi j=>.int (g i j)):=by
 intro pins s σ H x y v u Q I rx ry h
 obtain ⟨i,j,rfl,rfl,q⟩:=h
 obtain ⟨t,rfl⟩:=rx
 obtain ⟨t',rfl⟩:=ry
 exact rule i j t t' s _ _ ⟨.int (g i j),H,I.tok _,⟨_,rfl⟩,q⟩
theorem Z8 {f:Value->Value->Sem Value}{g:Int->Int->Bool}
  (rule:∀(i j:Int) (t u:Tok) (s:Shared) (Q:Value->Shared->Prop) (E:Value->Shared->Prop),Q (.bool (g i j)) s->wpAny (model X.prog X.w) X.A (f (.int i t) (.int j u)) Q E s):
  OpR X f (rI0 λi j=>.bl (g i j)):=by
 intro pins s σ H x y v u Q I rx ry h
 obtain ⟨i,j,rfl,rfl,q⟩:=h
 obtain ⟨t,rfl⟩:=rx
 obtain ⟨t',rfl⟩:=ry
 exact rule i j t t' s _ _ ⟨.bl (g i j),H,I,rfl,q⟩
theorem Z2:OpR X (binaryOp .Add) (rI0 λi j=>.int (i+j)):=abp λ_ _ _ _ _ _ _ q=>add_int q
theorem Y5:OpR X (binaryOp .Sub) (rI0 λi j=>.int (i - j)):=abp λ_ _ _ _ _ _ _ q=>sub_int q
theorem Vi:OpR X (binaryOp .Mod) (rI (λ_ j=>j≠0) λi j=>.int (i.fmod j)):=opI λ_ _ _ _ _ _ _ hc q=>mod_int' hc q
theorem unI {f:Value->Sem Value}{g:Int->Int}
  (rule:∀(i:Int) (t:Tok) (s:Shared) (Q:Value->Shared->Prop) (E:Value->Shared->Prop),Q (.int (g i) s.toks) { s with toks:=s.toks+1 }->wpAny (model X.prog X.w) X.A (f (.int i t)) Q E s):
  UnR X f (rU λi=>.int (g i)):=by
 intro pins s σ H x v Q I rx h
 obtain ⟨i,rfl,q⟩:=h
 obtain ⟨t,rfl⟩:=rx
 exact rule i t s _ _ ⟨.int (g i),H,I.tok _,⟨_,rfl⟩,q⟩
theorem aad:UnR X (unaryOp .USub) (rU λi=>.int (-i)):=unI λ_ _ _ _ _ q=>neg_int q
end
noncomputable def aaG:V->V->Bool
 | .non,.non=>true | .non,.int _=>true | .int _,.non=>true | .non,.bl _=>true | .bl _,.non=>true | .non,.str _=>true | .str _,.non=>true
 | .int _,.int _=>true | .bl _,.bl _=>true | .str _,.str _=>true | .byt _,.byt _=>true
 | .int _,.str _=>true | .str _,.int _=>true | .bl _,.str _=>true | .str _,.bl _=>true
 |_,_=>false
noncomputable def rEq:R2:=λx y H Q=>aaG x y=true/\Q (.bl (decide (x=y))) H
noncomputable def rNe:R2:=λx y H Q=>aaG x y=true/\Q (.bl (!decide (x=y))) H
theorem Nm {i j:Int}:decide (V.int i=V.int j)=(i == j):=by
 rw [Bool.eq_iff_iff]
 simp
theorem TX {i j:Bool}:decide (V.bl i=V.bl j)=(i == j):=by
 rw [Bool.eq_iff_iff]
 simp
theorem Mz {i j:Str}:decide (V.str i=V.str j)=(i == j):=by
 rw [Bool.eq_iff_iff]
 simp
theorem Nz {i j:Array UInt8}:decide (V.byt i=V.byt j)=(i.toList == j.toList):=by
 rw [Bool.eq_iff_iff]
 cases i
 cases j
 simp
section
variable {X:Cx}{a b c:Expr}{ta tb tc:TE}{pos:Pos}
theorem cH {pins:List (Addr×Obj)}{σ:St}{H:Hp}{s:Shared}{Q:VK}{k k':Bool}(I:Inv X pins σ H s)(q:Q (.bl k) H)(e:k=k'):EP X pins σ Q (.bool k') s:=by
 subst e
 exact ⟨.bl k,H,I,rfl,q⟩
theorem N5:OpR X (compareOp .Eq) rEq:=by
 intro pins s σ H x y v u Q I rx ry h
 obtain ⟨hs,q⟩:=h
 cases x with
 |non=>
  cases rx
  cases y with
  |non=>cases ry; exact PySem.EqNone.eq_none_none (cH I q (by simp))
  |bl j=>cases ry; exact PySem.EqNone.eq_none_bool (cH I q (by simp))
  |int j=>obtain ⟨t',rfl⟩:=ry; exact PySem.EqNone.eq_none_int (cH I q (by simp))
  |str j=>obtain ⟨t',rfl⟩:=ry; exact PySem.EqNone.eq_none_str (cH I q (by simp))
  |_=>exact absurd (show false=true from hs) Bool.false_ne_true
 |bl i=>
  cases rx
  cases y with
  |non=>cases ry; exact PySem.EqNone.eq_bool_none (cH I q (by simp))
  |bl j=>cases ry; exact eq_bool (cH I q TX)
  |str j=>obtain ⟨t',rfl⟩:=ry; exact PySem.EqMixed.eq_bool_str (cH I q (by simp))
  |_=>exact absurd (show false=true from hs) Bool.false_ne_true
 |int i=>
  obtain ⟨t,rfl⟩:=rx
  cases y with
  |non=>cases ry; exact PySem.EqNone.eq_int_none (cH I q (by simp))
  |int j=>obtain ⟨t',rfl⟩:=ry; exact eq_int (cH I q Nm)
  |str j=>obtain ⟨t',rfl⟩:=ry; exact PySem.EqMixed.eq_int_str (cH I q (by simp))
  |_=>exact absurd (show false=true from hs) Bool.false_ne_true
 |str i=>
  obtain ⟨t,rfl⟩:=rx
  cases y with
  |non=>cases ry; exact PySem.EqNone.eq_str_none (cH I q (by simp))
  |bl j=>cases ry; exact PySem.EqMixed.eq_str_bool (cH I q (by simp))
  |int j=>obtain ⟨t',rfl⟩:=ry; exact PySem.EqMixed.eq_str_int (cH I q (by simp))
  |str j=>obtain ⟨t',rfl⟩:=ry; exact eq_str (cH I q Mz)
  |_=>exact absurd (show false=true from hs) Bool.false_ne_true
 |byt i=>
  obtain ⟨t,rfl⟩:=rx
  cases y with
  |byt j=>obtain ⟨t',rfl⟩:=ry; exact PySem.W.eq_bytes (cH I q Nz)
  |_=>exact absurd (show false=true from hs) Bool.false_ne_true
 |_=>cases y <;> exact absurd (show false=true from hs) Bool.false_ne_true
theorem MP:OpR X (compareOp .NotEq) rNe:=by
 intro pins s σ H x y v u Q I rx ry h
 obtain ⟨hs,q⟩:=h
 cases x with
 |non=>
  cases rx
  cases y with
  |non=>cases ry; exact PySem.EqNone.ne_none_none (cH I q (by simp))
  |bl j=>cases ry; exact PySem.EqNone.ne_none_bool (cH I q (by simp))
  |int j=>obtain ⟨t',rfl⟩:=ry; exact PySem.EqNone.ne_none_int (cH I q (by simp))
  |str j=>obtain ⟨t',rfl⟩:=ry; exact PySem.EqNone.ne_none_str (cH I q (by simp))
  |_=>exact absurd (show false=true from hs) Bool.false_ne_true
 |bl i=>
  cases rx
  cases y with
  |non=>cases ry; exact PySem.EqNone.ne_bool_none (cH I q (by simp))
  |bl j=>cases ry; exact ne_bool (cH I q (congrArg not TX))
  |str j=>obtain ⟨t',rfl⟩:=ry; exact PySem.EqMixed.ne_bool_str (cH I q (by simp))
  |_=>exact absurd (show false=true from hs) Bool.false_ne_true
 |int i=>
  obtain ⟨t,rfl⟩:=rx
  cases y with
  |non=>cases ry; exact PySem.EqNone.ne_int_none (cH I q (by simp))
  |int j=>obtain ⟨t',rfl⟩:=ry; exact ne_int (cH I q (congrArg not Nm))
  |str j=>obtain ⟨t',rfl⟩:=ry; exact PySem.EqMixed.ne_int_str (cH I q (by simp))
  |_=>exact absurd (show false=true from hs) Bool.false_ne_true
 |str i=>
  obtain ⟨t,rfl⟩:=rx
  cases y with
  |non=>cases ry; exact PySem.EqNone.ne_str_none (cH I q (by simp))
  |bl j=>cases ry; exact PySem.EqMixed.ne_str_bool (cH I q (by simp))
  |int j=>obtain ⟨t',rfl⟩:=ry; exact PySem.EqMixed.ne_str_int (cH I q (by simp))
  |str j=>obtain ⟨t',rfl⟩:=ry; exact ne_str (cH I q (congrArg not Mz))
  |_=>exact absurd (show false=true from hs) Bool.false_ne_true
 |byt i=>
  obtain ⟨t,rfl⟩:=rx
  cases y with
  |byt j=>obtain ⟨t',rfl⟩:=ry; exact PySem.W.ne_bytes (cH I q (congrArg not Nz))
  |_=>exact absurd (show false=true from hs) Bool.false_ne_true
 |_=>cases y <;> exact absurd (show false=true from hs) Bool.false_ne_true
theorem abF:OpR X (compareOp .Lt) (rI0 λi j=>.bl (decide (i<j))):=Z8 λ_ _ _ _ _ _ _ q=>lt_int q
theorem aa2:OpR X (compareOp .Gt) (rI0 λi j=>.bl (decide (j<i))):=Z8 λ_ _ _ _ _ _ _ q=>gt_int q
theorem abM:OpR X (compareOp .GtE) (rI0 λi j=>.bl (decide (j<=i))):=Z8 λ_ _ _ _ _ _ _ q=>ge_int q
theorem Dv:OpR X (compareOp .NotIn) (λx y H Q=>∃i j,x=.str i/\y=.str j/\Q (.bl (!(!(Builtin.Str.occurrences j i 0 j.length 1).isEmpty))) H):=by
 intro pins s σ H x y v u Q I rx ry h
 obtain ⟨i,j,rfl,rfl,q⟩:=h
 obtain ⟨t,rfl⟩:=rx
 obtain ⟨t',rfl⟩:=ry
 exact notIn_str (cH I q rfl)
theorem bH (b:Expr){op:CmpOp}(h:op≠.In:=by decide)(h2:op≠.NotIn:=by decide):behindInMarks op b=false:=by
 have e1:(op == CmpOp.In)=false:=by cases op <;> first | rfl | exact absurd rfl h
 have e2:(op == CmpOp.NotIn)=false:=by cases op <;> first | rfl | exact absurd rfl h2
 cases b <;> simp [behindInMarks,e1,e2]
theorem U6 {op:CmpOp}{r:R2}(ho:OpR X (compareOp op) r)(ha:PE X a ta)(hb:PE X b tb)(hm:behindInMarks op b=false):PE X (.Compare a [op] [b] pos) (tOp r ta tb):=by
 intro pins s σ H Q I h
 exact wpAny_Compare1 (YF ha hb I h λv u s2 x y H2 I2 rx ry q=>ho pins s2 σ H2 x y v u Q I2 rx ry q) hm
noncomputable def aa3 (t:TE):TT:=λσ H Q=>t σ H λx H'=>∃k,x=.bl k/\Q k H'
theorem Wb {op:CmpOp}{r:R2}(ho:OpR X (compareOp op) r)(ha:PE X a ta)(hb:PE X b tb)(hm:behindInMarks op b=false):PT X (.Compare a [op] [b] pos) (aa3 (tOp r ta tb)):=by
 intro pins s σ H Q I h
 refine wpAny_isTrue_Compare1 (thn (ha pins s σ H _ I h) λv s1 hE=>xq2 hE λx H1 I1 r1 q1=>thn (hb pins s1 σ H1 _ I1 q1) λu s2 hE=>xq2 hE λy H2 I2 r2 q2=>
  thn (ho pins s2 σ H2 x y v u _ I2 r1 r2 q2) λc s3 ⟨z,H3,I3,r3,k,e,q3⟩=>?_) hm
 subst e
 cases r3
 exact wpAny_truthy_bool ⟨H3,I3,q3⟩
theorem wM:(sizeLine:Nat)<2 ^ 63:=by rw [sizeLine_eq]; decide
theorem Ke:OpR X (binaryOp .Add) (λx y H Q=>∃i j,x=.str i/\y=.str j/\i.length+j.length<=sizeLine/\Q (.str (i++j)) H):=by
 intro pins s σ H x y v u Q I rx ry h
 obtain ⟨i,j,rfl,rfl,hz,q⟩:=h
 obtain ⟨t,rfl⟩:=rx
 obtain ⟨t',rfl⟩:=ry
 exact add_str (λt' tk=>⟨.str (i++j),H,I.tok _,⟨_,rfl⟩,q⟩) hz
theorem vals1 {x:V}{us:List Value}(r:Vals [x] us):∃u,us=[u]/\RelV x u:=by
 cases r with
 |cons r1 r2=>cases r2; exact ⟨_,rfl,r1⟩
theorem vals2 {x y:V}{us:List Value}(r:Vals [x,y] us):∃u w',us=[u,w']/\RelV x u/\RelV y w':=by
 cases r with
 |cons r1 r2=>
  cases r2 with
  |cons r3 r4=>cases r4; exact ⟨_,_,rfl,r1,r3⟩
theorem Uy:kJ X (.builtin "abs") (λxs H Q=>∃i,xs=[.int i]/\Q (.int (if i<0 then -i else i)) H):=by
 intro pins s σ H xs us Q I r h
 obtain ⟨i,rfl,q⟩:=h
 obtain ⟨u,rfl,t,rfl⟩:=vals1 r
 exact call_abs_int λu tk=>⟨.int (if i<0 then -i else i),H,I.tok _,⟨_,rfl⟩,q⟩
end
open PySem PySem.Spec PyProof.Rows
structure aae (h:Heap)(x dx C:Addr)(mA:Str->Option Value):Prop where
 obj:h.get? x=some (PySem.W.instObj C dx)
 ns:h.Ns1 dx mA
 ne:dx≠x
theorem Ph {h:Heap}{dx:Addr}{mA:Str->Option Value}(n:h.Ns1 dx mA):∃od,h.get? dx=some od/\∀name,PySem.W.lookIn name od=some (mA name):=by
 obtain ⟨o,es,ep,ho,hd,hk,_,hm⟩:=n
 refine ⟨o,ho,λname=>?_⟩
 have e:=hm name
 unfold nsFind findBy at e
 rw [← Array.find?_toList] at e
 unfold PySem.W.lookIn
 rw [hd]
 dsimp only
 split
 ·rename_i y q
  rw [q] at e
  exact congrArg some e
 ·rename_i q
  rw [q] at e
  have a:es.toList.any (·.refKey)=false:=by
   rw [List.any_eq_false]
   intro y hy
   obtain ⟨z,t,hkey⟩:=hk y (Array.mem_toList_iff.mp hy)
   simp [DictEntry.refKey,hkey]
  have a':¬es.toList.any (·.refKey)=true:=by rw [a]; exact Bool.false_ne_true
  rw [if_neg a']
  exact congrArg some e
theorem aae.look {h:Heap}{x dx C:Addr}{mA:Str->Option Value}(I:aae h x dx C mA):∃od,PySem.W.InstAt h x (PySem.W.instObj C dx) C (some od)/\∀name,PySem.W.lookIn name od=some (mA name):=
 let ⟨od,ho,hl⟩:=Ph I.ns
 ⟨od,⟨I.obj,rfl,rfl,ho⟩,hl⟩
section
variable {prog:Program}{w:World}{A:Around}{E:Value->Shared->Prop}{s:Shared}{K:W.Frag}{x dx C f:Addr}{mA:Str->Option Value}{name:Str}{v:Value}
end
theorem wQ.some_of {v:V}{o:Option Value}(r:wQ (some v) o):∃u,o=some u/\RelV v u:=by
 cases o with
 |none=>exact (show False from r).elim
 |some u=>exact ⟨u,rfl,r⟩
section
variable {P:Program}{w:World}{H H':Hp}{h h':Heap}{a C dx:Addr}{fs fs':List (Str×V)}
theorem Wo (hok:HOk P w H h)(e:H a=some (.ins C dx fs)):∃mA,aae h a dx C mA/\(∀f,wQ (fs.lookup f) (mA f))/\PySem.Within mA (fs.map (·.1))/\fs.length<=1000/\H dx=some (.own a):=by
 obtain ⟨d,z,ne,ob,mA,n,r,q⟩:=(show eE P w H h a (.ins C dx fs) from hok a _ e)
 exact ⟨mA,⟨ob,n,ne⟩,r,q,z,d⟩
end
structure Cls (K:W.Frag)(C:Addr):Prop where
 pg:PySem.W.plainGet K C Str.empty=true
 hd:PySem.W.hasDictIn K C=true
 po:PySem.W.plainOver K C=true
 sa:PySem.W.findIn K (.ref C) "__setattr__" = some (some (.builtin "object.__setattr__"))
theorem Cls.get {K:W.Frag}{C:Addr}(c:Cls K C)(f:Str):PySem.W.plainGet K C f=true:=c.pg
section
variable {X:Cx}{pins:List (Addr×Obj)}{σ:St}{H:Hp}{s:Shared}{a C dx:Addr}{fs:List (Str×V)}{f:Str}{v:V}{A:Around}{E:Value->Shared->Prop}
end
section
variable {X:Cx}{o e value:Expr}{f:Str}{pos pos' tpos:Pos}{ta tv:TE}
end
section
variable {X:Cx}{pins:List (Addr×Obj)}{σ:St}{H:Hp}{s:Shared}{A:Around}{E:Value->Shared->Prop}{Q:Value->Shared->Prop}{c:Value}{b:Bool}
inductive xj (K:W.Frag)(H:Hp):V->Value->Prop where
 |non:xj K H .non (.type "NoneType")
 |bl (x:Bool):xj K H (.bl x) (.type "bool")
 |int (i:Int):xj K H (.int i) (.type "int")
 |str (x:Str):xj K H (.str x) (.type "str")
 |flt (x:UInt64):xj K H (.flt x) (.type "float")
 |lst {a:Addr} {xs:List V} (e:H a=some (.lst xs)):xj K H (.ref a) (.type "list")
 |frz {a:Addr} {o:Obj} {xs:List V} (e:H a=some (.frz o (.lst xs))):xj K H (.ref a) (.type "list")
 |tup {a:Addr} {xs:List V} (e:H a=some (.tup xs)):xj K H (.ref a) (.type "tuple")
 |dK {a:Addr} {kvs:List (Key×V)} (e:H a=some (.dK kvs)):xj K H (.ref a) (.type "dict")
 |dT {a:Addr} {T:Addr->List V->Prop} {kvs:List (List Kt×V)} (e:H a=some (.dT T kvs)):xj K H (.ref a) (.type "dict")
 |ins {a C dx:Addr} {fs:List (Str×V)} (e:H a=some (.ins C dx fs)) (cl:Cls K C) (ha:PySem.W.findIn K (.ref C) "__class__" = some (some (.builtin "object.__class__")))
   (hn:PySem.W.specialIn K (.builtin "object.__class__") "__get__" = some (some (.builtin "getset_descriptor.__get__"))) (htk:PySem.W.takesIn K (.builtin "object.__class__")=some true)
   (hm:PySem.W.mroIn K C (.type "object")=some true):xj K H (.ref a) (.ref C)
theorem Qk {x:V}{u t:Value}(I:Inv X pins σ H s)(rx:RelV x u)(ty:xj X.K H x t)(e:PySem.W.kitOne X.K t c=some b)(h:∀tk,Q (.bool b) { s with toks:=tk }):
  wpAny (model X.prog X.w) A (call (.builtin "isinstance") [u,c]) Q E s:=by
 cases ty with
 |non=>cases (show u=Value.none from rx); exact PySem.W.kia_one PySem.W.kitx_none I.kIn True.intro e (λz=>nomatch z) h
 |bl y=>cases (show u=Value.bool y from rx); exact PySem.W.kia_one PySem.W.kitx_bool I.kIn True.intro e (λz=>nomatch z) h
 |int i=>obtain ⟨t,q⟩:=(show ∃t,u=Value.int i t from rx); cases q; exact PySem.W.kia_one PySem.W.kitx_int I.kIn True.intro e (λz=>nomatch z) h
 |str y=>obtain ⟨t,q⟩:=(show ∃t,u=Value.str y t from rx); cases q; exact PySem.W.kia_one PySem.W.kitx_str I.kIn True.intro e (λz=>nomatch z) h
 |flt y=>obtain ⟨t,q⟩:=(show ∃t,u=Value.float y t from rx); cases q; exact PySem.W.kia_one PySem.W.kitx_float I.kIn True.intro e (λz=>nomatch z) h
 | @lst a xs ea=>
  cases (show u=Value.ref a from rx)
  obtain ⟨_,_,n,_,h1⟩:=(show eE X.prog X.w H s.heap a (.lst xs) from I.hok a _ ea)
  exact PySem.W.kia_one PySem.W.kitx_list I.kIn ⟨_,h1,rfl⟩ e (λz=>nomatch z) h
 | @frz a ob xs ea=>
  cases (show u=Value.ref a from rx)
  obtain ⟨_,_,_,n,_,h1⟩:=(show eE X.prog X.w H s.heap a (.frz ob (.lst xs)) from I.hok a _ ea)
  exact PySem.W.kia_one PySem.W.kitx_list I.kIn ⟨_,h1,rfl⟩ e (λz=>nomatch z) h
 | @tup a xs ea=>
  cases (show u=Value.ref a from rx)
  obtain ⟨_,_,_,p⟩:=(show eE X.prog X.w H s.heap a (.tup xs) from I.hok a _ ea)
  obtain ⟨o,h1,h2,_⟩:=p
  exact PySem.W.kia_one PySem.W.kitx_tuple I.kIn ⟨o,h1,h2⟩ e (λz=>nomatch z) h
 | @dK a kvs ea=>
  cases (show u=Value.ref a from rx)
  obtain ⟨_,_,vs,_,p⟩:=(show eE X.prog X.w H s.heap a (.dK kvs) from I.hok a _ ea)
  obtain ⟨o,es,ep,h1,h2,_⟩:=p
  exact PySem.W.kia_one PySem.W.kitx_dict I.kIn ⟨o,h1,h2.1⟩ e (λz=>nomatch z) h
 | @dT a T kvs ea=>
  cases (show u=Value.ref a from rx)
  obtain ⟨_,_,xs,_,o,es,ep,h1,h2,_⟩:=(show eE X.prog X.w H s.heap a (.dT T kvs) from I.hok a _ ea)
  exact PySem.W.kia_one PySem.W.kitx_dict I.kIn ⟨o,h1,h2.1⟩ e (λz=>nomatch z) h
 | @ins a C dx fs ea cl ha hn htk hm=>
  cases (show u=Value.ref a from rx)
  obtain ⟨mA,O,_⟩:=Wo I.hok ea
  obtain ⟨od,J,_⟩:=O.look
  exact PySem.W.kia_one (PySem.W.kitx_own (cl.get _) cl.hd ha hn htk hm) I.kIn J e (λz=>nomatch z) h
end
open PySem PySem.Spec PyProof.Rows
structure iR (k:Nat)(A:Around):Prop where
 hd:A.handled=none
 dp:A.depth+3 * k+5<recursionLimit
 un:A.units+16 * k+200<cLine
 gd:A.guards=some []
theorem iR.mono {j k:Nat}{A:Around}(r:iR k A)(h:j<=k):iR j A:=⟨r.hd,by have:=r.dp; omega,by have:=r.un; omega,r.gd⟩
theorem iR.deeper {k:Nat}{A:Around}(r:iR (k+1) A)(env:Env):iR k (A.deeper env):=
 ⟨r.hd,by have:=r.dp; show A.depth+1+3 * k+5<_; omega,by have:=r.un; show A.units+3+16 * k+200<_; omega,r.gd⟩
theorem iR.in1 {k:Nat}{A:Around}(r:iR (k+1) A):iR k A.in1:=
 ⟨r.hd,by have:=r.dp; show A.depth+3 * k+5<_; omega,by have:=r.un; show A.units+1+16 * k+200<_; omega,r.gd⟩
theorem iR.depth {k:Nat}{A:Around}(r:iR k A):A.depth<recursionLimit:=by have:=r.dp; omega
theorem iR.units {k:Nat}{A:Around}(r:iR k A):A.units+64<cLine:=by have:=r.un; omega
noncomputable def ab9:TA:=λ_ H Q=>Q [] H
noncomputable def abf (ta:TE)(tr:TA):TA:=λσ H Q=>ta σ H λx H1=>tr σ H1 λxs H2=>Q (x::xs) H2
section
variable {X:Cx}{e:Expr}{es:List Expr}{te:TE}{t:TA}{pos:Pos}
theorem rA:PA X [] ab9:=λ_ _ _ _ H Q I h=>Calls.spliced_nil ⟨[],H,I,.nil,h⟩
theorem jQ (ha:PE X e te)(hr:PA X es t)(hs:starEach (e::es) X.env=(false,eval e X.env)::starEach es X.env:=by rfl):PA X (e::es) (abf te t):=by
 intro pos pins s σ H Q I h
 rw [hs]
 show wpAny _ _ (spliced ((false,eval e X.env)::backTo pos (starEach es X.env))) _ _ s
 refine Calls.spliced_cons (thn (ha pins s σ H _ I h) λu s1 hE=>xq2 hE λx H1 I1 r1 q1=>?_)
 exact thn (hr pos pins s1 σ H1 _ I1 q1) λus s2 hE=>xq2 hE λxs H2 I2 r2 q2=>⟨x::xs,H2,I2,.cons r1 r2,q2⟩
noncomputable def aca (t:TA):TE:=λσ H Q=>t σ H λxs H1=>xs.length<=sizeLine/\∀p,H1 p=none->Q (.ref p) (upd H1 p (.tup xs))
noncomputable def ab5 (t:TA):TE:=λσ H Q=>t σ H λxs H1=>xs.length<=sizeLine/\∀p,H1 p=none->Q (.ref p) (upd H1 p (.lst xs))
theorem Zh {x1}(h:PA X es t):PE X (.Tuple es x1 pos) (aca t):=by
 intro pins s σ H Q I hq
 refine wpAny_Tuple_spliced (thn (h pos pins s σ H _ I hq) λus s1 ⟨xs,H1,I1,r,z,q⟩=>⟨by rw [← r.length]; exact z,?_⟩)
 have hf:H1 s1.heap.objs.size=none:=I1.hok.fresh (Nat.le_refl _)
 refine ⟨.ref s1.heap.objs.size,upd H1 s1.heap.objs.size (.tup xs),I1.laid (t':=s1.toks) (λb u e=>Heap.get?_push_of_some _ e) (Nat.le_refl _) ?_,rfl,q _ hf⟩
 exact ⟨z,us,r,⟨_,Heap.get?_push_size _ rfl,rfl,_,rfl⟩⟩
theorem Zm (h:PA X es t):PE X (.List es pos) (ab5 t):=by
 intro pins s σ H Q I hq
 refine wpAny_List_spliced (thn (h pos pins s σ H _ I hq) λus s1 ⟨xs,H1,I1,r,z,q⟩=>⟨by rw [← r.length]; exact z,?_⟩)
 have hf:H1 s1.heap.objs.size=none:=I1.hok.fresh (Nat.le_refl _)
 refine ⟨.ref s1.heap.objs.size,upd H1 s1.heap.objs.size (.lst xs),I1.laid (t':=s1.toks) (λb u e=>Heap.get?_push_of_some _ e) (Nat.le_refl _) ?_,rfl,q _ hf⟩
 exact ⟨z,us,0,r,Heap.get?_push_size _ rfl⟩
end
noncomputable abbrev Sp:=List V->Hp->VK->XK->Prop
noncomputable abbrev CXT:=List Env->Hp->Shared->XK->Value->Shared->Prop
structure Ks (P:Program)(w:World)(K:W.Frag)(mg:Str->Option Value)(base:Heap)(A:Around)(outer:List Env)(s:Shared)(H:Hp):Prop where
 frames:A.frames=some outer
 mod:Mod K mg base
 bs:∀b o,base.get? b=some o->s.heap.get? b=some o/\H b=none
 bsz:base.objs.size<=s.heap.objs.size
 ym:s.heap.FunFrames base outer
 frf:∀b∈frs outer,H b=none
 hok:HOk P w H s.heap
 bare:AllBare s.gens
noncomputable def CE (outer:List Env)(P:Program)(w:World)(H:Hp)(s:Shared)(Q:VK)(u:Value)(s':Shared):Prop:=
 ∃v H',s'.os=s.os/\AllBare s'.gens/\Un (frs outer) [] H H' s.heap s'.heap/\HOk P w H' s'.heap/\RelV v u/\Q v H'
noncomputable def CR (CX:CXT)(outer:List Env)(P:Program)(w:World)(H:Hp)(s:Shared)(Q:VK)(E:XK)(r:Result)(s':Shared):Prop:=
 match r with
 | .ok (.ret u)=>CE outer P w H s Q u s'
 | .ok _=>False
 | .error e=>CX outer H s E e s'
structure cL (P:Program)(w:World)(K:W.Frag)(mg:Str->Option Value)(base:Heap)(CX:CXT)(k:Nat)(f:Addr)(fd:FuncData)(ps:List Str)(sp:Sp):Prop where
 len:∀vs H Q E,sp vs H Q E->vs.length=ps.length
 run:∀(A:Around) (outer:List Env) (s:Shared) (H:Hp) (args:Args) (us:List Value) (vs:List V) (Q:VK) (E:XK),iR k A->Ks P w K mg base A outer s H->BindsTo s fd args (ps.zip us)->Vals vs us->sp vs H Q E->
  codeAny (model P w) A (.call (.ref f) args) (CR CX outer P w H s Q E) s
theorem cL.imp {P:Program}{w:World}{K:W.Frag}{mg:Str->Option Value}{base:Heap}{CX:CXT}{k:Nat}{f:Addr}{fd:FuncData}{ps:List Str}{sp sp':Sp}(F:cL P w K mg base CX k f fd ps sp)
  (h:∀vs H Q E,sp' vs H Q E->sp vs H Q E):cL P w K mg base CX k f fd ps sp':=
 ⟨λvs H Q E q=>F.len vs H Q E (h _ _ _ _ q),λA outer s H args us vs Q E hr he hb hv hs=>F.run A outer s H args us vs Q E hr he hb hv (h _ _ _ _ hs)⟩
theorem Ks.in1 {P:Program}{w:World}{K:W.Frag}{mg:Str->Option Value}{base:Heap}{A:Around}{outer:List Env}{s:Shared}{H:Hp}(e:Ks P w K mg base A outer s H):
  Ks P w K mg base A.in1 outer s H:=⟨e.frames,e.mod,e.bs,e.bsz,e.ym,e.frf,e.hok,e.bare⟩
section
variable {X:Cx}{pins:List (Addr×Obj)}{σ:St}{H:Hp}{s s':Shared}
theorem Inv.env0 (I:Inv X pins σ H s):Ks X.prog X.w X.K X.mg X.base X.A X.stack s H:=
 ⟨I.ok.frames,I.ok.mod,I.bs,Nat.le_trans I.ok.bsz I.sz,I.stack,I.MT,I.hok,I.bare⟩
theorem Inv.after {Q:VK}{u:Value}(I:Inv X pins σ H s)(h:CE X.stack X.prog X.w H s Q u s'):EP X pins σ Q u s':=by
 obtain ⟨v,H',os,bare,un,hok,r,q⟩:=h
 obtain ⟨hh,g,d,t,os'⟩:=s'
 obtain rfl:os'=s.os:=os
 exact ⟨v,H',I.call (h':=hh) (g':=g) (d':=d) (t':=t) (ch:=[]) un hok bare (λb z=>absurd z (by simp)),r,q⟩
end
noncomputable def abn (sp:Sp)(dvs:List V)(E:XK)(t:TA):TE:=λσ H Q=>t σ H λvs H1=>sp (vs++dvs) H1 Q E
noncomputable def Binds (K:W.Frag)(fd:FuncData)(ps:List Str)(ds:List Value):Prop:=
 ∀(s:Shared) (us:List Value),K.In s.heap->(us++ds).length=ps.length->BindsTo s fd ⟨us,[]⟩ (ps.zip (us++ds))
theorem Binds.all {K:W.Frag}{fd:FuncData}{ps:List Str}(h:∀us:List Value,us.length=ps.length->bindArgs fd ⟨us,[]⟩=pure (ps.zip us)):Binds K fd ps []:=λs us _ hl=>by
 rw [List.append_nil] at hl ⊢
 exact .of_eq (h us hl)
noncomputable def Passes (CX:CXT)(X:Cx)(E:XK):Prop:=∀(pins:List (Addr×Obj)) (σ:St) (H:Hp) (s:Shared) (e:Value) (s':Shared),Inv X pins σ H s->CX X.stack H s E e s'->X.xe e s'
section
variable {X:Cx}{CX:CXT}{k:Nat}{f C:Addr}{fd:FuncData}{ps:List Str}{sp:Sp}{dvs:List V}{ds:List Value}{E:XK}{x m:Str}{p pos apos:Pos}{e o:Expr}{es:List Expr}{ta:TE}{t:TA}
theorem ZW {pins:List (Addr×Obj)}{σ:St}{H:Hp}{s:Shared}{Q:VK}{us:List Value}{vs:List V}(F:cL X.prog X.w X.K X.mg X.base CX k f fd ps sp)(hr:iR k X.A)(hb:Binds X.K fd ps ds)(hd:Vals dvs ds)(hx:Passes CX X E)
  (I:Inv X pins σ H s) (r:Vals vs us) (h:sp (vs++dvs) H Q E):wpAny (model X.prog X.w) X.A (call (.ref f) us) (EP X pins σ Q) X.xe s:=by
 have r2:Vals (vs++dvs) (us++ds):=r.append hd
 have hl:(us++ds).length=ps.length:=by rw [← r2.length]; exact F.len _ _ _ _ h
 refine wpAny_call (codeAny_mono (F.run X.A X.stack s H ⟨us,[]⟩ (us++ds) (vs++dvs) Q E hr I.env0 (hb s us I.kIn hl) r2 h) λr s' hq=>?_)
 cases r with
 |error e=>exact hx pins σ H s e s' I hq
 |ok fl=>
  cases fl with
  |ret u=>exact I.after hq
  |next=>exact False.elim hq
  |brk=>exact False.elim hq
  |cont=>exact False.elim hq
theorem Gi (F:cL X.prog X.w X.K X.mg X.base CX k f fd ps sp)(hr:iR k X.A)(hg:Gl X x)(hm:X.mg x=some (.ref f))(hk:W.keepIn X.K (.ref f)=true)(hb:Binds X.K fd ps ds)(hd:Vals dvs ds)(hx:Passes CX X E)
  (ha:PA X (e::es) t) (hdb:(x == ("__debug__" : Str))=false:=by decide) (he:starEach (e::es) X.env=(false,eval e X.env)::starEach es X.env:=by rfl) (hpl:(backTo pos (starEach es X.env)).any (·.1)=false:=by rfl):
  PE X (.Call (.Name x p) (e::es) [] pos) (abn sp dvs E t):=by
 intro pins s σ H Q I h
 refine wpAny_Call_Name_kw (NB I hg hm ?_ hdb)
 refine PySem.W.callWith_K (h₀:=X.base) I.ok.mod.kin hk (thn (ha pos pins s σ H _ I h) λus s1 hE=>xq2 hE λvs H1 I1 r q=>⟨I1.kIn,?_⟩) he hpl
 exact ZW F hr hb hd hx I1 r q
end
section
variable {X:Cx}{CX:CXT}{k:Nat}{f C:Addr}{fd:FuncData}{ps ks:List Str}{sp:Sp}{E:XK}{x m:Str}{p pos apos kpos:Pos}{e o:Expr}{es:List Expr}{kws:List Keyword}{te ta:TE}{t tk:TA}{nm:Option Str}
variable {g:List Value->List Value->List Value}{gV:List V->List V->List V}
end
structure aX (N P:List Str)(sc:Scope):Prop where
 kind:sc.kind=.function
 co:sc.isCoroutine=false
 gen:sc.isGenerator=false
 nd:N.Nodup
 pre:N.take P.length=P
 par:∀x∈P,sc.names.lookup x=some .local\/sc.names.lookup x=some .cell
 nofree:∀y∈sc.names,y.2≠.free
theorem BL {kindOf:Str->Option NameKind}{x:Str}:∀{binds:List (Str×Value)} {m:Str->Option Value},(∀v,(x,v)∉binds)->bindL kindOf binds m x=m x
 |[],_,_=>rfl
 |(n,v)::r,m,h=>by
  unfold bindL
  rw [BL λw hw=>h w (List.mem_cons_of_mem _ hw)]
  split
  ·have:x≠n:=by rintro rfl; exact h v List.mem_cons_self
   simp [this]
  ·rfl
theorem Cm {kindOf:Str->Option NameKind}{x:Str}:∀{binds:List (Str×Value)} {m:Str->Option Value},(∀v,(x,v)∉binds)->bindC kindOf binds m x=m x
 |[],_,_=>rfl
 |(n,v)::r,m,h=>by
  unfold bindC
  rw [Cm λw hw=>h w (List.mem_cons_of_mem _ hw)]
  split
  ·rfl
  ·have:x≠n:=by rintro rfl; exact h v List.mem_cons_self
   simp [this]
theorem CK {kindOf:Str->Option NameKind}{x:Str}{v:Value}:∀{P:List Str} {vs:List Value} {i:Nat} {m:Str->Option Value},P.Nodup->P[i]? = some x->vs[i]? = some v->kindOf x=some .local->
  bindL kindOf (P.zip vs) m x=some v
 |[],_,_,_,_,h,_,_=>by simp at h
 |_::_,[],_,_,_,_,h,_=>by simp at h
 |p::P,w::vs,0,m,nd,h1,h2,hk=>by
  simp at h1 h2; subst h1; subst h2
  show bindL kindOf ((p,w)::P.zip vs) m p=_
  unfold bindL
  rw [BL λv hv=>(List.nodup_cons.mp nd).1 (List.of_mem_zip hv).1,if_pos hk]
  simp
 |p::P,w::vs,i+1,m,nd,h1,h2,hk=>by
  show bindL kindOf ((p,w)::P.zip vs) m x=_
  unfold bindL
  exact CK (i:=i) (List.nodup_cons.mp nd).2 (by simpa using h1) (by simpa using h2) hk
theorem Cu {kindOf:Str->Option NameKind}{x:Str}{v:Value}:∀{P:List Str} {vs:List Value} {i:Nat} {m:Str->Option Value},P.Nodup->P[i]? = some x->vs[i]? = some v->kindOf x≠some .local->
  bindC kindOf (P.zip vs) m x=some v
 |[],_,_,_,_,h,_,_=>by simp at h
 |_::_,[],_,_,_,_,h,_=>by simp at h
 |p::P,w::vs,0,m,nd,h1,h2,hk=>by
  simp at h1 h2; subst h1; subst h2
  show bindC kindOf ((p,w)::P.zip vs) m p=_
  unfold bindC
  rw [Cm λv hv=>(List.nodup_cons.mp nd).1 (List.of_mem_zip hv).1,if_neg hk]
  simp
 |p::P,w::vs,i+1,m,nd,h1,h2,hk=>by
  show bindC kindOf ((p,w)::P.zip vs) m x=_
  unfold bindC
  exact Cu (i:=i) (List.nodup_cons.mp nd).2 (by simpa using h1) (by simpa using h2) hk
noncomputable def start (N:List Str)(vs:List V):St:=vs.map some++List.replicate (N.length - vs.length) none
noncomputable def Ay (CX:CXT)(P:Program)(w:World)(K:W.Frag)(mg:Str->Option Value)(base:Heap)(N:List Str)(qual:Str)(scope:Scope)(f:Addr)(cd:Value)(A:Around)(outer:List Env)(s:Shared)(H:Hp)(E:XK):Cx where
 prog:=P
 w:=w
 K:=K
 mg:=mg
 base:=base
 A:=A.deeper (envOfC qual scope s.heap.objs.size f cd)
 N:=N
 s₀:=s
 H₀:=H
 env:=envOfC qual scope s.heap.objs.size f cd
 outer:=outer
 stack:=envOfC qual scope s.heap.objs.size f cd::outer
 ex:=[]
 calm:=true
 fn:=λ_=>true
 pn:=[]
 xe:=λe s'=>wpAny (model P w) (A.deeper (envOfC qual scope s.heap.objs.size f cd)) (leaving (envOfC qual scope s.heap.objs.size f cd) e) (λ_ s''=>CX outer H s E e s'') (λe' s''=>CX outer H s E e' s'') s'
theorem Hg {sc:Scope}{n:Nat}{x:Str}(h:sc.names.lookup x=some .cell):∃c,(cellsFrom n sc.names []).lookup x=some c:=by
 have q:=PySem.W.cellsFrom_some sc.names n [] (.inl h)
 exact Option.isSome_iff_exists.mp q
theorem O5 {CX:CXT}{P:Program}{w:World}{K:W.Frag}{mg:Str->Option Value}{base:Heap}{N ps:List Str}{qual:Str}{scope:Scope}{f:Addr}{cd:Value}{A:Around}{outer:List Env}{s s1:Shared}{H:Hp}{E:XK}{us:List Value}{vs:List V}
  (S:aX N ps scope) (hd:A.handled=none) (e0:Ks P w K mg base A outer s H) (hl:vs.length=ps.length) (r:Vals vs us)
  (x:InCallC s s.heap.objs.size (bindL (envOfC qual scope s.heap.objs.size f cd).kindOf (ps.zip us) λ_=>none) (cellsFrom (s.heap.objs.size+1) scope.names []) (bindC (envOfC qual scope s.heap.objs.size f cd).kindOf (ps.zip us) λ_=>none) s1):
  Inv (Ay CX P w K mg base N qual scope f cd A outer s H E) [] (start N vs) H s1:=by
 have hpl:ps.length<=N.length:=by have:=congrArg List.length S.pre; rw [List.length_take] at this; omega
 obtain ⟨h1,tk,rfl,hk⟩:=x.done
 have noA:∀b:Addr,b∉(Ay CX P w K mg base N qual scope f cd A outer s H E).ex:=λb z=>absurd (show b∈([]:List Addr) from z) (by simp)
 refine ⟨⟨e0.mod,S.kind,rfl,rfl,Nat.le_refl _,λy z c h1 h2=>?_,λy hy=>?_,λy c _ h=>?_,λ_=>hd,Around.frames_deeper e0.frames,.inr ⟨rfl,rfl⟩,λb z=>absurd z (noA b),e0.bs,e0.bsz,λb _ _=>noA b,λb z=>absurd z (noA b),e0.ym,e0.frf⟩,
  rfl,e0.bare,Un.kept hk,⟨_,x.toInCall.ns,λi y v h1 h2 h3=>?_⟩,λy c h=>⟨_,x.cell y c h⟩,e0.hok.fresh (Nat.le_refl _),λy c h=>?_,λp hp=>absurd (show p∈([]:List (Addr×Obj)) from hp) (by simp),e0.hok.kept hk,?_⟩
 ·exact name_of_addr x.apart (PySem.mem_of_lookup h1) (PySem.mem_of_lookup h2)
 ·have hy:scope.names.lookup y=some .cell\/scope.names.lookup y=some .free:=hy
  rcases hy with hy | hy
  ·exact Hg hy
  ·exact absurd rfl (S.nofree _ (PySem.mem_of_lookup hy))
 ·exact Nat.le_of_lt (x.above y c (PySem.mem_of_lookup h))
 ·have hi:i<vs.length:=by
   unfold start at h2
   by_cases hi:i<vs.length
   ·exact hi
   ·rw [List.getElem?_append_right (by simpa using hi)] at h2
    rw [List.getElem?_replicate] at h2
    split at h2 <;> cases h2
  have ha:vs[i]? = some v:=by
   unfold start at h2
   rw [List.getElem?_append_left (by simpa using hi),List.getElem?_map] at h2
   cases e:vs[i]? with
   |none=>rw [e] at h2; cases h2
   |some a=>rw [e] at h2; cases h2; rfl
  obtain ⟨u,hu,rv⟩:=r.get ha
  have hp:ps[i]? = some y:=by
   rw [← S.pre,List.getElem?_take_of_lt (by omega)]; exact h1
  have ndP:ps.Nodup:=by rw [← S.pre]; exact S.nd.sublist (List.take_sublist _ _)
  refine ⟨u,rv,?_⟩
  rcases S.par y (List.mem_of_getElem? hp) with k | k
  ·exact .inl ⟨k,CK ndP hp hu k⟩
  ·obtain ⟨c,e⟩:=Hg (n:=s.heap.objs.size+1) k
   refine .inr ⟨.inl k,c,e,?_⟩
   have q:=x.cell y c e
   rw [Cu ndP hp hu (by show scope.names.lookup y≠_; rw [k]; decide)] at q
   exact q
 ·exact e0.hok.fresh (Nat.le_of_lt (x.above y c (PySem.mem_of_lookup h)))
 ·unfold start
  show _=N.length
  rw [List.length_append,List.length_map,List.length_replicate]
  omega
theorem Lr {CX:CXT}{P:Program}{w:World}{K:W.Frag}{mg:Str->Option Value}{base:Heap}{k:Nat}{f:Addr}{name qual:Str}{params:Arguments}{body:List Stmt}{scope:Scope}{dV kV doc pm cdv ct oc:Value}{an od:Option Addr}
  {osl:Array (Option Value)} {N ps:List Str} {sp:Sp} (lk:K.lookup f=some ⟨oc,od,.func (W.fnOf name qual params body scope dV kV doc pm an cdv ct),osl⟩) (hcd:W.codeIn K cdv qual=true) (S:aX N ps scope)
  (len:∀vs H Q E,sp vs H Q E->vs.length=ps.length)
  (hbody:∀(A:Around) (outer:List Env) (s:Shared) (H:Hp) (vs:List V) (Q:VK) (E:XK),iR k (A.deeper (envOfC qual scope s.heap.objs.size f cdv))->sp vs H Q E->
   ∃t,PSs (Ay CX P w K mg base N qual scope f cdv A outer s H E) body t/\t { nx:=λ_ H'=>Q .non H',rt:=Q } (start N vs) H):
  cL P w K mg base CX (k+1) f (W.fnOf name qual params body scope dV kV doc pm an cdv ct) ps sp:=by
 refine ⟨len,λA outer s H args us vs Q E hr e0 hb r hsp=>?_⟩
 have hl:=len _ _ _ _ hsp
 have KX:K.In s.heap:=e0.mod.kin.keeps λb o e=>(e0.bs b o e).1
 have lim:s.heap.NoLimit:=e0.mod.nolimit.keeps λb o e=>(e0.bs b o e).1
 have hkind:∀y∈ps.zip us,scope.names.lookup y.1=some .local\/(scope.names.lookup y.1=some .cell/\((cellsFrom (s.heap.objs.size+1) scope.names []).lookup y.1).isSome=true):=λ⟨n,v⟩ hy=>by
  rcases S.par n (List.of_mem_zip hy).1 with q | q
  ·exact .inl q
  ·exact .inr ⟨q,PySem.W.cellsFrom_some _ _ _ (.inl q)⟩
 refine codeAny_call_function hr.depth (KX _ _ lk) rfl S.co S.gen rfl (PySem.W.codeRec_of KX hcd) (hb _ _ _ _ ?_)
 refine wpAny_newFunctionEnv_cells S.kind hkind λenv he s1 x=>?_
 subst he
 refine ⟨lim.keeps x.toInCall.keep,codeAny_func ?_⟩
 obtain ⟨t,ht,hq⟩:=hbody A outer s H vs Q E (hr.deeper _) hsp
 have I:Inv (Ay CX P w K mg base N qual scope f cdv A outer s H E) [] (start N vs) H s1:=O5 S hr.hd e0 hl r x
 refine wpAny_mono (ht [] s1 (start N vs) H _ I hq) (λfl s' hs=>?_) λe s' hs=>hs
 have fin:∀{σ':St} {H':Hp} {v:V} {u:Value},Inv (Ay CX P w K mg base N qual scope f cdv A outer s H E) [] σ' H' s'->RelV v u->Q v H'->CE outer P w H s Q u s':=
  λ{σ' H' v u} J rv q=>⟨v,H',J.os,J.bare,J.base,J.hok,rv,q⟩
 cases fl with
 |ret u=>
  obtain ⟨v,σ',H',J,rv,q⟩:=hs
  exact fin J rv q
 |next=>
  obtain ⟨σ',H',J,q⟩:=hs
  exact fin (v:=V.non) (u:=Value.none) J rfl q
 |brk=>
  obtain ⟨_,_,_,q⟩:=hs
  exact False.elim q
 |cont=>
  obtain ⟨_,_,_,q⟩:=hs
  exact False.elim q
open PySem PySem.Spec PyProof.Rows
section
variable {X:Cx}{x:Str}{p pos:Pos}{e:Expr}{es:List Expr}{t:TA}{id T:String}{r:List V->Hp->VK->Prop}
noncomputable def tCB (r:List V->Hp->VK->Prop)(t:TA):TE:=λσ H Q=>t σ H λvs H1=>r vs H1 Q
theorem Ip (hc:kJ X (.builtin id) r)(hg:Gl X x)(hm:X.mg x=none)(hv:bootBuiltins x=some (.builtin id))(ha:PA X (e::es) t)(hn:x≠"__name__":=by decide)(hdb:(x == ("__debug__" : Str))=false:=by decide)
  (he:starEach (e::es) X.env=(false,eval e X.env)::starEach es X.env:=by rfl) (hpl:(backTo pos (starEach es X.env)).any (·.1)=false:=by rfl):PE X (.Call (.Name x p) (e::es) [] pos) (tCB r t):=by
 intro pins s σ H Q I h
 refine wpAny_Call_Name_kw (tH I hg hm hv ?_ hn hdb)
 exact PyProof.Rows.callWith_builtin1 (thn (ha pos pins s σ H _ I h) λus s1 hE=>xq2 hE λvs H1 I1 r1 q1=>hc pins s1 σ H1 vs us Q I1 r1 q1) he hpl
theorem xf (hc:kJ X (.type T) r)(hg:Gl X x)(hm:X.mg x=none)(hv:bootBuiltins x=some (.type T))(ha:PA X (e::es) t)(hn:x≠"__name__":=by decide)(hdb:(x == ("__debug__" : Str))=false:=by decide)
  (he:starEach (e::es) X.env=(false,eval e X.env)::starEach es X.env:=by rfl) (hpl:(backTo pos (starEach es X.env)).any (·.1)=false:=by rfl):PE X (.Call (.Name x p) (e::es) [] pos) (tCB r t):=by
 intro pins s σ H Q I h
 refine wpAny_Call_Name_kw (tH I hg hm hv ?_ hn hdb)
 exact PyProof.Rows.callWith_type1 (thn (ha pos pins s σ H _ I h) λus s1 hE=>xq2 hE λvs H1 I1 r1 q1=>hc pins s1 σ H1 vs us Q I1 r1 q1) he hpl
end
end L2
namespace HT
open PySem PyProof.Rows
noncomputable def lexLt:List Int->List Int->Bool
 |[],[]=>false
 |[],_::_=>true
 |_::_,[]=>false
 |x::xs,y::ys=>if x=y then lexLt xs ys else decide (x<y)
theorem J7 (x y:Int)(xs ys:List Int):lexLt (x::xs) (y::ys)=if x=y then lexLt xs ys else decide (x<y):=rfl
theorem Bp:lexLt [] []=false:=rfl
theorem zT (y:Int)(ys:List Int):lexLt [] (y::ys)=true:=rfl
theorem zP (x:Int)(xs:List Int):lexLt (x::xs) []=false:=rfl
theorem Rr (A:Around)(s:Shared)(a:Int)(t:Tok)(c:Int)(u:Tok):∃e,SeqAt.EqAt A s (.int a t) (.int c u) e/\(e=true↔a=c):=
 ⟨(a == c),SeqAt.EqAt.int_int a t c u,by simp⟩
theorem Rk (A:Around)(s:Shared)(a:Int)(t:Tok)(c:Int)(u:Tok)(prog:Program)(w:World)(E:Value->Shared->Prop)(Q:Value->Shared->Prop)(h:Q (.bool (decide (a<c))) s):
  wpAny (model prog w) A (richCompare .Lt (.int a t) (.int c u)) Q E s:=
 (PyProof.Rows.lt_int h:wpAny (model prog w) A (compareOp .Lt (.int a t) (.int c u)) Q E s)
section
open PySem.SeqAt
open PySem.AutoSeq1 (wpAny_loadPart')
open PySem.MeetsSeq PySem.MeetsSeq2 PySem.MeetsSeq3
theorem Bw (l b:Addr)(items items2:Array Value)(n n2:Nat)(dd dd2:Option Addr)(sl sl2:Array (Option Value))(ns ms:List Int)(hi:IntsAre items.toList ns)(hj:IntsAre items2.toList ms):
  Meets (Builtin.«tuple.__lt__» ⟨[.ref l,.ref b],[]⟩)
   (λ_ R s=>s.heap.get? l=some { cls:=.type "tuple",dict:=dd,data:=.seq items n,slots:=sl }/\s.heap.get? b=some { cls:=.type "tuple",dict:=dd2,data:=.seq items2 n2,slots:=sl2 }/\
    R (.ok (.ret (.bool (lexLt ns ms)))) s):=
 .of_wp λprog w A R s h=>by
  obtain ⟨hp,g,d,tk,os⟩:=s; obtain ⟨hl,hb,h⟩:=h
  have f2:=AutoSeq1.sub_tuple_tuple
  have z1:items.size=ns.length:=by rw [← hi.length]; simp
  have z2:items2.size=ms.length:=by rw [← hj.length]; simp
  wp_walk using wpAny_loadPart' hl,wpAny_loadPart' hb,wpAny_forIn_list _ (λrest b s'=>b.1=none/\s'=⟨hp,g,d,tk,os⟩/\∃(vs ws:List Value) (ns' ms':List Int),rest=vs.zip ws/\
   IntsAre vs ns'/\IntsAre ws ms'/\ns'.length+items2.size=ms'.length+items.size/\R (.ok (.ret (.bool (lexLt ns' ms')))) ⟨hp,g,d,tk,os⟩) _
  case turn=>
   rintro ⟨y,x⟩ rest b s' ⟨hb',rfl,vs,ws,ns',ms',hz,hvi,hwi,hlen,hR⟩
   cases hvi with
   |nil=>rw [List.zip_nil_left] at hz; cases hz
   |cons a t hvi'=>
    cases hwi with
    |nil=>rw [List.zip_nil_right] at hz; cases hz
    |cons c u hwi'=>
     rw [List.zip_cons_cons] at hz
     injection hz with hyx hrest
     injection hyx with hy hx
     subst hy hx
     rw [J7] at hR
     simp only [List.length_cons] at hlen
     obtain ⟨e,he,hiff⟩:=Rr A.in1 ⟨hp,g,d,tk,os⟩ a t c u
     refine wpAny_bind (he prog w _ _ ?_)
     cases e with
     |true=>
      rw [if_pos (hiff.mp rfl)] at hR
      wp_walk
      exact ⟨rfl,rfl,_,_,_,_,hrest,hvi',hwi',by omega,hR⟩
     |false=>
      rw [if_neg (λq=>absurd (hiff.mpr q) Bool.false_ne_true)] at hR
      have hri:=Rk A.in1 ⟨hp,g,d,tk,os⟩ a t c u prog w
      wp_walk using hri
      exact ⟨_,rfl,by simpa using hR⟩
  case fin=>
   rintro ⟨b1,b2⟩ s' ⟨hb',rfl,vs,ws,ns',ms',hz,hvi,hwi,hlen,hR⟩
   simp only at hb'
   subst hb'
   have hv:lexLt ns' ms'=decide (items.size<items2.size):=by
    cases hvi with
    |nil=>
     cases hwi with
     |nil=>
      simp only [List.length_nil] at hlen
      rw [Bp]
      exact (decide_eq_false (by omega)).symm
     |cons c u hw=>
      simp only [List.length_nil,List.length_cons] at hlen
      rw [zT]
      exact (decide_eq_true (by omega)).symm
    |cons a t hv=>
     cases hwi with
     |nil=>
      simp only [List.length_nil,List.length_cons] at hlen
      rw [zP]
      exact (decide_eq_false (by omega)).symm
     |cons c u hw=>
      rw [List.zip_cons_cons] at hz
      cases hz
   rw [hv] at hR
   wp_walk
   exact ⟨_,rfl,by simpa [Builtin.Tuple.tupleCompareSizes] using hR⟩
  case h=>
   exact ⟨rfl,rfl,items.toList,items2.toList,ns,ms,rfl,hi,hj,by omega,h⟩
end
section
variable {prog:Program}{w:World}{A:Around}{E:Value->Shared->Prop}{s:Shared}
theorem JV {l b:Addr}{items items2:Array Value}{ns ms:List Int}{Q:Value->Shared->Prop}(hl:IsTup s.heap l items)(hb:IsTup s.heap b items2)(hi:IntsAre items.toList ns)(hj:IntsAre items2.toList ms)
  (hu:A.units<cLine) (h:Q (.bool (lexLt ns ms)) s):wpAny (model prog w) A (compareOp .Lt (.ref l) (.ref b)) Q E s:=by
 obtain ⟨⟨cls,dd,data,sl⟩,ho,hc,n,hd⟩:=id hl
 obtain ⟨⟨cls2,dd2,data2,sl2⟩,ho2,hc2,n2,hd2⟩:=id hb
 simp only at hc hd hc2 hd2
 subst hc hd hc2 hd2
 exact richCompare_meets_room (op:=.Lt) ⟨_,ho,rfl⟩ ⟨_,ho2,rfl⟩ PySem.F.slot_tuple_lt PySem.F.entry_tuple_lt (PySem.F.args_tuple_lt_2 _ _) (Bw l b items items2 n n2 dd dd2 sl sl2 ns ms hi hj)
  ⟨ho,ho2,show Value.bool (lexLt ns ms)≠Value.notImplemented/\Q (.bool (lexLt ns ms)) s from ⟨(λx=>nomatch x),h⟩⟩ hu
theorem WD {t b:Addr}{vs ws:List Value}{Q:Value->Shared->Prop}(ht:IsTup s.heap t vs.toArray)(hb:IsTup s.heap b ws.toArray)(hv:vs≠[])
  (h1:ws=[]->Q (.ref t) s) (h2:ws≠[]->Q (.ref s.heap.objs.size) { s with heap:=s.heap.push { cls:=.type "tuple",data:=.seq (vs++ws).toArray } })
  (hsz:vs.length+ws.length<=sizeLine):wpAny (model prog w) A (binaryOp .Add (.ref t) (.ref b)) Q E s:=by
 obtain ⟨⟨cls,dd,data,sl⟩,ho,hc,n,hd⟩:=id ht
 obtain ⟨⟨cls2,dd2,data2,sl2⟩,ho2,hc2,n2,hd2⟩:=id hb
 simp only at hc hd hc2 hd2
 subst hc hd hc2 hd2
 have e:vs.toArray++ws.toArray=(vs++ws).toArray:=by simp
 by_cases hw:ws=[]
 ·exact concat_meets ⟨_,ho,rfl⟩ ⟨_,ho2,rfl⟩ noFill_tuple_add seq_tuple_add PySem.F.slot_tuple_add PySem.F.entry_tuple_add (PySem.F.args_tuple_add_2 _ _)
   (tuple_addW1 t b vs.toArray ws.toArray n n2 dd dd2 sl sl2 (by simpa using hv) (by simp [hw])) ⟨ho,ho2,h1 hw⟩
 ·refine concat_meets ⟨_,ho,rfl⟩ ⟨_,ho2,rfl⟩ noFill_tuple_add seq_tuple_add PySem.F.slot_tuple_add PySem.F.entry_tuple_add (PySem.F.args_tuple_add_2 _ _)
   (tuple_addW2 t b vs.toArray ws.toArray n n2 dd dd2 sl sl2 (by simpa using hv) (by simpa using hw) (by rw [List.size_toArray,List.size_toArray]; exact hsz)) ⟨ho,ho2,?_⟩
  rw [e]
  exact h2 hw
noncomputable def sIx (n d:Nat):Option Int->Nat
 |none=>d
 |some v=>if v<0 then (v+(n:Int)).toNat else min v.toNat n
theorem Y9 (n d:Nat)(hd:d<=n)(o:Option Int):sIx n d o<=n:=by
 cases o with
 |none=>exact hd
 |some v=>
  show (if v<0 then (v+(n:Int)).toNat else min v.toNat n)<=n
  by_cases hv:v<0
  ·rw [if_pos hv]; omega
  ·rw [if_neg hv]; exact Nat.min_le_right _ _
theorem Ls (v:Int)(n d:Nat):(if v<0 then max (v+(n:Int)) 0 else min v (n:Int))=((sIx n d (some v):Nat):Int):=by
 show (if v<0 then max (v+(n:Int)) 0 else min v (n:Int))=(((if v<0 then (v+(n:Int)).toNat else min v.toNat n):Nat):Int)
 by_cases hv:v<0
 ·simp only [if_pos hv]; omega
 ·simp only [if_neg hv]; omega
theorem Ji (lo hi:Option Int)(n:Nat):Builtin.Slice.sliceAdjust lo hi 1 (n:Int)=(((sIx n 0 lo:Nat):Int),((sIx n n hi:Nat):Int)):=by
 have h1:¬((1:Int)<0):=by omega
 unfold Builtin.Slice.sliceAdjust
 simp only [h1,if_false]
 refine Prod.ext ?_ ?_
 ·cases lo with
  |none=>rfl
  |some v=>exact Ls v n 0
 ·cases hi with
  |none=>rfl
  |some v=>exact Ls v n n
theorem Kg (i j:Nat):Builtin.Slice.slicePlaces (i:Int) (j:Int) 1=j - i:=by
 unfold Builtin.Slice.slicePlaces
 have h1:(1:Int) > 0:=by omega
 simp only [h1,if_true,Int.ediv_one]
 split <;> omega
theorem Bb {v:Value}{o:Option Int}{Q:Option Int->Shared->Prop}(p:IsPart v o)(h:Q o s):wpAny (model prog w) A (Builtin.Slice.slicePartIndex v) Q E s:=by
 cases p with
 |none=>exact slicePart_none h
 |int i t=>exact slicePart_int h
theorem xJ {sl:Addr}{vl vu:Value}{lo hi:Option Int}{n:Nat}{Q:Int×Int×Nat->Shared->Prop}(hs:s.heap.IsSliceOf sl vl vu .none)(pl:IsPart vl lo)(pu:IsPart vu hi)
  (h:Q (((sIx n 0 lo:Nat):Int),1,sIx n n hi - sIx n 0 lo) s):wpAny (model prog w) A (Builtin.Slice.sliceApplied (.ref sl) (pure (n:Int))) Q E s:=by
 obtain ⟨os,hos,hcs,hds⟩:=id hs
 unfold Builtin.Slice.sliceApplied Builtin.Slice.sliceFields
 refine wpAny_bind (wpAny_bind (wpAny_field hos hds (x:=vl) rfl (wpAny_bind (wpAny_field hos hds (x:=vu) rfl (wpAny_bind (wpAny_field hos hds (x:=.none) rfl (wpAny_pure ?_)))))))
 refine wpAny_bind (slicePart_none ?_)
 show wpAny _ _ (if ((1:Int) == 0)=true then _ else _) _ _ s
 rw [if_neg (by decide)]
 refine wpAny_bind (Bb pl (wpAny_bind (Bb pu (wpAny_bind (wpAny_pure ?_)))))
 show wpAny _ _ (match Builtin.Slice.sliceAdjust lo hi 1 (n:Int) with | (lo,hi)=>pure (lo,(1:Int),Builtin.Slice.slicePlaces lo hi 1)) _ _ s
 rw [Ji lo hi n]
 show wpAny _ _ (pure (((sIx n 0 lo:Nat):Int),(1:Int),Builtin.Slice.slicePlaces ((sIx n 0 lo:Nat):Int) ((sIx n n hi:Nat):Int) 1)) _ _ s
 rw [Kg]
 exact wpAny_pure h
theorem Tc (xs:Array Value)(i k:Nat):((List.range k).filterMap λ(m:Nat)=>xs[((i:Int)+(m:Int) * 1).toNat]?).toArray=((xs.toList.drop i).take k).toArray:=by
 have e:(λ(m:Nat)=>xs[((i:Int)+(m:Int) * 1).toNat]?)=λm=>xs[i+m]?:=by
  funext m
  have:((i:Int)+(m:Int) * 1).toNat=i+m:=by omega
  rw [this]
 rw [e]
 have:=pick_run xs i k
 rw [List.filterMap_map] at this
 have e2:((λx=>xs[x]?) ∘ λx=>i+x)=λm=>xs[i+m]?:=rfl
 rw [e2] at this
 rw [this]
theorem vC {t sl:Addr}{items:Array Value}{vl vu:Value}{lo hi:Option Int}{Q:Value->Shared->Prop}(ht:IsTup s.heap t items)(hs:s.heap.IsSliceOf sl vl vu .none)(pl:IsPart vl lo)(pu:IsPart vu hi)
  (hw:¬(sIx items.size 0 lo=0/\sIx items.size items.size hi=items.size))
  (h:Q (.ref s.heap.objs.size) { s with heap:=s.heap.push { cls:=.type "tuple",data:=.seq ((items.toList.drop (sIx items.size 0 lo)).take (sIx items.size items.size hi - sIx items.size 0 lo)).toArray } })
  (hsz:items.size<=sizeLine):wpAny (model prog w) A (getItem (.ref t) (.ref sl)) Q E s:=by
 have htake:sizeOk (.seq ((items.toList.drop (sIx items.size 0 lo)).take (sIx items.size items.size hi - sIx items.size 0 lo)).toArray):=by
  show ((items.toList.drop (sIx items.size 0 lo)).take (sIx items.size items.size hi - sIx items.size 0 lo)).toArray.size<=sizeLine
  rw [List.size_toArray,List.length_take,List.length_drop,Array.length_toList]
  omega
 have hj:sIx items.size items.size hi<=items.size:=Y9 _ _ (Nat.le_refl _) hi
 obtain ⟨os,hos,hcs,hds⟩:=id hs
 have hTs:s.TypeIs (.ref sl) "slice":=⟨os,hos,hcs⟩
 unfold getItem
 try with_reducible refine wpAny_holding ?_
 first | refine wpAny_bind (wpAny_pure ?_) | skip
 refine wpAny_bind (wpAny_sequenceKey ht.typeIs (by decide) ?_)
 refine wpAny_bind (wpAny_callSpecial?_slot (name:=Str.ofString "__getitem__") ht.typeIs PyProof.Rows.slot_tuple_getitem
  (wpAny_call_entry PyProof.Rows.slot_tuple_getitem ht.typeIs entry_tuple_getitem ?_ (args_tuple_getitem _ _)))
 show wpAny _ _ (Builtin.Tuple.tupleItemsOf (.ref t) >>= _) _ _ s
 refine wpAny_bind (tupleItemsOf_ ht ?_)
 refine wpAny_bind (wpAny_typeOf hTs ?_)
 rw [if_pos (by decide)]
 refine wpAny_bind (xJ hs pl pu ?_)
 have hno:¬((((sIx items.size 0 lo:Nat):Int) == 0 && (1:Int) == 1 && (sIx items.size items.size hi - sIx items.size 0 lo) == items.size)=true):=by
  intro q
  rw [Bool.and_eq_true,Bool.and_eq_true] at q
  have q1:((sIx items.size 0 lo:Nat):Int)=0:=eq_of_beq q.1.1
  have q2:sIx items.size items.size hi - sIx items.size 0 lo=items.size:=eq_of_beq q.2
  exact hw ⟨by omega,by omega⟩
 show wpAny _ _ (if (((sIx items.size 0 lo:Nat):Int) == 0 && (1:Int) == 1 && (sIx items.size items.size hi - sIx items.size 0 lo) == items.size)=true then _ else _) _ _ s
 rw [if_neg hno,Tc]
 first
  |exact wpAny_bind (m:=Builtin.Tuple.tupleExact _) (wpAny_newObj_type (wpAny_pure ⟨_,rfl,wpAny_pure h⟩) htake)
  |exact wpAny_bind (m:=Builtin.Tuple.tupleExact _) (wpAny_newObj_type (wpAny_bind (wpAny_pure (wpAny_pure ⟨_,rfl,wpAny_pure h⟩))) htake)
  |exact wpAny_bind (wpAny_bind (m:=Builtin.Tuple.tupleExact _) (wpAny_newObj_type (wpAny_pure (wpAny_pure ⟨_,rfl,wpAny_pure h⟩)) htake))
  |exact wpAny_bind (wpAny_bind (m:=Builtin.Tuple.tupleExact _) (wpAny_newObj_type (wpAny_pure ⟨_,rfl,wpAny_pure h⟩) htake))
end
end HT
namespace L2
open PySem PySem.Spec PyProof.Rows
noncomputable abbrev TO:=St->Hp->(Option Int->Hp->Prop)->Prop
noncomputable def PO (X:Cx)(e:Option Expr)(t:TO):Prop:=
 ∀(pins:List (Addr×Obj)) (s:Shared) (σ:St) (H:Hp) (Q:Option Int->Hp->Prop),Inv X pins σ H s->t σ H Q->
  wpAny (model X.prog X.w) X.A (evalPart e X.env) (λu s'=>∃o H',Inv X pins σ H' s'/\IsPart u o/\Q o H') X.xe s
noncomputable def Wn:TO:=λ_ H Q=>Q none H
noncomputable def aaR (t:TE):TO:=λσ H Q=>t σ H λx H1=>∃i,x=.int i/\Q (some i) H1
theorem intsAre_of {ns:List Int}:∀{us:List Value},Vals (ns.map V.int) us->IntsAre us ns:=by
 induction ns with
 |nil=>intro us r; rw [List.map_nil] at r; cases r; exact .nil
 |cons n ns ih=>
  intro us r
  rw [List.map_cons] at r
  cases r with
  |cons r1 r2=>
   obtain ⟨t,e⟩:=r1
   subst e
   exact .cons n t (ih r2)
section
variable {X:Cx}{e:Expr}{te:TE}{lo hi:Option Expr}{tl th:TO}{pos p2:Pos}
theorem W6:PO X none Wn:=by
 intro pins s σ H Q I h
 rw [evalPart_none]
 exact wpAny_pure ⟨none,H,I,.none,h⟩
theorem Vf (h:PE X e te):PO X (some e) (aaR te):=by
 intro pins s σ H Q I hw
 rw [evalPart_some]
 refine thn (h pins s σ H _ I hw) λu s1 hE=>xq2 hE λx H1 I1 r1 q1=>?_
 obtain ⟨i,rfl,q⟩:=q1
 obtain ⟨t,rfl⟩:=r1
 exact ⟨some i,H1,I1,.int i t,q⟩
noncomputable def SlR (X:Cx)(r:V->Option Int->Option Int->Hp->VK->Prop):Prop:=
 ∀(pins:List (Addr×Obj)) (s:Shared) (σ:St) (H:Hp) (x:V) (v vl vu:Value) (lo hi:Option Int) (sl:Addr) (Q:VK),Inv X pins σ H s->RelV x v->s.heap.IsSliceOf sl vl vu .none->IsPart vl lo->IsPart vu hi->r x lo hi H Q->
  ∃T id,typeLookup (.type T) "__getitem__" = pure (some (.builtin id))/\s.TypeIs v T/\wpAny (model X.prog X.w) X.A (getItem v (.ref sl)) (EP X pins σ Q) X.xe s
noncomputable def tSl (r:V->Option Int->Option Int->Hp->VK->Prop)(te:TE)(tl th:TO):TE:=λσ H Q=>te σ H λx H1=>tl σ H1 λl H2=>th σ H2 λu H3=>r x l u H3 Q
theorem QC {r:V->Option Int->Option Int->Hp->VK->Prop}(hr:SlR X r)(he:PE X e te)(hl:PO X lo tl)(hu:PO X hi th):PE X (.Subscript e (.Slice lo hi none p2) pos) (tSl r te tl th):=by
 intro pins s σ H Q I h
 refine Subscript_ (thn (he pins s σ H _ I h) λv s1 hE=>xq2 hE λx H1 I1 r1 q1=>?_)
 refine wpAny_Slice (thn (hl pins s1 σ H1 _ I1 q1) λvl s2 ⟨l,H2,I2,pl,q2⟩=>thn (hu pins s2 σ H2 _ I2 q2) λvu s3 ⟨u,H3,I3,pu,q3⟩=>?_)
 rw [evalPart_none]
 refine wpAny_pure ?_
 have I4:Inv X pins σ H3 { s3 with heap:=s3.heap.push { cls:=.type "slice",data:=.fields #[vl,vu,.none] } }:=I3.kept (t':=s3.toks) λb ob q=>Heap.get?_push_of_some _ q
 obtain ⟨T,id,hT,ht,hg⟩:=hr pins { s3 with heap:=s3.heap.push { cls:=.type "slice",data:=.fields #[vl,vu,.none] } } σ H3 x v vl vu l u s3.heap.objs.size Q I4 r1 (Heap.IsSliceOf.new ..) pl pu q3
 show wpAny (model X.prog X.w) X.A (subscriptTail e (.Slice lo hi none p2) v (.ref s3.heap.objs.size)) (EP X pins σ Q) X.xe { s3 with heap:=s3.heap.push { cls:=.type "slice",data:=.fields #[vl,vu,.none] } }
 exact tail_any (ops:=[.ref s3.heap.objs.size,v]) ht hT hg (by with_unfolding_all rfl)
noncomputable def Jb (xs:List V)(lo hi:Option Int):List V:=(xs.drop (HT.sIx xs.length 0 lo)).take (HT.sIx xs.length xs.length hi - HT.sIx xs.length 0 lo)
theorem yh (xs:List V)(lo hi:Option Int):(Jb xs lo hi).length<=xs.length:=by
 unfold Jb
 rw [List.length_take,List.length_drop]
 omega
noncomputable def acJ (K:W.Frag):V->Option Int->Option Int->Hp->VK->Prop:=λx lo hi H Q=>∃a xs,x=.ref a/\SqT K H a xs/\
 ¬(HT.sIx xs.length 0 lo=0/\HT.sIx xs.length xs.length hi=xs.length)/\∀p,H p=none->Q (.ref p) (upd H p (.tup (Jb xs lo hi)))
theorem ZV:SlR X (acJ X.K):=by
 intro pins s σ H x v vl vu lo hi sl Q I rx hs pl pu h
 obtain ⟨a,xs,rfl,hx,hw,q⟩:=h
 cases rx
 obtain ⟨its,r,ht,hz⟩:=I.tuple hx
 have hlen:its.toArray.size=xs.length:=by rw [List.size_toArray]; exact r.length.symm
 refine ⟨"tuple",_,PyProof.Rows.slot_tuple_getitem.lookup,ht.typeIs,?_⟩
 refine HT.vC ht hs pl pu (by rw [hlen]; exact hw) ?_ (by rw [hlen]; exact hz)
 rw [hlen]
 refine ⟨.ref s.heap.objs.size,_,I.laid (t':=s.toks) (o:=.tup (Jb xs lo hi)) (λb ob q=>Heap.get?_push_of_some _ q) (Nat.le_refl _) ?_,rfl,q _ (I.hok.fresh (Nat.le_refl _))⟩
 exact ⟨Nat.le_trans (yh xs lo hi) hz,_,(r.drop (HT.sIx xs.length 0 lo)).take (HT.sIx xs.length xs.length hi - HT.sIx xs.length 0 lo),IsTup.new _ _⟩
noncomputable def acd (K:W.Frag):R2:=λx y H Q=>∃a b ns ms,x=.ref a/\y=.ref b/\SqT K H a (ns.map V.int)/\SqT K H b (ms.map V.int)/\Q (.bl (HT.lexLt ns ms)) H
theorem aas (hu:X.A.units<cLine):OpR X (compareOp .Lt) (acd X.K):=by
 intro pins s σ H x y v u Q I rx ry h
 obtain ⟨a,b,ns,ms,rfl,rfl,ha,hb,q⟩:=h
 cases rx
 cases ry
 obtain ⟨its,r1,p1,_⟩:=I.tuple ha
 obtain ⟨its2,r2,p2,_⟩:=I.tuple hb
 have i1:IntsAre its.toArray.toList ns:=intsAre_of r1
 have i2:IntsAre its2.toArray.toList ms:=intsAre_of r2
 exact HT.JV p1 p2 i1 i2 hu ⟨.bl (HT.lexLt ns ms),H,I,rfl,q⟩
noncomputable def abG (K:W.Frag):R2:=λx y H Q=>∃a b xs ys,x=.ref a/\y=.ref b/\SqT K H a xs/\SqT K H b ys/\xs≠[]/\xs.length+ys.length<=sizeLine/\
 (ys=[]->Q (.ref a) H)/\(ys≠[]->∀p,H p=none->Q (.ref p) (upd H p (.tup (xs++ys))))
theorem Vals.Et {xs:List V}{us:List Value}(r:Vals xs us):us=[]↔xs=[]:=by
 cases r with
 |nil=>simp
 |cons _ _=>simp
theorem Vt:OpR X (binaryOp .Add) (abG X.K):=by
 intro pins s σ H x y v u Q I rx ry h
 obtain ⟨a,b,xs,ys,rfl,rfl,ha,hb,hx,hz,q1,q2⟩:=h
 cases rx
 cases ry
 obtain ⟨its,r1,p1,_⟩:=I.tuple ha
 obtain ⟨its2,r2,p2,_⟩:=I.tuple hb
 refine HT.WD p1 p2 (λz=>hx (r1.Et.mp z)) (λz=>⟨.ref a,H,I,rfl,q1 (r2.Et.mp z)⟩) (λz=>?_) (by rw [← r1.length,← r2.length]; exact hz)
 refine ⟨.ref s.heap.objs.size,_,I.laid (t':=s.toks) (o:=.tup (xs++ys)) (λb ob q=>Heap.get?_push_of_some _ q) (Nat.le_refl _) ?_,rfl,q2 (λw=>z (r2.Et.mpr w)) _ (I.hok.fresh (Nat.le_refl _))⟩
 exact ⟨by rw [List.length_append]; exact hz,_,r1.append r2,IsTup.new _ _⟩
end
open PySem PySem.Spec PyProof.Rows
noncomputable def ixN (n:Nat)(i:Int):Option Nat:=if 0<=i then (if i<n then some i.toNat else none) else if -(n:Int)<=i then some (i+n).toNat else none
noncomputable def atI {α:Type}(xs:List α)(i:Int):Option α:=(ixN xs.length i).bind λj=>xs[j]?
theorem Lz {n:Nat}{i:Int}{j:Nat}(h:ixN n i=some j):seqIndex? i n=some j/\j<n/\-(n:Int)<=i/\i<n:=by
 unfold ixN at h
 by_cases h0:0<=i
 ·rw [if_pos h0] at h
  by_cases h1:i<n
  ·rw [if_pos h1] at h
   have e:i.toNat=j:=Option.some.inj h
   exact ⟨by rw [seqIndex_of h0 h1,e],by omega,by omega,h1⟩
  ·rw [if_neg h1] at h; cases h
 ·rw [if_neg h0] at h
  by_cases h1:-(n:Int)<=i
  ·rw [if_pos h1] at h
   have e:(i+n).toNat=j:=Option.some.inj h
   exact ⟨by rw [seqIndex_neg (by omega) h1,e],by omega,h1,by omega⟩
  ·rw [if_neg h1] at h; cases h
theorem Dh {α:Type}{xs:List α}{i:Int}{v:α}(h:atI xs i=some v):∃j,seqIndex? i xs.length=some j/\xs[j]? = some v/\j<xs.length/\-(xs.length:Int)<=i/\i<xs.length:=by
 unfold atI at h
 cases e:ixN xs.length i with
 |none=>rw [e] at h; cases h
 |some j=>
  rw [e] at h
  obtain ⟨h1,h2,h3,h4⟩:=Lz e
  exact ⟨j,h1,h,h2,h3,h4⟩
theorem pN {α:Type}{xs:List α}{j:Nat}{v:α}(h:xs[j]? = some v):atI xs (j:Int)=some v:=by
 have hj:j<xs.length:=(List.getElem?_eq_some_iff.mp h).1
 have e:ixN xs.length (j:Int)=some j:=by
  unfold ixN
  rw [if_pos (by omega),if_pos (by omega)]; simp
 unfold atI; rw [e]; exact h
theorem QV {α:Type}(xs:List α)(v:α):atI (xs++[v]) (-1)=some v:=by
 have hl:(xs++[v]).length=xs.length+1:=by simp
 have e:ixN (xs++[v]).length (-1)=some xs.length:=by
  unfold ixN
  rw [hl,if_neg (by decide),if_pos (by omega)]
  congr 1
  omega
 unfold atI
 rw [e]
 show (xs++[v])[xs.length]? = some v
 simp
noncomputable def Np (b:Expr):Prop:=∀o i,subscripted b false o i=operate [o,i] (getItem o i)
noncomputable def IxR (X:Cx)(r:R2):Prop:=
 ∀(value slice:Expr) (pins:List (Addr×Obj)) (s:Shared) (σ:St) (H:Hp) (x y:V) (v u:Value) (Q:VK),Inv X pins σ H s->RelV x v->RelV y u->r x y H Q->
  subscripted slice false v u=operate [v,u] (getItem v u)->wpAny (model X.prog X.w) X.A (subscriptTail value slice v u) (EP X pins σ Q) X.xe s
noncomputable def MtR (X:Cx)(id:String)(r:V->List V->Hp->VK->Prop):Prop:=
 ∀(pins:List (Addr×Obj)) (s:Shared) (σ:St) (H:Hp) (x:V) (xs:List V) (v:Value) (us:List Value) (Q:VK),Inv X pins σ H s->RelV x v->Vals xs us->r x xs H Q->
  wpAny (model X.prog X.w) X.A (call (.builtin id) (v::us)) (EP X pins σ Q) X.xe s
section
variable {X:Cx}{a b:Expr}{ta tb:TE}{pos:Pos}
theorem abj {r:R2}(hr:IxR X r)(ha:PE X a ta)(hb:PE X b tb)(hs:Np b):PE X (.Subscript a b pos) (tOp r ta tb):=by
 intro pins s σ H Q I h
 exact Subscript_ (YF ha hb I h λv u s2 x y H2 I2 rx ry q=>hr a b pins s2 σ H2 x y v u Q I2 rx ry q (hs _ _))
noncomputable def ab4 (K:W.Frag):R2:=λx y H Q=>∃p xs i v,x=.ref p/\y=.int i/\SqL K H p xs/\atI xs i=some v/\Q v H
noncomputable def acC (K:W.Frag):R2:=λx y H Q=>∃p xs i v,x=.ref p/\y=.int i/\SqT K H p xs/\atI xs i=some v/\Q v H
noncomputable def ab8:R2:=λx y H Q=>∃z i c,x=.str z/\y=.int i/\z.length<=sizeLine/\atI z.cps.toList i=some c/\Q (.str ⟨#[c]⟩) H
theorem VD:IxR X (ab4 X.K):=by
 intro value slice pins s σ H x y v u Q I rx ry h hs
 obtain ⟨p,xs,i,z,rfl,rfl,hq,he,q⟩:=h
 cases rx
 obtain ⟨t,rfl⟩:=ry
 obtain ⟨its,r,pl,hz⟩:=I.list hq
 obtain ⟨j,h1,h2,h3,h4,h5⟩:=Dh he
 obtain ⟨w,ew,rw'⟩:=r.get h2
 have hl:=r.length
 have hn:=wM
 have fin:EP X pins σ Q w s:=⟨z,H,I,rw',q⟩
 by_cases h0:0<=i
 ·have hj:i.toNat=j:=by
   rw [seqIndex_of h0 h5] at h1
   exact Option.some.inj h1
  exact item_listR pl.isList h0 (by omega) (by rw [hj]; simpa using ew) fin hs
 ·have hj:(i+(its.toArray.size:Int)).toNat=j:=by
   rw [seqIndex_neg (by omega) h4] at h1
   rw [List.size_toArray,← hl]
   exact Option.some.inj h1
  exact subscriptTail_builtinR (x:=w) pl.isList.typeIs slot_list_getitem.lookup
   (wpAny_getItem_list_neg (Q:=λr s'=>r=w/\EP X pins σ Q r s') pl.isList (by omega) (by rw [List.size_toArray] <;> omega) (by omega) (by rw [hj]; simpa using ew) ⟨rfl,fin⟩) hs
theorem Zo:IxR X (acC X.K):=by
 intro value slice pins s σ H x y v u Q I rx ry h hs
 obtain ⟨p,xs,i,z,rfl,rfl,hq,he,q⟩:=h
 cases rx
 obtain ⟨t,rfl⟩:=ry
 obtain ⟨its,r,pl,hz⟩:=I.tuple hq
 obtain ⟨j,h1,h2,h3,h4,h5⟩:=Dh he
 obtain ⟨w,ew,rw'⟩:=r.get h2
 have hl:=r.length
 have hn:=wM
 have fin:EP X pins σ Q w s:=⟨z,H,I,rw',q⟩
 exact subscriptTail_builtinR (x:=w) pl.typeIs slot_tuple_getitem.lookup
  (getItem_tuple (j:=j) (Q:=λr s'=>r=w/\EP X pins σ Q r s') pl (by omega) (by omega) (by rw [List.size_toArray,← hl]; exact h1) (by simpa using ew) ⟨rfl,fin⟩) hs
theorem Zw:IxR X ab8:=by
 intro value slice pins s σ H x y v u Q I rx ry h hs
 obtain ⟨z,i,c,rfl,rfl,hz,he,q⟩:=h
 obtain ⟨t,rfl⟩:=rx
 obtain ⟨t',rfl⟩:=ry
 obtain ⟨j,h1,h2,h3,h4,h5⟩:=Dh he
 have hl:z.cps.toList.length=z.length:=by simp [Str.length]
 rw [hl] at h1 h4 h5
 have hn:=wM
 exact tail_any (typeIs_str s z t) slot_str_getitem.lookup (getItem_str (c:=c) (by
  have e1:decide (i < -(2 ^ 63:Int))=false:=decide_eq_false (by omega)
  have e2:decide (i ≥ 2 ^ 63)=false:=decide_eq_false (by omega)
  rw [e1,e2,Bool.or_false]) (by rw [h1]; simpa using h2) ⟨.str ⟨#[c]⟩,H,I.tok _,⟨_,rfl⟩,q⟩) hs
theorem Kc (its:List Value)(n j:Nat)(u:Value):Obj.mapSeq (·.setIfInBounds j u) { cls:=.type "list",data:=.seq its.toArray n }={ cls:=.type "list",data:=.seq (its.set j u).toArray n }:=by
 simp [Obj.mapSeq]
theorem Inv.lst {pins:List (Addr×Obj)}{σ:St}{H:Hp}{s:Shared}{p:Addr}{xs:List V}(I:Inv X pins σ H s)(h:H p=some (.lst xs)):
  ∃(its:List Value) (n:Nat),Vals xs its/\s.heap.get? p=some { cls:=.type "list",data:=.seq its.toArray n }/\xs.length<=sizeLine:=by
 obtain ⟨z,its,n,r,e⟩:=I.hok p _ h
 exact ⟨its,n,r,e,z⟩
theorem Inv.ZM {pins:List (Addr×Obj)}{σ:St}{H:Hp}{s:Shared}{p:Addr}{xs ys:List V}{its its':List Value}{n n':Nat}{f:Obj->Obj}(I:Inv X pins σ H s)(h:H p=some (.lst xs))
  (ho:s.heap.get? p=some { cls:=.type "list",data:=.seq its.toArray n }) (hf:f { cls:=.type "list",data:=.seq its.toArray n }={ cls:=.type "list",data:=.seq its'.toArray n' }) (r:Vals ys its') (hz:ys.length<=sizeLine) (t:Nat):
  Inv X pins σ (upd H p (.lst ys)) { s with heap:=s.heap.update p f,toks:=t }:=by
 have e:(s.heap.update p f).get? p=some { cls:=.type "list",data:=.seq its'.toArray n' }:=by
  rw [Heap.get?_update_self f ho (by rw [hf] <;> rfl),hf]
 refine I.write (x:=p) (e:=p) (by rw [h]; trivial) (.inl rfl) (λb u hb q=>(Heap.get?_update_other _ _ (Ne.symm hb)).trans q) ⟨_,e⟩ ?_
 exact ⟨hz,its',n',r,e⟩
noncomputable def aa0:V->V->V->Hp->(Hp->Prop)->Prop:=λo i v H Q=>∃p xs k j,o=.ref p/\i=.int k/\H p=some (.lst xs)/\ixN xs.length k=some j/\Q (upd H p (.lst (xs.set j v)))
theorem set_list:aaP X aa0:=by
 intro pins s σ H o i v ov iv u Q I ro ri rv h
 obtain ⟨p,xs,k,j,rfl,rfl,hp,hj,q⟩:=h
 cases ro
 obtain ⟨t,rfl⟩:=ri
 obtain ⟨its,n,r,ho,hz⟩:=I.lst hp
 obtain ⟨h1,h2,h3,h4⟩:=Lz hj
 have hl:=r.length
 have hn:=wM
 have I':Inv X pins σ (upd H p (.lst (xs.set j v))) { s with heap:=s.heap.update p (Obj.mapSeq (·.setIfInBounds j u)) }:=
  I.ZM hp ho (Kc its n j u) (r.set rv j) (by rw [List.length_set]; exact hz) s.toks
 by_cases h0:0<=k
 ·have hk:k.toNat=j:=by
   rw [seqIndex_of h0 h4] at h1
   exact Option.some.inj h1
  exact PySem.W.ki_setAt ho h0 (by omega) (by rw [List.size_toArray,← hl]; exact h4) (by rw [hk]; exact ⟨_,I',q⟩)
 ·have hk:(k+(its.toArray.size:Int)).toNat=j:=by
   rw [seqIndex_neg (by omega) h3] at h1
   rw [List.size_toArray,← hl]
   exact Option.some.inj h1
  exact PySem.W.ki_setBack ho (by omega) (by rw [List.size_toArray,← hl]; exact h3) (by omega) (by rw [hk]; exact ⟨_,I',q⟩)
theorem Gk (lo hi:Option Int)(n:Nat):(sliceBounds lo hi none n).1=((HT.sIx n 0 lo:Nat):Int)/\(sliceBounds lo hi none n).2.1=((HT.sIx n n hi:Nat):Int)/\(sliceBounds lo hi none n).2.2=1:=by
 refine ⟨?_,?_,rfl⟩
 ·cases lo with
  |none=>simp [sliceBounds,HT.sIx]
  |some i=>
   simp only [sliceBounds,HT.sIx,Option.getD_none,show (1:Int) > 0 by decide,if_true]
   by_cases h:i<0
   ·simp only [h,if_true] <;> omega
   ·simp only [h,if_false] <;> omega
 ·cases hi with
  |none=>simp [sliceBounds,HT.sIx]
  |some i=>
   simp only [sliceBounds,HT.sIx,Option.getD_none,show (1:Int) > 0 by decide,if_true]
   by_cases h:i<0
   ·simp only [h,if_true] <;> omega
   ·simp only [h,if_false] <;> omega
theorem Bv (its:List Value)(lo hi:Option Int):slicePick its.toArray lo hi none=((its.drop (HT.sIx its.length 0 lo)).take (HT.sIx its.length its.length hi - HT.sIx its.length 0 lo)).toArray:=by
 obtain ⟨h1,h2,h3⟩:=Gk lo hi its.toArray.size
 unfold slicePick
 rw [h1,h2,h3]
 simp only [sliceRange_one,pick_run,List.size_toArray] <;> rfl
noncomputable def aco (K:W.Frag):V->Option Int->Option Int->Hp->VK->Prop:=λx lo hi H Q=>∃a xs,x=.ref a/\SqL K H a xs/\∀p,H p=none->Q (.ref p) (upd H p (.lst (Jb xs lo hi)))
theorem WW:SlR X (aco X.K):=by
 intro pins s σ H x v vl vu lo hi sl Q I rx hs pl pu h
 obtain ⟨a,xs,rfl,hx,q⟩:=h
 cases rx
 obtain ⟨its,r,ht,hz⟩:=I.list hx
 have hlen:=r.length
 refine ⟨"list",_,slot_list_getitem.lookup,ht.isList.typeIs,?_⟩
 refine wpAny_getItem_list_slice ht.isList hs pl pu .none (by simp) ?_ (by rw [List.size_toArray] <;> omega)
 rw [Bv,← hlen]
 refine ⟨.ref s.heap.objs.size,_,I.laid (t':=s.toks) (o:=.lst (Jb xs lo hi)) (λb ob q=>Heap.get?_push_of_some _ q) (Nat.le_refl _) ?_,rfl,q _ (I.hok.fresh (Nat.le_refl _))⟩
 exact ⟨Nat.le_trans (yh xs lo hi) hz,_,0,(r.drop (HT.sIx xs.length 0 lo)).take (HT.sIx xs.length xs.length hi - HT.sIx xs.length 0 lo),Heap.get?_push_size _ rfl⟩
noncomputable def uy:V->Bool
 | .non=>true
 | .bl _=>true
 | .int _=>true
 | .str _=>true
 |_=>false
noncomputable def eqV:V->V->Bool
 | .non,.non=>true
 | .bl a,.bl b=>a == b
 | .bl a,.int b=>(if a then 1 else 0) == b
 | .int a,.bl b=>a == (if b then 1 else 0)
 | .int a,.int b=>a == b
 | .str a,.str b=>a == b
 |_,_=>false
theorem Y8 {A:Around}{s:Shared}{y x:V}{u v:Value}(ry:RelV y u)(rx:RelV x v)(fy:uy y=true)(fx:uy x=true):SeqAt.EqAt A s u v (eqV y x):=by
 cases y with
 |non=>
  cases ry
  cases x with
  |non=>cases rx; exact SeqAt.EqAt.same _
  |bl b=>cases rx; exact SeqAt.EqAt.none_bool b
  |int b=>obtain ⟨t,rfl⟩:=rx; exact SeqAt.EqAt.none_int b t
  |str b=>obtain ⟨t,rfl⟩:=rx; exact SeqAt.EqAt.none_str b t
  |_=>exact absurd (show false=true from fx) Bool.false_ne_true
 |bl a=>
  cases ry
  cases x with
  |non=>cases rx; exact SeqAt.EqAt.bool_none a
  |bl b=>cases rx; exact SeqAt.EqAt.bool_bool a b
  |int b=>obtain ⟨t,rfl⟩:=rx; exact SeqAt.EqAt.bool_int a b t
  |str b=>obtain ⟨t,rfl⟩:=rx; exact SeqAt.EqAt.bool_str a b t
  |_=>exact absurd (show false=true from fx) Bool.false_ne_true
 |int a=>
  obtain ⟨t',rfl⟩:=ry
  cases x with
  |non=>cases rx; exact SeqAt.EqAt.int_none a t'
  |bl b=>cases rx; exact SeqAt.EqAt.int_bool a t' b
  |int b=>obtain ⟨t,rfl⟩:=rx; exact SeqAt.EqAt.int_int a t' b t
  |str b=>obtain ⟨t,rfl⟩:=rx; exact SeqAt.EqAt.int_str a t' b t
  |_=>exact absurd (show false=true from fx) Bool.false_ne_true
 |str a=>
  obtain ⟨t',rfl⟩:=ry
  cases x with
  |non=>cases rx; exact SeqAt.EqAt.str_none a t'
  |bl b=>cases rx; exact SeqAt.EqAt.str_bool a t' b
  |int b=>obtain ⟨t,rfl⟩:=rx; exact SeqAt.EqAt.str_int a t' b t
  |str b=>obtain ⟨t,rfl⟩:=rx; exact SeqAt.EqAt.str_str a t' b t
  |_=>exact absurd (show false=true from fx) Bool.false_ne_true
 |_=>exact absurd (show false=true from fy) Bool.false_ne_true
noncomputable def eqU (x:V)(u:Value):Bool:=match u with
 | .none=>eqV .non x
 | .bool b=>eqV (.bl b) x
 | .int i _=>eqV (.int i) x
 | .str z _=>eqV (.str z) x
 |_=>false
theorem Rb {x y:V}{u:Value}(r:RelV y u)(f:uy y=true):eqU x u=eqV y x:=by
 cases y with
 |non=>cases r; rfl
 |bl b=>cases r; rfl
 |int i=>obtain ⟨t,rfl⟩:=r; rfl
 |str z=>obtain ⟨t,rfl⟩:=r; rfl
 |_=>exact absurd (show false=true from f) Bool.false_ne_true
theorem Gs {x:V}:∀{xs:List V} {us:List Value},Vals xs us->xs.all uy=true->us.any (eqU x)=xs.any λy=>eqV y x
 |_,_,.nil,_=>rfl
 |y::xs,u::us,.cons r t,f=>by
  rw [List.all_cons,Bool.and_eq_true] at f
  rw [List.any_cons,List.any_cons,Rb r f.1,Gs t f.2]
theorem z6 {A:Around}{s:Shared}{x:V}{v:Value}(rx:RelV x v)(fx:uy x=true):∀{xs:List V} {us:List Value},Vals xs us->xs.all uy=true->∀u∈us,SeqAt.EqAt A s u v (eqU x u)
 |_,_,.nil,_=>λu hu=>by cases hu
 |y::xs,u::us,.cons r t,f=>λu' hu=>by
  rw [List.all_cons,Bool.and_eq_true] at f
  rcases List.mem_cons.mp hu with rfl | hu
  ·rw [Rb r f.1]; exact Y8 r rx f.1 fx
  ·exact z6 rx fx t f.2 u' hu
noncomputable def inV (x:V)(xs:List V):Bool:=xs.any λy=>eqV y x
noncomputable def rIn (K:W.Frag)(neg:Bool):R2:=λx y H Q=>∃p xs,y=.ref p/\(SqL K H p xs\/SqT K H p xs)/\uy x=true/\xs.all uy=true/\Q (.bl (if neg then !inV x xs else inV x xs)) H
theorem wD:OpR X (compareOp .NotIn) (rIn X.K true):=by
 intro pins s σ H x y v u Q I rx ry h
 obtain ⟨p,xs,rfl,hq,fx,fs,q⟩:=h
 cases ry
 rcases hq with hq | hq
 ·obtain ⟨its,r,pl,hz⟩:=I.list hq
  refine SeqAt.notIn_listAt (eqU x) pl.isList (λw hw=>z6 rx fx r fs w (by simpa using hw)) ⟨.bl _,H,I,rfl,?_⟩
  rw [show its.toArray.any (eqU x)=its.any (eqU x) by simp,Gs r fs]
  exact q
 ·obtain ⟨its,r,pl,hz⟩:=I.tuple hq
  refine SeqAt.notIn_tupleAt (eqU x) pl (λw hw=>z6 rx fx r fs w (by simpa using hw)) ⟨.bl _,H,I,rfl,?_⟩
  rw [show its.toArray.any (eqU x)=its.any (eqU x) by simp,Gs r fs]
  exact q
theorem wA:kJ X (.builtin "len") (λxs H Q=>∃p ys,xs=[.ref p]/\(SqL X.K H p ys\/SqT X.K H p ys)/\Q (.int ys.length) H):=by
 intro pins s σ H xs us Q I r h
 obtain ⟨p,ys,rfl,hq,q⟩:=h
 obtain ⟨u,rfl,rx⟩:=vals1 r
 cases rx
 have hn:=wM
 rcases hq with hq | hq
 ·obtain ⟨its,r',pl,hz⟩:=I.list hq
  have hlen:=r'.length
  exact Calls.call_len_list pl.isList (by simp only [List.size_toArray] <;> omega) ⟨.int ys.length,H,I.tok _,⟨s.toks+1,by rw [List.size_toArray,hlen]⟩,q⟩
 ·obtain ⟨its,r',pl,hz⟩:=I.tuple hq
  have hlen:=r'.length
  exact len_tuple pl (by simp only [List.size_toArray] <;> omega) ⟨.int ys.length,H,I.tok _,⟨s.toks+1,by rw [List.size_toArray,hlen]⟩,q⟩
theorem Ej:kJ X (.builtin "len") (λxs H Q=>∃z,xs=[.str z]/\z.length<=sizeLine/\Q (.int z.length) H):=by
 intro pins s σ H xs us Q I r h
 obtain ⟨z,rfl,hz,q⟩:=h
 obtain ⟨u,rfl,t,rfl⟩:=vals1 r
 have hn:=wM
 exact len_str (by omega) ⟨.int z.length,H,I.tok _,⟨_,rfl⟩,q⟩
theorem Gn:kJ X (.type "list") (λxs H Q=>∃p ys,xs=[.ref p]/\(SqL X.K H p ys\/SqT X.K H p ys)/\∀l,H l=none->Q (.ref l) (upd H l (.lst ys))):=by
 intro pins s σ H xs us Q I r h
 obtain ⟨p,ys,rfl,hq,q⟩:=h
 obtain ⟨u,rfl,rx⟩:=vals1 r
 cases rx
 have fin:∀(its:List Value),Vals ys its->ys.length<=sizeLine->∀(h':Heap) (c':Nat),(∀b o',s.heap.get? b=some o'->h'.get? b=some o')->
   h'.get? s.heap.objs.size=some { cls:=.type "list",dict:=none,data:=.seq its.toArray c',slots:=#[] }->EP X pins σ Q (.ref s.heap.objs.size) { s with heap:=h' }:=λits r' hz h' c' kp e=>
  ⟨.ref s.heap.objs.size,_,I.laid (t':=s.toks) kp (Nat.le_refl _) (show eE X.prog X.w _ h' _ (.lst ys) from ⟨hz,its,c',r',e⟩),rfl,q _ (I.hok.fresh (Nat.le_refl _))⟩
 rcases hq with hq | hq
 ·obtain ⟨its,r',pl,hz⟩:=I.list hq
  have hlen:=r'.length
  obtain ⟨o,ho,hc,n,hd⟩:=pl.isList
  exact call_list_seq p (.inl rfl) ho hc hd (λh' c' kp e=>fin its r' hz h' c' kp e) (by simp only [List.size_toArray] <;> omega)
 ·obtain ⟨its,r',pl,hz⟩:=I.tuple hq
  have hlen:=r'.length
  obtain ⟨o,ho,hc,n,hd⟩:=pl
  exact call_list_seq p (.inr rfl) ho hc hd (λh' c' kp e=>fin its r' hz h' c' kp e) (by simp only [List.size_toArray] <;> omega)
theorem uq:kJ X (.type "tuple") (λxs H Q=>∃p ys,xs=[.ref p]/\((SqL X.K H p ys/\∀l,H l=none->Q (.ref l) (upd H l (.tup ys)))\/(SqT X.K H p ys/\Q (.ref p) H))):=by
 intro pins s σ H xs us Q I r h
 obtain ⟨p,ys,rfl,h⟩:=h
 obtain ⟨u,rfl,rx⟩:=vals1 r
 cases rx
 rcases h with ⟨hq,q⟩ | ⟨hq,q⟩
 ·obtain ⟨its,r',pl,hz⟩:=I.list hq
  have hlen:=r'.length
  refine call_tuple_list pl.isList (λh' kp=>?_) (by simp only [List.size_toArray] <;> omega)
  have I1:Inv X pins σ H { s with heap:=h' }:=I.kept (t':=s.toks) kp
  have I2:Inv X pins σ (upd H h'.objs.size (.tup ys)) { s with heap:=h'.push { cls:=.type "tuple",data:=.seq its.toArray } }:=
   I1.laid (t':=s.toks) (λb o e=>Heap.get?_push_of_some _ e) (Nat.le_refl _) (show eE X.prog X.w _ _ _ (.tup ys) from ⟨hz,its,r',IsTup.new _ _⟩)
  exact ⟨.ref h'.objs.size,_,I2,rfl,q _ (I1.hok.fresh (Nat.le_refl _))⟩
 ·obtain ⟨its,r',pl,hz⟩:=I.tuple hq
  exact call_tuple_same pl ⟨.ref p,H,I,rfl,q⟩
noncomputable def tyV (K:W.Frag)(T:String)(x:V)(H:Hp):Prop:=match x with
 | .str _=>T = "str"
 | .int _=>T = "int"
 | .ref p=>(T = "list"/\∃xs,SqL K H p xs)\/(T = "tuple"/\∃o,K.lookup p=some o/\o.cls=.type "tuple"/\o.dict=none) ∨
   (T = "dict"/\((∃kvs,H p=some (.dK kvs))\/∃T kvs,Rd H p (.dT T kvs)))\/(T = "set"/\∃S n,H p=some (.set S n))
 |_=>False
theorem Qz {pins:List (Addr×Obj)}{σ:St}{H:Hp}{s:Shared}{T:String}{x:V}{v:Value}(I:Inv X pins σ H s)(r:RelV x v)(ty:tyV X.K T x H):
  s.TypeIs v T/\∀a,v=.ref a->∃ob,s.heap.get? a=some ob/\ob.dict=none:=by
 cases x with
 |str z=>
  obtain ⟨t,rfl⟩:=r
  cases (show T = "str" from ty)
  exact ⟨typeIs_str s z t,λ_ e=>nomatch e⟩
 |int i=>
  obtain ⟨t,rfl⟩:=r
  cases (show T = "int" from ty)
  exact ⟨typeIs_int s i t,λ_ e=>nomatch e⟩
 |ref p=>
  cases r
  rcases ty with ⟨rfl,xs,hq⟩ | ⟨rfl,o,hk,hc,hd⟩ | ⟨rfl,hk⟩ | ⟨rfl,S,n,hk⟩
  ·obtain ⟨its,_,pl,_⟩:=I.list hq
   refine ⟨pl.isList.typeIs,λa e=>?_⟩
   cases e
   obtain ⟨o,n,e,c,hd,_⟩:=pl
   exact ⟨o,e,hd⟩
  ·refine ⟨⟨o,I.kIn p o hk,hc⟩,λa e=>?_⟩
   cases e
   exact ⟨o,I.kIn _ o hk,hd⟩
  ·have z:∃o,s.heap.get? p=some o/\o.ExactDict:=by
    rcases hk with ⟨kvs,hk⟩ | ⟨_,kvs,hk⟩
    ·obtain ⟨_,_,_,_,o,_,_,e,ex,_⟩:=I.hok p _ hk
     exact ⟨o,e,ex⟩
    ·obtain ⟨_,_,_,_,o,_,_,e,ex,_⟩:=(show eE X.prog X.w H s.heap p (.dT _ kvs) from hk.ok I.hok)
     exact ⟨o,e,ex⟩
   obtain ⟨o,e,ex⟩:=z
   refine ⟨⟨o,e,ex.1⟩,λa e2=>?_⟩
   cases e2
   exact ⟨o,e,ex.2.1⟩
  ·obtain ⟨o,_,_,_,e,ex,_⟩:=I.hok p _ hk
   refine ⟨⟨o,e,ex.1⟩,λa e2=>?_⟩
   cases e2
   exact ⟨o,e,ex.2.1⟩
 |_=>exact False.elim ty
noncomputable def acF (K:W.Frag)(T:String)(r:V->List V->Hp->VK->Prop)(to:TE):TE:=λσ H Q=>to σ H λx H1=>tyV K T x H1/\r x [] H1 Q
noncomputable def tBM (K:W.Frag)(T:String)(r:V->List V->Hp->VK->Prop)(to:TE)(t:TA):TE:=λσ H Q=>to σ H λx H1=>tyV K T x H1/\t σ H1 λxs H2=>r x xs H2 Q
variable {o e:Expr}{es:List Expr}{to:TE}{t:TA}{name:Str}{apos cpos:Pos}{T id:String}{r:V->List V->Hp->VK->Prop}
theorem TJ (pa:PlainAttrs T)(slot:Slot T name id)(hty:typeOf (.builtin id)=pure (.type "method_descriptor"))(hm:MtR X id r)(ho:PE X o to)
  (hbase:attributeBase o name X.env (eval o X.env)=eval o X.env:=by rfl) (hline:(apos.endLine == cpos.line)=true:=by rfl):PE X (.Call (.Attribute o name apos) [] [] cpos) (acF X.K T r to):=by
 intro pins s σ H Q I h
 refine wpAny_Call_method0_late hbase hline (thn (ho pins s σ H _ I h) λv s1 ⟨x,H1,I1,r1,ty,q1⟩=>?_)
 obtain ⟨h1,h2⟩:=Qz I1 r1 ty
 exact ⟨T,id,pa,slot,hty,h1,h2,Calls.callWith_builtin rfl (PySem.evalArgs_none (hm pins s1 σ H1 x [] v [] Q I1 r1 .nil q1))⟩
theorem Hv (pa:PlainAttrs T)(slot:Slot T name id)(hty:typeOf (.builtin id)=pure (.type "method_descriptor"))(hm:MtR X id r)(ho:PE X o to)(ha:PA X (e::es) t)
  (hbase:attributeBase o name X.env (eval o X.env)=eval o X.env:=by rfl)
  (hfew:((backTo cpos (starEach (e::es) X.env)).all (λx=>!x.1) && (backToKw cpos (keywordEach [] X.env)).all (λx=>x.1.isSome)
   && decide ((e::es).length+([]:List Keyword).length+(if ([]:List Keyword).isEmpty then 0 else 1)<30))=true:=by rfl)
  (hline:(apos.endLine == cpos.line)=true:=by rfl) (hs:starEach (e::es) X.env=(false,eval e X.env)::starEach es X.env:=by rfl) (hplain:(backTo cpos (starEach es X.env)).any (·.1)=false:=by rfl):
  PE X (.Call (.Attribute o name apos) (e::es) [] cpos) (tBM X.K T r to t):=by
 intro pins s σ H Q I h
 refine wpAny_Call_method_late hbase hfew hline rfl (thn (ho pins s σ H _ I h) λv s1 ⟨x,H1,I1,r1,ty,q1⟩=>?_)
 obtain ⟨h1,h2⟩:=Qz I1 r1 ty
 refine ⟨T,id,pa,slot,hty,h1,h2,?_⟩
 have hA:=ha cpos pins s1 σ H1 _ I1 q1
 rw [hs] at hA ⊢
 refine Calls.callWith_builtin (by show (false || (backTo cpos (starEach es X.env)).any (·.1))=false; rw [hplain] <;> rfl) (Calls.evalArgs_plain ?_)
 exact thn hA λus s2 hE=>xq2 hE λvs H2 I2 r2 q2=>hm pins s2 σ H2 x vs v us Q I2 r1 r2 q2
end
open PySem PySem.Spec PyProof.Rows
noncomputable def MtM (X:Cx)(id:String)(r:V->List V->Hp->VK->Prop):Prop:=
 ∀(pins:List (Addr×Obj)) (s:Shared) (σ:St) (H:Hp) (x:V) (xs:List V) (v:Value) (us:List Value) (Q:VK),Inv X pins σ H s->RelV x v->Vals xs us->r x xs H Q->
  wpAny (model X.prog X.w) X.A (call (.builtin id) (v::us)) (EP X pins σ Q) X.xe s
theorem Vals.one:∀{x:V} {us:List Value},Vals [x] us->∃u,us=[u]/\RelV x u
 |_,_,.cons r .nil=>⟨_,rfl,r⟩
theorem Vals.zero:∀{us:List Value},Vals [] us->us=[]
 |_,.nil=>rfl
theorem Vals.dropLast {xs:List V}{us:List Value}(h:Vals xs us):Vals xs.dropLast us.dropLast:=by
 induction h with
 |nil=>exact .nil
 |cons r t ih=>
  cases t with
  |nil=>exact .nil
  |cons q t'=>exact .cons r ih
theorem Vals.eraseIdx:∀{xs:List V} {us:List Value} (i:Nat),Vals xs us->Vals (xs.eraseIdx i) (us.eraseIdx i)
 |_,_,_,.nil=>.nil
 |_,_,0,.cons _ t=>t
 |_,_,i+1,.cons r t=>.cons r (Vals.eraseIdx i t)
theorem Vals.reverse {xs:List V}{us:List Value}(h:Vals xs us):Vals xs.reverse us.reverse:=by
 induction h with
 |nil=>exact .nil
 |cons r t ih=>rw [List.reverse_cons,List.reverse_cons]; exact Vals.append ih (.cons r .nil)
theorem JN {α:Type}(l:List α):l.eraseIdx (l.length - 1)=l.dropLast:=by
 induction l with
 |nil=>rfl
 |cons a r ih=>
  cases r with
  |nil=>rfl
  |cons b r=>
   have e:(a::b::r).length - 1=((b::r).length - 1)+1:=by
    have h1:(a::b::r).length=r.length+2:=rfl
    have h2:(b::r).length=r.length+1:=rfl
    omega
   rw [e,List.eraseIdx_cons_succ,ih]
   all_goals rfl
theorem BW {α:Type}:∀(l:List α) (i:Nat),(l.eraseIdx i).length<=l.length
 |[],_=>Nat.le_refl _
 |_::_,0=>Nat.le_succ _
 |_::r,i+1=>Nat.succ_le_succ (BW r i)
section
variable {X:Cx}{pins:List (Addr×Obj)}{σ:St}{H:Hp}{s:Shared}{l b:Addr}{xs ys zs:List V}
theorem Inv.Vr {its its':List Value}{n:Nat}{f:Array Value->Array Value}{t':Nat}(I:Inv X pins σ H s)(hH:H l=some (.lst xs))
  (e:s.heap.get? l=some { cls:=.type "list",data:=.seq its.toArray n }) (hf:f its.toArray=its'.toArray) (hv:Vals ys its') (hz:ys.length<=sizeLine):
  Inv X pins σ (upd H l (.lst ys)) { s with heap:=s.heap.update l (Obj.mapSeq f),toks:=t' }:=by
 have q:=PySem.IsL.update e f
 rw [hf] at q
 refine I.write (x:=l) (e:=l) (by rw [hH]; exact trivial) (.inl rfl) (λb' u hb hu=>(Heap.get?_update_other s.heap (Obj.mapSeq f) (Ne.symm hb)).trans hu) ⟨_,q⟩ ?_
 exact ⟨hz,its',_,hv,q⟩
theorem Inv.T8 (I:Inv X pins σ H s)(hH:H l=some (.lst xs)):xs.length<=sizeLine/\∃(its:List Value) (n:Nat),Vals xs its/\xs.length=its.length/\s.heap.get? l=some { cls:=.type "list",data:=.seq its.toArray n }:=by
 obtain ⟨z,its,n,r,e⟩:=I.hok l _ hH
 exact ⟨z,its,n,r,r.length,e⟩
theorem Ux {n:Nat}(h:n<=sizeLine):Builtin.List.listTooLong n=false:=by
 unfold Builtin.List.listTooLong
 exact decide_eq_false (by omega)
end
section
variable {X:Cx}
noncomputable def Vs:V->List V->Hp->VK->Prop:=λx vs H Q=>∃l xs y,x=.ref l/\vs=[y]/\H l=some (.lst xs)/\xs.length<sizeLine/\Q .non (upd H l (.lst (xs++[y])))
theorem wX:MtM X "list.append" Vs:=by
 intro pins s σ H x vs v us Q I rx rv h
 obtain ⟨l,xs,y,rfl,rfl,hH,hz,q⟩:=h
 cases rx
 obtain ⟨u,rfl,ru⟩:=rv.one
 obtain ⟨z,its,n,r,hl,e⟩:=I.T8 hH
 refine call_meets F.slot_list_append ⟨_,e,rfl⟩ F.entry_list_append (F.args_list_append_2 _ _) (PySem.list_append l its.toArray n u (by rw [List.size_toArray]; omega)) ⟨e,?_⟩
 refine ⟨.non,_,I.Vr (its':=its++[u]) hH e (by simp) (r.append (.cons ru .nil)) ?_,rfl,q⟩
 rw [List.length_append,List.length_singleton]
 omega
noncomputable def W7:V->List V->Hp->VK->Prop:=λx vs H Q=>∃l b xs zs,x=.ref l/\vs=[.ref b]/\H l=some (.lst xs)/\H b=some (.lst zs)/\xs.length+zs.length<=sizeLine/\Q .non (upd H l (.lst (xs++zs)))
theorem Py:MtM X "list.extend" W7:=by
 intro pins s σ H x vs v us Q I rx rv h
 obtain ⟨l,b,xs,zs,rfl,rfl,hH,hB,hz,q⟩:=h
 cases rx
 obtain ⟨u,rfl,ru⟩:=rv.one
 cases ru
 obtain ⟨z,its,n,r,hl,e⟩:=I.T8 hH
 obtain ⟨z2,its2,n2,r2,hl2,e2⟩:=I.T8 hB
 have hsz:its.toArray.size+its2.toArray.size<=sizeLine:=by rw [List.size_toArray,List.size_toArray]; omega
 have hlong:¬(!its.toArray.isEmpty && Builtin.List.listTooLong (its.toArray.size+its2.toArray.size))=true:=by
  rw [Ux hsz,Bool.and_false]
  exact Bool.false_ne_true
 refine call_meets F.slot_list_extend ⟨_,e,rfl⟩ F.entry_list_extend (F.args_list_extend_2 _ _)
  (AutoSeq1.list_extend_list_list_0 l its.toArray n b its2.toArray n2 hlong (by rw [List.size_toArray]; omega) (by omega)) ⟨e,e2,?_⟩
 refine ⟨.non,_,I.Vr (its':=its++its2) hH e (by simp) (r.append r2) ?_,rfl,q⟩
 rw [List.length_append]
 omega
noncomputable def acy:V->List V->Hp->VK->Prop:=λx vs H Q=>∃l xs y,x=.ref l/\vs=[]/\H l=some (.lst xs)/\xs[xs.length - 1]? = some y/\Q y (upd H l (.lst xs.dropLast))
theorem Ze:MtM X "list.pop" acy:=by
 intro pins s σ H x vs v us Q I rx rv h
 obtain ⟨l,xs,y,rfl,rfl,hH,hy,q⟩:=h
 cases rx
 have hus:=rv.zero
 subst hus
 obtain ⟨z,its,n,r,hl,e⟩:=I.T8 hH
 obtain ⟨u,hu,ru⟩:=r.get hy
 have hy':its.toArray[its.toArray.size - 1]? = some u:=by
  show its.toArray[its.length - 1]? = some u
  rw [← Array.getElem?_toList,← hl]
  exact hu
 refine call_meets F.slot_list_pop ⟨_,e,rfl⟩ F.entry_list_pop (F.args_list_pop_1 _) (MeetsSeq.list_pop_last l its.toArray n u hy' (by rw [List.size_toArray]; omega)) ⟨e,?_⟩
 refine ⟨y,_,I.Vr (its':=its.dropLast) hH e ?_ r.dropLast ?_,ru,q⟩
 ·show its.toArray.eraseIdxIfInBounds (its.toArray.size - 1)=its.dropLast.toArray
  rw [List.size_toArray,List.eraseIdxIfInBounds_toArray,JN]
 ·rw [List.length_dropLast]
  omega
noncomputable def Zq:V->List V->Hp->VK->Prop:=λx vs H Q=>∃l xs i k y,x=.ref l/\vs=[.int i]/\H l=some (.lst xs)/\-(2 ^ 63)<=i/\i<2 ^ 63/\seqIndex? i xs.length=some k/\xs[k]? = some y/\Q y (upd H l (.lst (xs.eraseIdx k)))
theorem QK:MtM X "list.pop" Zq:=by
 intro pins s σ H x vs v us Q I rx rv h
 obtain ⟨l,xs,i,k,y,rfl,rfl,hH,h1,h2,hk,hy,q⟩:=h
 cases rx
 obtain ⟨u,rfl,ru⟩:=rv.one
 obtain ⟨t,rfl⟩:=ru
 obtain ⟨z,its,n,r,hl,e⟩:=I.T8 hH
 obtain ⟨w,hw,rw'⟩:=r.get hy
 refine call_meets F.slot_list_pop ⟨_,e,rfl⟩ F.entry_list_pop (F.args_list_pop_2 _ _)
  (MeetsSeq.list_pop_at l its.toArray n i t k w (fitsIndex_both h1 h2) (by rw [List.size_toArray,← hl]; exact hk) (by rw [← Array.getElem?_toList]; exact hw) (by rw [List.size_toArray]; omega)) ⟨e,?_⟩
 refine ⟨y,_,I.Vr (its':=its.eraseIdx k) hH e ?_ (r.eraseIdx k) ?_,rw',q⟩
 ·show its.toArray.eraseIdxIfInBounds k=(its.eraseIdx k).toArray
  rw [List.eraseIdxIfInBounds_toArray]
 ·have:=BW xs k
  omega
end
section
variable {prog:Program}{w:World}{A:Around}{E:Value->Shared->Prop}{s:Shared}
end
section
variable {X:Cx}
end
end L2
namespace Att
open PySem PySem.W PySem.Calls PyProof.Rows
theorem yC {P:Params}{h:Heap}:∀(ns:List Int) (vs:List Value),WellAll P h vs (ns.map WData.int)->IntsAre vs ns:=by
 intro ns
 induction ns with
 |nil=>
  intro vs w
  rw [List.map_nil] at w
  cases w
  exact .nil
 |cons n ns ih=>
  intro vs w
  rw [List.map_cons] at w
  cases w with
  |cons a b=>
   cases a
   exact .cons _ _ (ih _ b)
theorem Qh {l:OpenLaw}{n:Nat}(hn:l.most=some n){P:Params}{h:Heap}{args:List WData}{vals:List Value}
  (hpre:l.row.toRowW.claim.pre args=true) (hwl:WellAll P h vals args):
  ∃a vs ns,vals=[Value.ref a]/\args=[WData.list (ns.map WData.int)]/\h.get? a=some { cls:=.type "list",data:=.seq vs.toArray }/\IntsAre vs ns/\ns.length<=n:=by
 have hsh:WShape.hasAll [] args [.list .int]=true:=(pre_splitW hpre).1
 have hc:l.pre.holds [] { args:=args }=true:=(pre_splitW hpre).2
 obtain ⟨d,r,rfl,h1,h2⟩:=hasAllW_cons hsh
 obtain rfl:=hasAllW_nil h2
 obtain ⟨xs,rfl,h3⟩:=hasW_list h1
 obtain ⟨ns,rfl⟩:=items_int h3
 have hlen:ns.length<=n:=by
  unfold OpenLaw.pre at hc
  have h4:(WTm.not (.lt (.lit (.int (n:Int))) (.len (.arg 0)))).holds [] { args:=[.list (ns.map .int)] }=true:=by
   have h4:=(holds_andW hc).1
   rw [hn] at h4
   exact h4
  have h5:=condW_of h4 (w_not (w_lt w_lit (w_len_list (w_arg rfl))))
  rw [List.length_map] at h5
  refine Nat.le_of_not_lt λq=>?_
  have q':(n:Int)<((ns.length:Nat):Int):=by omega
  first
   |(rw [decide_eq_true q'] at h5; exact absurd h5 (by decide))
   |(simp at h5; omega)
 cases hwl with
 |cons w1 w2=>
  cases w2
  cases w1 with
  |list ho hall=>exact ⟨_,_,ns,rfl,rfl,ho,yC ns _ hall,hlen⟩
theorem Qc (l:OpenLaw)(args:List WData):l.row.toRowW.claim.post args (.bool true) args=true:=
 postW_of (r:=l.row.toRowW) (X:=(true == true))
  (show WShape.has [] (.bool true) .bool=true by first | rfl | decide | simp [WShape.has,WShape.arms,WShape.armsAll])
  (show (WTm.eq .res (.lit (.bool true))).value [] { args:=args,res:=some (.bool true),after:=args }=some (.bool (true == true)) from w_eq_bool (w_res rfl) w_lit) rfl
theorem GC {l:OpenLaw}{n:Nat}{q:Program}{loose:List Str}{XP:(Str->Option Value)->Heap->Prop}{YP:World->Heap->Prop}{d:DefRec}
  (hn:l.most=some n) (hdf:d.params.defaults=[])
  (call:∀(w:World) (s₀ s₁:Shared) (mg mb:Str->Option Value) (fa:Addr) (o:Obj) (pm cd doc:Value) (a:Addr) (vs:List Value) (ns:List Int),
   Ground q loose [] XP w s₀ mg mb s₁.heap->YP w s₁.heap->
   s₁.heap.get? fa=some o->o.data=.func (docDef d.name d.params d.body d.scope pm cd doc)->s₁.heap.CodeRec cd d.name->mg d.name=some (.ref fa)->
   s₁.heap.get? a=some { cls:=.type "list",data:=.seq vs.toArray }->IntsAre vs ns->ns.length<=n->s₁.gens=#[]->
   codeAny (model l.prog w) callerA (.call (.ref fa) ⟨[.ref a],[]⟩) (λr s'=>r=.ok (.ret (.bool true))/\OldK s₁.heap s'.heap/\s'.os=s₁.os/\AllBare s'.gens) s₁):
  WalkO q loose XP YP l.row.toRowW d [] (λf vs=>PySem.call f vs):=by
 intro w s₀ s₁ mg mb G Y fa o pm cd doc dV kV ho hd hcd hD hmg hg args vals as hpre hlay hrd hwl hlo
 obtain rfl:dV=.none:=Dflts.none hD hdf
 obtain rfl:kV=.none:=Dflts.noKw hD
 obtain ⟨a,vs,ns,rfl,rfl,hobj,hints,hlen⟩:=Qh hn hpre hwl
 refine enter_call (codeAny_mono (call w s₀ s₁ mg mb fa o pm cd doc a vs ns G Y ho (fd_plain hd) hcd hmg hobj hints hlen hg) λr s' hq=>?_)
 obtain ⟨rfl,h2,h3,h4⟩:=hq
 exact ⟨.inl ⟨.bool true,.bool true,[],rfl,λ_=>rfl,.bool true,Qc l _,λ_=>⟨List.Pairwise.nil,λ_ hm=>(nomatch hm)⟩⟩,h2,h3,h4⟩
section
variable {prog:Program}{w:World}{A:Around}{E:Value->Shared->Prop}{s:Shared}{K:Frag}
end
end Att
namespace L2
open PySem PySem.Spec PyProof.Rows
theorem Ck:∀{vs:List Value} {ns:List Int},IntsAre vs ns->Vals (ns.map V.int) vs
 |_,_,.nil=>.nil
 |_,_,.cons n t h=>.cons ⟨t,rfl⟩ (Ck h)
noncomputable def Only (H:Hp):Prop:=∀b,H b=none\/∃o xs,H b=some (.frz o (.lst xs))
theorem Qx {P:Program}{w:World}{K:W.Frag}{mg mb:Str->Option Value}{CX:CXT}{k:Nat}{fa a:Addr}{fd:FuncData}{x:Str}{sp:Sp}{s₁:Shared}{vs:List Value}{ns:List Int}
  (KX:K.In s₁.heap) (hns:s₁.heap.Ns mainGlobals mg) (hb:s₁.heap.Ns builtinsNs mb) (hbb:∀x:Str,x≠"__name__"->mb x=bootBuiltins x) (hlim:s₁.heap.NoLimit) (hg:s₁.gens=#[])
  (ha:s₁.heap.get? a=some { cls:=.type "list",data:=.seq vs.toArray }) (hi:IntsAre vs ns) (hl:ns.length<=sizeLine) (hr:iR k callerA)
  (F:∀base:Heap,K.In base->base.Ns mainGlobals mg->cL P w K mg base CX k fa fd [x] sp) (hbind:∀(s:Shared) (u:Value),BindsTo s fd ⟨[u],[]⟩ [(x,u)])
  (hsp:∀H:Hp,Only H->SqL K H a (ns.map V.int)->sp [.ref a] H (λv _=>v=.bl true) λ_ _ _=>False)
  (hCX:∀H e s',CX [] H s₁ (λ_ _ _=>False) e s'->False):
  codeAny (model P w) callerA (.call (.ref fa) ⟨[.ref a],[]⟩) (λr s'=>r=.ok (.ret (.bool true))/\OldK s₁.heap s'.heap/\s'.os=s₁.os/\AllBare s'.gens) s₁:=by
 have rv:=Ck hi
 have lenV:=hi.length
 have core:∀H:Hp,Only H->SqL K H a (ns.map V.int)->HOk P w H s₁.heap->(∀b,H b≠none->b=a)->(H a≠none->K.lookup a=none)->
   codeAny (model P w) callerA (.call (.ref fa) ⟨[.ref a],[]⟩) (λr s'=>r=.ok (.ret (.bool true))/\OldK s₁.heap s'.heap/\s'.os=s₁.os/\AllBare s'.gens) s₁:=by
  intro H hO hS hok hA hK
  have base_of:∀{b:Addr} {o:Obj},s₁.heap.get? b=some o->H b=none->(Dl s₁.heap H).get? b=some o:=λe n=>QB e n
  have noA:∀{b:Addr} {o:Obj} {es:Array DictEntry} {ep:Nat},s₁.heap.get? b=some o->o.data=.dict es ep->H b=none:=λ{b o es ep} e d=>by
   cases q:H b with
   |none=>rfl
   |some u=>
    have e':b=a:=hA b (by rw [q]; simp)
    subst e'
    rw [ha] at e; cases e
    have d':Data.seq vs.toArray _=Data.dict es ep:=d
    cases d'
  have nsK:∀{b:Addr} {m:Str->Option Value},s₁.heap.Ns b m->(Dl s₁.heap H).Ns b m:=λ{b m} ⟨o,es,ep,e,d,r⟩=>⟨o,es,ep,base_of e (noA e d),d,r⟩
  have hKb:K.In (Dl s₁.heap H):=λb o e=>base_of (KX b o e) (by
   cases q:H b with
   |none=>rfl
   |some u=>
    have e':b=a:=hA b (by rw [q]; simp)
    subst e'
    rw [hK (by rw [q]; simp)] at e; cases e)
  have hM:Mod K mg (Dl s₁.heap H):=⟨hKb,nsK hns,⟨mb,nsK hb,hbb⟩,let ⟨mc,h1,h2⟩:=hlim; ⟨mc,nsK h1,h2⟩⟩
  have e0:Ks P w K mg (Dl s₁.heap H) callerA [] s₁ H:=⟨rfl,hM,λb o e=>Wy e,Nat.le_of_eq (PB _ _),trivial,λb hb=>absurd (show b∈([]:List Addr) from hb) (by simp),hok,.of_eq hg⟩
  refine codeAny_mono ((F _ hKb (nsK hns)).run callerA [] s₁ H ⟨[.ref a],[]⟩ [.ref a] [.ref a] _ _ hr e0 (hbind s₁ (.ref a)) (.cons rfl .nil) (hsp H hO hS)) λr s' h=>?_
  cases r with
  |error e=>exact (hCX H e s' h).elim
  |ok fl=>
   cases fl with
   |next=>exact False.elim h
   |brk=>exact False.elim h
   |cont=>exact False.elim h
   |ret u=>
    obtain ⟨v,H',os,bare,un,hok',r',q⟩:=h
    have q':v=.bl true:=q
    subst q'
    obtain rfl:u=Value.bool true:=r'
    refine ⟨rfl,OldK.of_keep λb o e=>?_,os,bare⟩
    cases q:H b with
    |none=>exact un.keep b o e q (by intro z; exact absurd (show b∈([]:List Addr) from z) (by simp)) (by simp)
    |some u=>
     rcases hO b with z | ⟨ob,xs,z⟩
     ·rw [q] at z; cases z
     ·have z2:=un.frzs b ob _ z
      obtain ⟨e1,_⟩:=hok b _ z
      obtain ⟨e2,_⟩:=hok' b _ z2
      rw [e] at e1; cases e1
      exact e2
 cases hk:K.lookup a with
 |some o=>
  have e:=KX a o hk
  rw [ha] at e
  cases e
  refine core (λ_=>none) (λ_=>.inl rfl) (.inr ⟨_,vs.toArray,_,hk,rfl,rfl,rfl,by rw [List.size_toArray,lenV]; exact hl,by simpa using rv⟩) (λb u z=>by have z':(none:Option HO)=some u:=z; cases z') (λb z=>absurd rfl z) λz=>absurd rfl z
 |none=>
  refine core (λb=>if b=a then some (.frz { cls:=.type "list",data:=.seq vs.toArray } (.lst (ns.map V.int))) else none) (λb=>?_) (.inl (.inr ⟨{ cls:=.type "list",data:=.seq vs.toArray },if_pos rfl⟩)) (λb u z=>?_) (λb z=>?_) λ_=>hk
  ·by_cases hb:b=a
   ·exact .inr ⟨_,_,if_pos hb⟩
   ·exact .inl (if_neg hb)
  ·by_cases hb:b=a
   ·have z':=(if_pos hb).symm.trans z
    cases z'
    subst hb
    exact ⟨ha,by rw [List.length_map]; exact hl,vs,_,rv,ha⟩
   ·have z':=(if_neg hb).symm.trans z
    cases z'
  ·by_cases hb:b=a
   ·exact hb
   ·exact absurd (if_neg hb) z
open PySem PySem.Spec PyProof.Rows
theorem Vn {l:PySem.W.OpenLaw}{n k:Nat}{q:Program}{loose:List Str}{XP:(Str->Option Value)->Heap->Prop}{YP:World->Heap->Prop}{d:DefRec}{K:Params->W.Frag}{CX:World->CXT}{sp:World->Sp}{x:Str}
  (hn:l.most=some n) (hn2:n<=sizeLine) (hdf:d.params.defaults=[]) (hr:iR k callerA)
  (hY:∀(w:World) (h:Heap),YP w h->(K w.params).In h)
  (F:∀(w:World) (mg:Str->Option Value) (fa:Addr) (h:Heap),(K w.params).In h->h.Ns mainGlobals mg->mg d.name=some (.ref fa)->
   ∃fd:FuncData,(∀(s:Shared) (u:Value),BindsTo s fd ⟨[u],[]⟩ [(x,u)])/\
    ∀base:Heap,(K w.params).In base->base.Ns mainGlobals mg->cL l.prog w (K w.params) mg base (CX w) k fa fd [x] (sp w))
  (hsp:∀(w:World) (H:Hp) (a:Addr) (ns:List Int),ns.length<=n->Only H->SqL (K w.params) H a (ns.map V.int)->sp w [.ref a] H (λv _=>v=.bl true) λ_ _ _=>False)
  (hCX:∀(w:World) (H:Hp) (s:Shared) (e:Value) (s':Shared),CX w [] H s (λ_ _ _=>False) e s'->False):
  PySem.W.WalkO q loose XP YP l.row.toRowW d [] (λf vs=>PySem.call f vs):=by
 refine Att.GC hn hdf λw s₀ s₁ mg mb fa o pm cd doc a vs ns G Y ho hd hcd hmg hobj hints hlen hg=>?_
 have KX:=hY w _ Y
 obtain ⟨fd,hb,hF⟩:=F w mg fa _ KX G.T.g hmg
 exact Qx KX G.T.g G.T.b G.T.builtins G.T.nolimit hg hobj hints (Nat.le_trans hlen hn2) hr hF hb (λH hO hS=>hsp w H a ns hlen hO hS) λH e s'=>hCX w H s₁ e s'
open PySem PySem.Spec PyProof.Rows
noncomputable def m8 (s:Stmt):Arguments:=match s with
 | .FunctionDef _ a _ _ _ _ _ _ _ _=>a
 |_=>{ posonlyargs:=[],args:=[],vararg:=none,kwonlyargs:=[],kw_defaults:=[],kwarg:=none,defaults:=[] }
noncomputable def jr (s:Stmt):List Stmt:=match s with
 | .FunctionDef _ _ b _ _ _ _ _ _ _=>b
 |_=>[]
noncomputable def aG (s:Stmt):Scope:=match s with
 | .FunctionDef _ _ _ _ _ _ sc _ _ _=>sc
 |_=>{ kind:=.function,names:=[],isGenerator:=false,isCoroutine:=false }
noncomputable abbrev E0:XK:=λ_ _ _=>False
structure Fun (K:W.Frag)(x qual:Str)(st:Stmt)(f:Addr)(fd:FuncData):Prop where
 ex:∃(oc:Value) (od:Option Addr) (kV doc pm:Value) (an:Option Addr) (cdv ct:Value) (osl:Array (Option Value)),
  fd=W.fnOf x qual (m8 st) (jr st) (aG st) .none kV doc pm an cdv ct/\K.lookup f=some ⟨oc,od,.func fd,osl⟩/\W.codeIn K cdv qual=true
 kp:W.keepIn K (.ref f)=true
section
variable {P:Program}{w:World}{K:W.Frag}{mg:Str->Option Value}{base:Heap}
theorem Fun.binds {x qual:Str}{st:Stmt}{f:Addr}{fd:FuncData}{ps:List Str}(F:Fun K x qual st f fd)
  (h:∀(kV doc pm:Value) (an:Option Addr) (cdv ct:Value) (us:List Value),us.length=ps.length->bindArgs (W.fnOf x qual (m8 st) (jr st) (aG st) .none kV doc pm an cdv ct) ⟨us,[]⟩=pure (ps.zip us)):Binds K fd ps []:=by
 obtain ⟨oc,od,kV,doc,pm,an,cdv,ct,osl,rfl,lk,hcd⟩:=F.ex
 exact .all (h kV doc pm an cdv ct)
theorem Ug {x qual:Str}{st:Stmt}{f:Addr}{oc:Value}{od an:Option Addr}{osl:Array (Option Value)}{kV doc pm cdv ct:Value}(l:K.lookup f=some ⟨oc,od,.func (W.fnOf x qual (m8 st) (jr st) (aG st) .none kV doc pm an cdv ct),osl⟩)
  (c:W.codeIn K cdv qual=true) (k:W.keepIn K (.ref f)=true):Fun K x qual st f (W.fnOf x qual (m8 st) (jr st) (aG st) .none kV doc pm an cdv ct):=⟨⟨oc,od,kV,doc,pm,an,cdv,ct,osl,rfl,l,c⟩,k⟩
end
section
variable {X:Cx}
theorem pv (i:Nat){x:Str}{pos:Pos}(hN:X.N[i]? = some x:=by rfl)(hv:Vis X.env.scope x:=by first | exact Or.inl rfl | exact Or.inr (Or.inl rfl) | exact Or.inr (Or.inr rfl))(hd:(x == ("__debug__" : Str))=false:=by decide)
  (hcd:(x == ("__classdict__" : Str))=false:=by decide):PE X (.Name x pos) (abA i):=jC hN hv hd hcd
end
noncomputable def aL (H H':Hp):Prop:=∀b o,H b=some o->H' b=some o
theorem aL.refl (H:Hp):aL H H:=λ_ _ h=>h
theorem aL.trans {H H1 H2:Hp}(a:aL H H1)(b:aL H1 H2):aL H H2:=λc o h=>b c o (a c o h)
theorem aL.free {H H':Hp}(e:aL H H'){l:Addr}(h:H' l=Option.none):H l=Option.none:=by
 cases q:H l with
 |none=>rfl
 |some o=>
  rw [e l o q] at h
  cases h
theorem aL.seq {K:W.Frag}{H H':Hp}{a:Addr}{xs:List V}(e:aL H H')(h:SqL K H a xs):SqL K H' a xs:=by
 rcases h with (h | ⟨o,h⟩) | h
 ·exact .inl (.inl (e _ _ h))
 ·exact .inl (.inr ⟨o,e _ _ h⟩)
 ·exact .inr h
end L2
set_option maxHeartbeats 4000000
namespace Hd
open PySem PySem.Spec PyProof.Rows L2
noncomputable abbrev St:=L2.St
theorem Rg {n k:Nat}(h:n<2 ^ k)(hk:0<k):n.log2<k:=by
 by_cases z:n=0
 ·rw [z]
  exact hk
 ·exact (Nat.log2_lt z).mpr h
theorem bits_le {i:Int}(h:i.natAbs<2 ^ 4000):Builtin.Int.intBits i<=4000:=by
 unfold Builtin.Int.intBits
 split
 ·exact Nat.zero_le _
 ·exact Rg h (by decide)
noncomputable def abw (_ j:Int):Prop:=j≠0/\j.natAbs<2 ^ 4000
noncomputable def Ui (i j:Int):Prop:=i.natAbs<2 ^ 4000/\j.natAbs<2 ^ 4000
theorem Ui.ok {i j:Int}(h:Ui i j):IntMulOk i j:=by
 have h1:=bits_le h.1
 have h2:=bits_le h.2
 have hb:bitsLine=134217728:=rfl
 have z:Builtin.Int.intTooBig (Builtin.Int.intBits i+Builtin.Int.intBits j)=false:=by
  unfold Builtin.Int.intTooBig
  refine decide_eq_false ?_
  omega
 unfold IntMulOk
 rw [z]
 simp
section
variable {X:Cx}
theorem QH:OpR X (binaryOp .FloorDiv) (rI abw λi j=>.int (i.fdiv j)):=
 opI λ_ _ _ _ _ _ _ hc q=>floordiv_int hc.1 q (.inl (PyProof.noPylong_of_log2 (Nat.lt_of_lt_of_le (Rg hc.2 (by decide)) (by decide))))
theorem Xd:OpR X (binaryOp .Mult) (rI Ui λi j=>.int (i * j)):=opI λ_ _ _ _ _ _ _ hc q=>mul_int q hc.ok
end
mutual
inductive DV (K:W.Frag)(H:Hp):V->PyData->Prop where
 |non:DV K H .non .none
 |bl (b:Bool):DV K H (.bl b) (.bool b)
 |int (i:Int):DV K H (.int i) (.int i)
 |str (x:Str):DV K H (.str x) (.str x)
 |tup {a:Addr} {xs:List V} {ds:List PyData}:SqT K H a xs->DVs K H xs ds->DV K H (.ref a) (.tuple ds)
 |lst {a:Addr} {xs:List V} {ds:List PyData}:SqL K H a xs->DVs K H xs ds->DV K H (.ref a) (.list ds)
inductive DVs (K:W.Frag)(H:Hp):List V->List PyData->Prop where
 |nil:DVs K H [] []
 |cons {v:V} {vs:List V} {d:PyData} {ds:List PyData}:DV K H v d->DVs K H vs ds->DVs K H (v::vs) (d::ds)
end
section
variable {X:Cx}{pins:List (Addr×Obj)}{σ:St}{H:Hp}{s:Shared}
mutual
theorem DV.reads (I:Inv X pins σ H s):∀{v:V} {d:PyData} {u:Value},DV X.K H v d->RelV v u->∃as,Reads s.heap u d as
 |_,_,u,.non,r=>by cases (show u=Value.none from r); exact ⟨_,.none⟩
 |_,_,u,.bl b,r=>by cases (show u=Value.bool b from r); exact ⟨_,.bool b⟩
 |_,_,u,.int i,r=>by obtain ⟨t,e⟩:=(show ∃t,u=Value.int i t from r); subst e; exact ⟨_,.int i t⟩
 |_,_,u,.str x,r=>by obtain ⟨t,e⟩:=(show ∃t,u=Value.str x t from r); subst e; exact ⟨_,.str x t⟩
 |_,_,u,.tup (a:=a) h hs,r=>by
  cases (show u=Value.ref a from r)
  obtain ⟨its,rv,⟨o,ho,hc,n,hd⟩,_⟩:=I.tuple h
  obtain ⟨as,ra⟩:=DVs.reads I hs rv
  exact ⟨as,.tuple ho hc hd (by simpa using ra)⟩
 |_,_,u,.lst (a:=a) h hs,r=>by
  cases (show u=Value.ref a from r)
  obtain ⟨its,rv,⟨o,n,ho,hc,_,hd⟩,_⟩:=I.list h
  obtain ⟨as,ra⟩:=DVs.reads I hs rv
  exact ⟨a::as,.list ho hc hd (by simpa using ra)⟩
theorem DVs.reads (I:Inv X pins σ H s):∀{vs:List V} {ds:List PyData} {us:List Value},DVs X.K H vs ds->Vals vs us->∃as,ReadsAll s.heap us ds as
 |_,_,_,.nil,.nil=>⟨[],.nil⟩
 |_,_,_,.cons h hs,.cons r rs=>by
  obtain ⟨as,ra⟩:=DV.reads I h r
  obtain ⟨bs,rb⟩:=DVs.reads I hs rs
  exact ⟨as++bs,.cons ra rb⟩
end
end
section
variable {X:Cx}
noncomputable def acv (K:W.Frag):R2:=λx y H Q=>∃d e,DV K H x d/\DV K H y e/\SeqAt.shaped d=true/\SeqAt.shaped e=true/\Q (.bl (PyData.eqv d e)) H
noncomputable def acE (K:W.Frag):R2:=λx y H Q=>∃d e,DV K H x d/\DV K H y e/\SeqAt.shaped d=true/\SeqAt.shaped e=true/\Q (.bl (!PyData.eqv d e)) H
theorem YJ (hu:X.A.units+64<cLine):OpR X (compareOp .Eq) (acv X.K):=by
 intro pins s σ H x y v u Q I rx ry h
 obtain ⟨d,e,hd,he,sd,se,q⟩:=h
 obtain ⟨as,ra⟩:=hd.reads I rx
 obtain ⟨bs,rb⟩:=he.reads I ry
 exact eq_dataH ra rb sd se hu (cH I q rfl)
theorem Z7 (hu:X.A.units+64<cLine):OpR X (compareOp .NotEq) (acE X.K):=by
 intro pins s σ H x y v u Q I rx ry h
 obtain ⟨d,e,hd,he,sd,se,q⟩:=h
 obtain ⟨as,ra⟩:=hd.reads I rx
 obtain ⟨bs,rb⟩:=he.reads I ry
 exact ne_dataH ra rb sd se hu (cH I q rfl)
end
section
variable {X:Cx}
noncomputable def aaC:V->Option Value
 | .ty n=>some (.type n)
 | .ref a=>some (.ref a)
 |_=>none
theorem SN {c:V}{cv u:Value}(e:aaC c=some cv)(r:RelV c u):u=cv:=by
 cases c with
 |ty n=>cases e; exact r
 |ref a=>cases e; exact r
 |_=>cases e
end
section
variable {X:Cx}{t u:TS}{pos:Pos}
end
open PySem PySem.Spec PyProof.Rows L2
structure Fly (P:Program)(w:World)(outer:List Env)(H:Hp)(s:Shared)(e:Value)(s':Shared)(ea t:Addr)(cls:Value)(B:Heap)(H':Hp):Prop where
 is:e=.ref ea
 os:s'.os=s.os
 bare:AllBare s'.gens
 fly:Heap.FlyingW B outer ea cls (.ref t) s'.heap
 keep:∀b o,s.heap.get? b=some o->H b=none->b∉frs outer->B.get? b=some o
 slot:∀b o,s.heap.get? b=some o->b∈frs outer->∃sl,s'.heap.get? b=some { o with slots:=sl }
 free:∀b o,s.heap.get? b=some o->H b=none->H' b=none
 there:∀b o,s.heap.get? b=some o->b∉frs outer->∃o',B.get? b=some o'
 tups:∀b xs,H b=some (.tup xs)->H' b=some (.tup xs)
 frzs:∀b o u,H b=some (.frz o u)->H' b=some (.frz o u)
 tbls:∀b ps,H b=some (.tbl ps)->∃more,H' b=some (.tbl (ps++more))
 hok:HOk P w H' B
 new:s.heap.get? ea=none
 nin:H' ea=none
noncomputable def CX1 (P:Program)(w:World):CXT:=λouter H s E e s'=>∃ea t cls B H',Fly P w outer H s e s' ea t cls B H'/\E cls none H'
theorem RP {env:Env}{l:List Env}{L b:Addr}(hf:env.frame=some L)(h:b∈frs (env::l)):b=L\/b∈frs l:=by
 unfold frs at h
 rw [List.filterMap_cons,hf] at h
 rcases List.mem_cons.mp h with z | z
 ·exact .inl z
 ·exact .inr z
theorem Ul {env:Env}{l:List Env}{b:Addr}(h:b∈frs l):b∈frs (env::l):=by
 unfold frs at h ⊢
 obtain ⟨e,he,hf⟩:=List.mem_filterMap.mp h
 exact List.mem_filterMap.mpr ⟨e,List.mem_cons_of_mem _ he,hf⟩
section
variable {P:Program}{w:World}{K:W.Frag}{mg:Str->Option Value}{base:Heap}{N:List Str}{qual:Str}{scope:Scope}{f:Addr}{cd:Value}{A:Around}{outer:List Env}{s:Shared}{H:Hp}{E:XK}
theorem aN:Passes (CX1 P w) (Ay (CX1 P w) P w K mg base N qual scope f cd A outer s H E) E:=by
 intro pins σ H1 s1 e s' I h
 obtain ⟨ea,t,cls,B,H',F,hw⟩:=h
 obtain rfl:=F.is
 have nfr:∀b o,s.heap.get? b=some o->b∉frs outer->b∉frs (Ay (CX1 P w) P w K mg base N qual scope f cd A outer s H E).stack:=λb o q nb hb=>by
  rcases RP (L:=s.heap.objs.size) rfl hb with z | z
  ·exact absurd (Heap.lt_size q) (by rw [z]; exact Nat.lt_irrefl _)
  ·exact nb z
 have nx:∀b:Addr,b∉(Ay (CX1 P w) P w K mg base N qual scope f cd A outer s H E).ex:=λb z=>absurd (show b∈([]:List Addr) from z) (by simp)
 refine wpAny_leaves_onW (base:=B) (outer:=outer) (L:=s.heap.objs.size) I.ok.frames rfl F.fly λh2 x1 x2=>?_
 refine ⟨ea,t,cls,B,H',⟨rfl,F.os.trans I.os,F.bare,x1,λb o q n nb=>?_,λb o q hb=>?_,λb o q n=>?_,λb o q nb=>?_,λb xs q=>F.tups b xs (I.base.tups b xs q),λb o u q=>F.frzs b o u (I.base.frzs b o u q),λb ps q=>?_,F.hok,?_,F.nin⟩,hw⟩
 ·exact F.keep b o (I.base.keep b o q n nb (nx b)) (I.base.free b o q n (nx b)) (nfr b o q nb)
 ·obtain ⟨sl,e1⟩:=I.base.slot b o q (I.ok.frf b hb) hb (nx b)
  obtain ⟨_,o',ho',hnf⟩:=I.ok.ym.mem hb
  have eo:o=o':=Option.some.inj (q.symm.trans ho')
  obtain ⟨sl1,e2⟩:=F.slot b _ e1 (Ul hb)
  obtain ⟨sl2,e3⟩:=x2 b _ e2 (λv z=>hnf v (by rw [← eo]; exact z))
  exact ⟨sl2,e3⟩
 ·obtain ⟨o',e1⟩:=I.base.there b o q (nx b)
  exact F.free b o' e1 (I.base.free b o q n (nx b))
 ·obtain ⟨o',e1⟩:=I.base.there b o q (nx b)
  exact F.there b o' e1 (nfr b o q nb)
 ·obtain ⟨m1,e1⟩:=I.base.tbls b ps q
  obtain ⟨m2,e2⟩:=F.tbls b _ e1
  exact ⟨m1++m2,by rw [e2,Array.append_assoc]⟩
 ·cases q:s.heap.get? ea with
  |none=>rfl
  |some o=>
   obtain ⟨o',e1⟩:=I.base.there ea o q (nx ea)
   rw [F.new] at e1; cases e1
end
theorem ux {P:Program}{w:World}{X:Cx}:Passes (CX1 P w) X E0:=λ_ _ _ _ _ _ _ ⟨_,_,_,_,_,_,z⟩=>z.elim
noncomputable def abd (ea:Addr)(cls:Value)(h:Heap):Prop:=∃o,h.get? ea=some o/\o.cls=cls/\∃vs,o.data=.fields vs
section
variable {X:Cx}{pins:List (Addr×Obj)}{σ:St}{H H':Hp}{s s':Shared}{e:Value}{ea t:Addr}{cls:Value}{B:Heap}
theorem Fly.inv (F:Fly X.prog X.w X.stack H s e s' ea t cls B H')(I:Inv X pins σ H s){h2:Heap}{tk:Nat}(k1:B.StaysIn h2)(k2:s'.heap.UpToSlots h2):Inv X pins σ H' { s' with heap:=h2,toks:=tk }:=by
 have nf:∀b∈frs X.stack,∀o,s.heap.get? b=some o->∀vs,o.data≠.fields vs:=λb hb o q=>by
  obtain ⟨_,o',ho',hnf⟩:=I.stack.mem hb
  have eo:o=o':=Option.some.inj (q.symm.trans ho')
  rw [eo]; exact hnf
 refine I.call' (s':={ s' with heap:=h2,toks:=tk }) (ch:=[]) F.os ⟨λb o q n hb _=>k1 b o (F.keep b o q n hb),λb o q n hb _=>?_,λb o q n _=>F.free b o q n,λb o q _=>?_,F.tups,F.frzs,F.tbls⟩ (F.hok.kept k1) F.bare (λb z=>nomatch z)
 ·obtain ⟨sl,e1⟩:=F.slot b o q hb
  obtain ⟨sl2,e2⟩:=k2 b _ e1 (nf b hb o q)
  exact ⟨sl2,e2⟩
 ·by_cases hb:b∈frs X.stack
  ·obtain ⟨sl,e1⟩:=F.slot b o q hb
   obtain ⟨sl2,e2⟩:=k2 b _ e1 (nf b hb o q)
   exact ⟨_,e2⟩
  ·obtain ⟨o',e1⟩:=F.there b o q hb
   exact ⟨o',k1 b o' e1⟩
end
open PySem PySem.Spec PyProof.Rows L2
section
variable {X:Cx}{pins:List (Addr×Obj)}{σ:St}{H H':Hp}{s s':Shared}{e:Value}{ea t:Addr}{cls:Value}{B:Heap}
end
section
variable {X:Cx}{k:Nat}{f:Addr}{fd:FuncData}{ps:List Str}{sp:Sp}{x:Str}{p pos pos':Pos}{e:Expr}{es:List Expr}{t:TA}
end
open PySem PySem.Spec PyProof.Rows L2
section
variable {X:Cx}{x:Str}{e₀:Expr}{np cpos pos:Pos}{te:TE}{C:Addr}{bmB:List Value}{B newId initId:String}
end
structure Fn (P:Program)(w:World)(K:W.Frag)(mg:Str->Option Value)(base:Heap)(k:Nat)(x:Str)(ps:List Str)(sp:Sp):Prop where
 ex:∃f fd,cL P w K mg base (CX1 P w) k f fd ps sp/\Binds K fd ps []/\W.keepIn K (.ref f)=true/\mg x=some (.ref f)
section
variable {X:Cx}{j k:Nat}{x:Str}{ps:List Str}{sp:Sp}{p pos:Pos}{e:Expr}{es:List Expr}{t:TA}
end
section
variable {P:Program}{w:World}{K:W.Frag}{mg:Str->Option Value}{base:Heap}
theorem Ml {x qual:Str}{st:Stmt}{f:Addr}{fd:FuncData}{N ps:List Str}{k:Nat}{sp:Sp}(F:Fun K x qual st f fd)(S:aX N ps (aG st))(len:∀vs H Q E,sp vs H Q E->vs.length=ps.length)
  (hbody:∀(cdv:Value) (A:Around) (outer:List Env) (s:Shared) (H:Hp) (vs:List V) (Q:VK) (E:XK),iR k (A.deeper (envOfC qual (aG st) s.heap.objs.size f cdv))->sp vs H Q E->
   ∃t,PSs (Ay (CX1 P w) P w K mg base N qual (aG st) f cdv A outer s H E) (jr st) t/\t { nx:=λ_ H'=>Q .non H',rt:=Q } (start N vs) H):cL P w K mg base (CX1 P w) (k+1) f fd ps sp:=by
 obtain ⟨oc,od,kV,doc,pm,an,cdv,ct,osl,rfl,lk,hcd⟩:=F.ex
 refine Lr lk hcd S len λA outer s H vs Q E hr hsp=>?_
 obtain ⟨t,h,q⟩:=hbody cdv A outer s H vs Q E hr hsp
 exact ⟨t,h,q⟩
end
structure Df (K:W.Frag)(mg:Str->Option Value)(x:Str)(st:Stmt)(ps:List Str):Prop where
 ex:∃f fd,Fun K x x st f fd/\Binds K fd ps []/\mg x=some (.ref f)
theorem Df.fn {P:Program}{w:World}{K:W.Frag}{mg:Str->Option Value}{base:Heap}{x:Str}{st:Stmt}{ps:List Str}{k:Nat}{sp:Sp}(D:Df K mg x st ps)
  (h:∀f fd,Fun K x x st f fd->cL P w K mg base (CX1 P w) k f fd ps sp):Fn P w K mg base k x ps sp:=by
 obtain ⟨f,fd,F,b,m⟩:=D.ex
 exact ⟨f,fd,h f fd F,b,F.kp,m⟩
open PySem PySem.Spec PyProof.Rows L2
section
variable {prog:Program}{w:World}{A:Around}{E:Value->Shared->Prop}{h:Heap}{g:Array GenState}{d:Drawn}{t:Nat}{os:OsState}{a C:Addr}{o:Obj}{K:W.Frag}
end
section
variable {X:Cx}
end
end Hd
namespace L2
open PySem PySem.Spec PyProof.Rows
section
variable {κ:Type}[DecidableEq κ]
noncomputable def pY (kvs:List (κ×V))(k:κ):Option V:=(kvs.find? λkv=>decide (kv.1=k)).map (·.2)
noncomputable def putK (kvs:List (κ×V))(k:κ)(v:V):List (κ×V):=
 if (kvs.any λkv=>decide (kv.1=k))=true then kvs.map (λkv=>if kv.1=k then (kv.1,v) else kv) else kvs++[(k,v)]
theorem sG {p:κ×V}{r:List (κ×V)}{k:κ}(e:p.1=k):pY (p::r) k=some p.2:=by simp [pY,List.find?_cons,e]
theorem sU {p:κ×V}{r:List (κ×V)}{k:κ}(e:¬p.1=k):pY (p::r) k=pY r k:=by simp [pY,List.find?_cons,e]
theorem zU (k:κ):∀kvs:List (κ×V),(kvs.any λkv=>decide (kv.1=k))=(pY kvs k).isSome
 |[]=>rfl
 |p::r=>by
  rw [List.any_cons]
  by_cases e:p.1=k
  ·simp only [sG e,decide_eq_true e,Bool.true_or,Option.isSome_some]
  ·rw [sU e,decide_eq_false e,Bool.false_or]; exact zU k r
theorem sZ (kvs:List (κ×V))(k:κ)(v:V):(putK kvs k v).length<=kvs.length+1:=by
 unfold putK
 split
 ·rw [List.length_map]; omega
 ·rw [List.length_append,List.length_cons,List.length_nil]; omega
theorem Ue {kvs:List (κ×V)}{k:κ}(v:V)(h:pY kvs k=none):putK kvs k v=kvs++[(k,v)]:=by
 unfold putK
 rw [zU,h]
 exact if_neg (by decide)
theorem wQ.xN {o:Option V}{u:Option Value}(r:wQ o u):o.isSome=u.isSome:=by
 cases o with
 |none=>cases u with
  |none=>rfl
  |some _=>exact (show False from r).elim
 |some _=>cases u with
  |none=>exact (show False from r).elim
  |some _=>rfl
theorem wQ.getD {o:Option V}{u:Option Value}{d:V}{d':Value}(r:wQ o u)(rd:RelV d d'):RelV (o.getD d) (u.getD d'):=by
 cases o with
 |none=>cases u with
  |none=>exact rd
  |some _=>exact (show False from r).elim
 |some _=>cases u with
  |none=>exact (show False from r).elim
  |some _=>exact r
theorem KV.val {kvs:List (κ×V)}{vs:List (κ×Value)}(r:KV kvs vs)(k:κ):wQ (pY kvs k) (valueAt vs k):=by
 unfold KV at r
 induction r with
 |nil=>exact True.intro
 | @cons p q ps qs h t ih=>
  obtain ⟨h1,h2⟩:=h
  by_cases e:p.1=k
  ·have e':q.1=k:=h1.symm.trans e
   have b:valueAt (q::qs) k=some q.2:=by simp [valueAt,List.find?_cons,e']
   rw [sG e,b]; exact h2
  ·have e':¬q.1=k:=λz=>e (h1.trans z)
   have b:valueAt (q::qs) k=valueAt qs k:=by simp [valueAt,List.find?_cons,e']
   rw [sU e,b]; exact ih
theorem KV.any {kvs:List (κ×V)}{vs:List (κ×Value)}(r:KV kvs vs)(k:κ):(kvs.any λkv=>decide (kv.1=k))=vs.any λkv=>decide (kv.1=k):=by
 unfold KV at r
 induction r with
 |nil=>rfl
 |cons h t ih=>rw [List.any_cons,List.any_cons,ih,h.1]
theorem KV.repl {kvs:List (κ×V)}{vs:List (κ×Value)}(r:KV kvs vs)(k:κ){y:V}{u:Value}(ry:RelV y u):
  KV (kvs.map λkv=>if kv.1=k then (kv.1,y) else kv) (vs.map λkv=>if kv.1=k then (kv.1,u) else kv):=by
 unfold KV at r ⊢
 induction r with
 |nil=>exact .nil
 | @cons p q ps qs h t ih=>
  rw [List.map_cons,List.map_cons]
  refine .cons ?_ ih
  obtain ⟨h1,h2⟩:=h
  by_cases e:p.1=k
  ·rw [if_pos e,if_pos (h1.symm.trans e)]; exact ⟨h1,ry⟩
  ·rw [if_neg e,if_neg (λz=>e (h1.trans z))]; exact ⟨h1,h2⟩
theorem KV.put {kvs:List (κ×V)}{vs:List (κ×Value)}(r:KV kvs vs)(k:κ){y:V}{u:Value}(ry:RelV y u):KV (putK kvs k y) (stored vs k u):=by
 unfold putK stored
 rw [r.any k]
 by_cases e:(vs.any λkv=>decide (kv.1=k))=true
 ·rw [if_pos e,if_pos e]; exact r.repl k ry
 ·rw [if_neg e,if_neg e]; exact Paired.snoc r ⟨rfl,ry⟩
theorem KV.keys {kvs:List (κ×V)}{vs:List (κ×Value)}(r:KV kvs vs):kvs.map (·.1)=vs.map (·.1):=by
 unfold KV at r
 induction r with
 |nil=>rfl
 |cons h t ih=>rw [List.map_cons,List.map_cons,ih,h.1]
theorem KV.length {kvs:List (κ×V)}{vs:List (κ×Value)}(r:KV kvs vs):kvs.length=vs.length:=Paired.length r
end
theorem HB {P:Program}{w:World}{k:Key}{u:Value}(r:RelV (kV k) u):(jT P w).is k u=true:=by
 cases k with
 |inl i=>obtain ⟨t,e⟩:=(show ∃t,u=Value.int i t from r); subst e; exact G8 P w i t
 |inr x=>obtain ⟨t,e⟩:=(show ∃t,u=Value.str x t from r); subst e; exact Ie P w x t
noncomputable abbrev KT (T:Addr->List V->Prop)(H:Hp):List (List Kt×V)->List (List Kt×Addr×Value)->Prop:=Paired λp q=>p.1=q.1/\TrT T H q.2.1 p.1/\RelV p.2 q.2.2
theorem KT.val {T:Addr->List V->Prop}{H:Hp}{kvs:List (List Kt×V)}{xs:List (List Kt×Addr×Value)}(r:KT T H kvs xs)(k:List Kt):wQ (pY kvs k) ((atKey xs k).map (·.2)):=by
 induction r with
 |nil=>exact True.intro
 | @cons p q ps qs h t ih=>
  obtain ⟨h1,_,h2⟩:=h
  by_cases e:p.1=k
  ·have e':q.1=k:=h1.symm.trans e
   have b:atKey (q::qs) k=some q.2:=by simp [atKey,List.find?_cons,e']
   rw [sG e,b]; exact h2
  ·have e':¬q.1=k:=λz=>e (h1.trans z)
   have b:atKey (q::qs) k=atKey qs k:=by simp [atKey,List.find?_cons,e']
   rw [sU e,b]; exact ih
theorem KT.repl {T:Addr->List V->Prop}{H:Hp}{kvs:List (List Kt×V)}{xs:List (List Kt×Addr×Value)}(r:KT T H kvs xs)(k:List Kt){y:V}{u:Value}(ry:RelV y u):
  KT T H (kvs.map λkv=>if kv.1=k then (kv.1,y) else kv) (xs.map (putAt k u)):=by
 induction r with
 |nil=>exact .nil
 | @cons p q ps qs h t ih=>
  rw [List.map_cons,List.map_cons]
  refine .cons ?_ ih
  obtain ⟨h1,h2,h3⟩:=h
  unfold putAt
  by_cases e:p.1=k
  ·rw [if_pos e,if_pos (h1.symm.trans e)]; exact ⟨h1,h2,ry⟩
  ·rw [if_neg e,if_neg (λz=>e (h1.trans z))]; exact ⟨h1,h2,h3⟩
theorem KT.put {T:Addr->List V->Prop}{H:Hp}{kvs:List (List Kt×V)}{xs:List (List Kt×Addr×Value)}(r:KT T H kvs xs)(k:List Kt){b:Addr}{y:V}{u:Value}(hb:TrT T H b k)(ry:RelV y u):
  KT T H (putK kvs k y) (storedH xs k b u):=by
 have e:(kvs.any λkv=>decide (kv.1=k))=(atKey xs k).isSome:=by
  rw [zU,(r.val k).xN,Option.isSome_map]
 unfold putK storedH
 rw [e]
 by_cases q:(atKey xs k).isSome=true
 ·rw [if_pos q,if_pos q]; exact r.repl k ry
 ·rw [if_neg q,if_neg q]; exact Paired.snoc r ⟨rfl,hb,ry⟩
theorem KT.keeps {T:Addr->List V->Prop}{H H':Hp}{kvs:List (List Kt×V)}{xs:List (List Kt×Addr×Value)}(r:KT T H kvs xs)(ht:∀b ys,H b=some (.tup ys)->H' b=some (.tup ys)):KT T H' kvs xs:=
 Paired.aao r λ_ _ z=>⟨z.1,z.2.1.imp ht,z.2.2⟩
section
variable {P:Program}{w:World}{H:Hp}{h:Heap}{a:Addr}
theorem X4 {u:HO}(ok:HOk P w H h)(e:Rd H a u):eE P w H h a u:=e.ok ok
theorem Ca {kvs:List (Key×V)}(ok:HOk P w H h)(e:Rd H a (.dK kvs)):kvs.length<=sizeLine/\(a == sysModules)=false/\∃vs,KV kvs vs/\h.DictOf (jT P w) a vs:=
 show eE P w H h a (.dK kvs) from X4 ok e
theorem X8 {kvs:List (Key×V)}(ok:HOk P w H h)(e:H a=some (.dK kvs)):kvs.length<=sizeLine/\(a == sysModules)=false/\∃vs,KV kvs vs/\h.DictOf (jT P w) a vs:=Ca ok (.inl e)
theorem Ik {T:Addr->List V->Prop}{kvs:List (List Kt×V)}(hT:∀b ks,TrT T H b ks->(lQ P w).is h ks b)(ok:HOk P w H h)(e:Rd H a (.dT T kvs)):kvs.length<=sizeLine/\(a == sysModules)=false/\
  ∃xs,KT T H kvs xs/\h.DictOfH (lQ P w) a xs:=by
 obtain ⟨z,y,xs,r,o,es,ep,h1,h2,h3,h4,h5⟩:=(show eE P w H h a (.dT T kvs) from X4 ok e)
 refine ⟨z,y,xs,r,o,es,ep,h1,h2,h3,h4,λx hx=>?_,h5⟩
 have all:∀{l:List (List Kt×V)} {m:List (List Kt×Addr×Value)},KT T H l m->∀x∈m,(lQ P w).is h x.1 x.2.1:=by
  intro l m q
  induction q with
  |nil=>intro x hx; exact nomatch hx
  | @cons p q ps qs hq t ih=>
   intro x hx
   rcases List.mem_cons.mp hx with e | hx
   ·subst e
    rw [← hq.1]
    exact hT _ _ hq.2.1
   ·exact ih x hx
 exact all r x hx
theorem RG {T:Addr->List V->Prop}{kvs:List (List Kt×V)}(hT:∀b ks,TrT T H b ks->(lQ P w).is h ks b)(ok:HOk P w H h)(e:H a=some (.dT T kvs)):kvs.length<=sizeLine/\(a == sysModules)=false/\
  ∃xs,KT T H kvs xs/\h.DictOfH (lQ P w) a xs:=Ik hT ok (.inl e)
end
noncomputable def Em (K:W.Frag)(H:Hp)(a:Addr)(y:V)(r:Option V):Prop:=
 (∃kvs k,Rd H a (.dK kvs)/\y=kV k/\r=pY kvs k)\/∃kvs k b,Rd H a (.dT (KTp K) kvs)/\y=.ref b/\TrT (KTp K) H b k/\r=pY kvs k
noncomputable def Bs (K:W.Frag)(H:Hp)(a:Addr)(y v:V)(H':Hp):Prop:=
 (∃kvs k,H a=some (.dK kvs)/\y=kV k/\kvs.length<sizeLine/\H'=upd H a (.dK (putK kvs k v))) ∨
 ∃kvs k b,H a=some (.dT (KTp K) kvs)/\y=.ref b/\TrT (KTp K) H b k/\kvs.length<sizeLine/\H'=upd H a (.dT (KTp K) (putK kvs k v))
theorem Em.k {K:W.Frag}{H:Hp}{a:Addr}{kvs:List (Key×V)}{k:Key}(e:H a=some (.dK kvs)):Em K H a (kV k) (pY kvs k):=.inl ⟨kvs,k,.inl e,rfl,rfl⟩
theorem Bs.k {K:W.Frag}{H:Hp}{a:Addr}{kvs:List (Key×V)}{k:Key}{v:V}(e:H a=some (.dK kvs))(hl:kvs.length<sizeLine):Bs K H a (kV k) v (upd H a (.dK (putK kvs k v))):=.inl ⟨kvs,k,e,rfl,hl,rfl⟩
theorem Bs.t {K:W.Frag}{H:Hp}{a b:Addr}{kvs:List (List Kt×V)}{k:List Kt}{v:V}(e:H a=some (.dT (KTp K) kvs))(eb:TrT (KTp K) H b k)(hl:kvs.length<sizeLine):
  Bs K H a (.ref b) v (upd H a (.dT (KTp K) (putK kvs k v))):=.inr ⟨kvs,k,b,e,rfl,eb,hl,rfl⟩
section
variable {X:Cx}{pins:List (Addr×Obj)}{σ:St}{H:Hp}{s:Shared}{a:Addr}{y v:V}{u r:Value}{o:Option V}{A:Around}{E:Value->Shared->Prop}
theorem Inv.big (I:Inv X pins σ H s):sysModules<s.heap.objs.size:=by
 have h:mainGlobals<s.heap.objs.size:=(I.mod.glob.keeps I.bk).lt
 exact Nat.lt_trans (by decide) h
mutual
theorem MK (I:Inv X pins σ H s):∀{n:Nat} {v:V} {k:Kt} {u:Value},yD (KTp X.K) H n v k->RelV v u->nJ s.heap n k u
 |n,_,_,u,.k (x:=x),r=>by rw [qe]; exact HB (P:=X.prog) (w:=X.w) r
 |_,_,_,u,.t (b:=b) h hs,r=>by
  cases (show u=Value.ref b from r)
  obtain ⟨its,rv,⟨o,ho,hc,m,hd⟩,_⟩:=I.tuple (SqU.sq h)
  exact mX.mpr ⟨b,o,its.toArray,m,rfl,ho,hc,hd,by simpa using Hq I hs rv⟩
theorem Hq (I:Inv X pins σ H s):∀{n:Nat} {vs:List V} {ks:List Kt} {us:List Value},rM (KTp X.K) H n vs ks->Vals vs us->Paired (nJ s.heap n) ks us
 |_,_,_,_,.nil,.nil=>.nil
 |_,_,_,_,.cons h hs,.cons r rs=>.cons (MK I h r) (Hq I hs rs)
end
theorem xM {ks:List Kt}{b:Addr}(I:Inv X pins σ H s)(e:TrT (KTp X.K) H b ks):(lQ X.prog X.w).is s.heap ks b:=by
 obtain ⟨vs,h,hs⟩:=e
 exact MK I (.t h hs) rfl
theorem Ac (I:Inv X pins σ H s):∀b ks,TrT (KTp X.K) H b ks->(lQ X.prog X.w).is s.heap ks b:=λb ks e=>xM I e
theorem tU {A:Around}(hu:A.units+16<cLine):(lQ X.prog X.w).room A.in1:=by
 show A.units+1+8<cLine
 omega
theorem O2 {Q:Value->Shared->Prop}(hu:A.units+16<cLine)(I:Inv X pins σ H s)(g:Em X.K H a y (some v))(ry:RelV y u)(h:∀w' s',Inv X pins σ H s'->RelV v w'->Q w' s'):
  wpAny (model X.prog X.w) A (getItem (.ref a) u) Q E s:=by
 rcases g with ⟨kvs,k,e,ey,l⟩ | ⟨kvs,k,b,e,ey,eb,l⟩
 ·subst ey
  obtain ⟨z,hd,vs,rel,dd⟩:=Ca I.hok e
  obtain ⟨w',hw,rw'⟩:=wQ.some_of (v:=v) (o:=valueAt vs k) (by rw [l]; exact rel.val k)
  exact wpAny_getItem_of (HB ry) dd.mapOf hw (h w' _ (I.tok _) rw')
 ·subst ey
  cases (show u=Value.ref b from ry)
  obtain ⟨z,hd,xs,rel,dd⟩:=Ik (Ac I) I.hok e
  obtain ⟨w',hw,rw'⟩:=wQ.some_of (v:=v) (o:=(atKey xs k).map (·.2)) (by rw [l]; exact rel.val k)
  obtain ⟨p,hp,hp2⟩:=Option.map_eq_some_iff.mp hw
  refine wpAny_getItem_heap (tU hu) (xM I eb) dd hp ?_
  rw [hp2]
  exact h w' _ (I.tok _) rw'
theorem WL {Q:Value->Shared->Prop}(hu:A.units+16<cLine)(I:Inv X pins σ H s)(g:Em X.K H a y o)(ry:RelV y u)(h:∀s',Inv X pins σ H s'->Q (.bool (!o.isSome)) s'):
  wpAny (model X.prog X.w) A (compareOp .NotIn u (.ref a)) Q E s:=by
 rcases g with ⟨kvs,k,e,ey,l⟩ | ⟨kvs,k,b,e,ey,eb,l⟩
 ·subst ey
  obtain ⟨z,hd,vs,rel,dd⟩:=Ca I.hok e
  refine wpAny_notIn_of (HB ry) hd dd.mapOf ?_
  rw [← (rel.val k).xN,← l]
  exact h _ (I.tok _)
 ·subst ey
  cases (show u=Value.ref b from ry)
  obtain ⟨z,hd,xs,rel,dd⟩:=Ik (Ac I) I.hok e
  refine wpAny_notIn_heap (tU hu) (xM I eb) hd dd ?_
  have q:=(rel.val k).xN
  rw [Option.isSome_map] at q
  rw [← q,← l]
  exact h _ (I.tok _)
theorem vo {h':Heap}{t':Nat}{ob:HO}(I:Inv X pins σ H s)(mu:Mut (H a))(hs:Heap.SameBut a s.heap h')(he:∃q,h'.get? a=some q)(new:eE X.prog X.w (upd H a ob) h' a ob):
  Inv X pins σ (upd H a ob) { s with heap:=h',toks:=t' }:=
 I.write (x:=a) (e:=a) mu (.inl rfl) (λb q hb z=>(hs.2 b hb).trans z) he new
theorem Ru {P:Program}{w:World}{H':Hp}{h':Heap}{kvs:List (Key×V)}{vs:List (Key×Value)}(z:kvs.length<=sizeLine)(hd:(a == sysModules)=false)(rel:KV kvs vs)(dd:h'.DictOf (jT P w) a vs):
  eE P w H' h' a (.dK kvs):=⟨z,hd,vs,rel,dd⟩
theorem PJ {H':Hp}{Q:Unit->Shared->Prop}(hu:A.units+16<cLine)(I:Inv X pins σ H s)(g:Bs X.K H a y v H')(ry:RelV y u)(rv:RelV v r)(h:∀s',Inv X pins σ H' s'->Q () s'):
  wpAny (model X.prog X.w) A (setItem (.ref a) u r) Q E s:=by
 rcases g with ⟨kvs,k,e,ey,l,eH⟩ | ⟨kvs,k,b,e,ey,eb,l,eH⟩
 ·subst ey eH
  obtain ⟨z,hd,vs,rel,dd⟩:=X8 I.hok e
  have hz:vs.length<=sizeLine:=by rw [← rel.length]; exact z
  have hl:(putK kvs k v).length<=sizeLine:=by have:=sZ kvs k v; omega
  refine wpAny_setItem_pairs (hsz:=hz) (HB ry) dd λh' dd' hs=>h _ ?_
  have he:∃q,h'.get? a=some q:=let ⟨q,_,_,hq,_⟩:=dd'; ⟨q,hq⟩
  exact vo I (by rw [e]; exact True.intro) hs he (Ru hl hd (rel.put k rv) dd')
 ·subst ey eH
  cases (show u=Value.ref b from ry)
  obtain ⟨z,hd,xs,rel,dd⟩:=RG (Ac I) I.hok e
  have hz:xs.length<=sizeLine:=by rw [← Paired.length rel]; exact z
  have hl:(putK kvs k v).length<=sizeLine:=by have:=sZ kvs k v; omega
  refine wpAny_setItem_heap (hsz:=hz) (tU hu) (xM I eb) dd λh' dd' hs=>h _ ?_
  obtain ⟨q,es,ep,hq,h2,h3,h4,_,h5⟩:=dd'
  refine vo I (by rw [e]; exact True.intro) hs ⟨q,hq⟩ ⟨hl,hd,_,(rel.put k eb rv).keeps λc ys ec=>?_,q,es,ep,hq,h2,h3,h4,h5⟩
  rw [cO (Tz ec e (λz=>nomatch z))]
  exact ec
end
section
variable {X:Cx}{pins:List (Addr×Obj)}{σ:St}{H:Hp}{s:Shared}{a:Addr}{kvs:List (Key×V)}{k:Key}{u:Value}{A:Around}{E:Value->Shared->Prop}
theorem aby {Q:Value->Shared->Prop}(I:Inv X pins σ H s)(e:Rd H a (.dK kvs))(h:∀t s',Inv X pins σ H s'->Q (.int kvs.length t) s'):wpAny (model X.prog X.w) A (call (.builtin "len") [.ref a]) Q E s:=by
 obtain ⟨z,hd,vs,rel,dd⟩:=Ca I.hok e
 refine call_len_dict hd dd (by rw [← rel.length]; rw [sizeLine_eq] at z; omega) ?_
 rw [← rel.length]
 exact h _ _ (I.tok _)
end
noncomputable def Xo (i:Expr):Prop:=∀ov iv,subscripted i false ov iv=operate [ov,iv] (getItem ov iv)
theorem Wl {prog:Program}{w:World}{A:Around}{E:Value->Shared->Prop}{s:Shared}{env:Env}{value slice:Expr}{pos:Pos}{T id:String}{Q:Value->Shared->Prop}
  (hl:typeLookup (.type T) "__getitem__" = pure (some (.builtin id))) (hs:Xo slice)
  (h:wpAny (model prog w) A (eval value env) (λo s₁=>wpAny (model prog w) A (eval slice env) (λi s₂=>s₂.TypeIs o T/\wpAny (model prog w) A (getItem o i) Q E s₂) E s₁) E s):
  wpAny (model prog w) A (eval (.Subscript value slice pos) env) Q E s:=by
 refine Subscript_ (wpAny_mono h (λo s₁ h₁=>wpAny_mono h₁ (λi s₂ h₂=>?_) λ_ _ x=>x) λ_ _ x=>x)
 obtain ⟨hT,h₂⟩:=h₂
 unfold subscriptTail
 refine wpAny_bind ?_
 rw [getitemInPython_of_ne hT.not_modules]
 refine wpAny_bind (wpAny_specialOf hT hl ?_)
 have fin:wpAny (model prog w) A (subscripted slice false o i) (λr s₃=>wpAny (model prog w) A (letTemporaryGo value o r >>= λ_=>pure r) Q E s₃) E s₂:=by
  rw [hs o i]
  exact wpAny_operating (wpAny_mono h₂ (λr s₃ h₃=>wpAny_bind (wpAny_letTemporaryGo (wpAny_pure h₃))) λ_ _ x=>x)
 first
  |exact wpAny_pure (wpAny_bind fin)
  |exact wpAny_bind (wpAny_pure (wpAny_bind fin))
  |exact wpAny_bind fin
theorem Hr {X:Cx}{pins:List (Addr×Obj)}{σ:St}{H:Hp}{s:Shared}{a:Addr}{y:V}{o:Option V}(I:Inv X pins σ H s)(g:Em X.K H a y o):s.TypeIs (.ref a) "dict":=by
 rcases g with ⟨kvs,k,e,_,_⟩ | ⟨kvs,k,b,e,_,_,_⟩
 ·obtain ⟨_,_,vs,_,dd⟩:=Ca I.hok e
  exact dd.typeIs
 ·obtain ⟨_,_,xs,_,dd⟩:=Ik (Ac I) I.hok e
  exact dd.typeIs
noncomputable def aaV (K:W.Frag)(td ty:TE):TE:=λσ H Q=>td σ H λx H1=>ty σ H1 λy H2=>∃a v,x=.ref a/\Em K H2 a y (some v)/\Q v H2
noncomputable def abD (K:W.Frag)(td ty tv:TE):TS:=λD σ H=>tv σ H λv H1=>td σ H1 λx H2=>ty σ H2 λy H3=>∃a H4,x=.ref a/\Bs K H3 a y v H4/\D.nx σ H4
section
variable {X:Cx}{o i e value:Expr}{pos pos' tpos:Pos}{td ty tv:TE}
theorem Ld (hu:X.A.units+16<cLine)(ho:PE X o td)(hi:PE X i ty)(hs:Xo i):PE X (.Subscript o i pos) (aaV X.K td ty):=by
 intro pins s σ H Q I h
 refine Wl PySem.F.slot_dict_getitem.lookup hs (thn (ho pins s σ H _ I h) λu s1 ⟨x,H1,I1,rx,q1⟩=>thn (hi pins s1 σ H1 _ I1 q1) λiv s2 ⟨y,H2,I2,ry,a,v,ex,g,q2⟩=>?_)
 subst ex
 obtain rfl:u=Value.ref a:=rx
 exact ⟨Hr I2 g,O2 hu I2 g ry λw' s3 I3 rw'=>⟨v,H2,I3,rw',q2⟩⟩
theorem yS (hu:X.A.units+16<cLine)(ho:PE X o td)(hi:PE X i ty)(hv:PE X value tv)(hs:swapsWith value (some (.Subscript o i pos')) pos.line X.env=pure false):
  PS X (.Assign [.Subscript o i pos'] value pos) (abD X.K td ty tv):=by
 intro pins s σ H D I h
 refine wpAny_Assign_Subscript (thn (hv pins s σ H _ I h) λr s1 ⟨v,H1,I1,rv,q1⟩=>thn (ho pins s1 σ H1 _ I1 q1) λu s2 ⟨x,H2,I2,rx,q2⟩=>thn (hi pins s2 σ H2 _ I2 q2) λiv s3 ⟨y,H3,I3,ry,a,H4,ex,g,q3⟩=>?_) hs
 subst ex
 obtain rfl:u=Value.ref a:=rx
 exact PJ hu I3 g ry rv λs4 I4=>⟨σ,H4,I4,q3⟩
end
theorem G4 {P:Program}{w:World}{H:Hp}(h:Heap)(hb:sysModules<h.objs.size):eE P w H (h.push { cls:=.type "dict",data:=.dict #[] }) h.objs.size (.dK []):=
 ⟨Nat.zero_le _,beq_eq_false_iff_ne.mpr (Ne.symm (Nat.ne_of_lt hb)),[],.nil,Heap.DictOf.new h⟩
theorem Hl {T:Addr->List V->Prop}{P:Program}{w:World}{H:Hp}(h:Heap)(hb:sysModules<h.objs.size):eE P w H (h.push { cls:=.type "dict",data:=.dict #[] }) h.objs.size (.dT T []):=
 ⟨Nat.zero_le _,beq_eq_false_iff_ne.mpr (Ne.symm (Nat.ne_of_lt hb)),[],.nil,_,#[],0,Heap.get?_push_size _ rfl,⟨rfl,rfl,rfl⟩,rfl,rfl,List.nodup_nil⟩
noncomputable def aac:TE:=λ_ H Q=>∀p,H p=none->Q (.ref p) (upd H p (.dK []))
noncomputable def Z5 (K:W.Frag):TE:=λ_ H Q=>∀p,H p=none->Q (.ref p) (upd H p (.dT (KTp K) []))
section
variable {X:Cx}{pos:Pos}
theorem Ri:PE X (.Dict [] [] pos) aac:=λpins s σ H Q I h=>
 wpAny_Dict_empty ⟨.ref s.heap.objs.size,_,I.laid (a:=s.heap.objs.size) (o:=.dK []) (t':=s.toks) (λ_ _ q=>Heap.get?_push_of_some _ q) (Nat.le_refl _) (G4 s.heap I.big),rfl,h _ (I.hok.fresh (Nat.le_refl _))⟩
theorem T6:PE X (.Dict [] [] pos) (Z5 X.K):=λpins s σ H Q I h=>
 wpAny_Dict_empty ⟨.ref s.heap.objs.size,_,I.laid (a:=s.heap.objs.size) (o:=.dT (KTp X.K) []) (t':=s.toks) (λ_ _ q=>Heap.get?_push_of_some _ q) (Nat.le_refl _) (Hl s.heap I.big),rfl,h _ (I.hok.fresh (Nat.le_refl _))⟩
end
noncomputable def Aq:List (TE×TE)->St->Hp->(List (V×V)->Hp->Prop)->Prop
 |[],_,H,Q=>Q [] H
 |(tk,tv)::r,σ,H,Q=>tk σ H λx H1=>tv σ H1 λy H2=>Aq r σ H2 λps H3=>Q ((x,y)::ps) H3
noncomputable abbrev VV:List (V×V)->List (Value×Value)->Prop:=Paired λp q=>RelV p.1 q.1/\RelV p.2 q.2
noncomputable def PPs (X:Cx)(pos:Pos)(keys:List (Option Expr))(values:List Expr)(trs:List (TE×TE)):Prop:=
 ∀(pins:List (Addr×Obj)) (s:Shared) (σ:St) (H:Hp) (Q:List (V×V)->Hp->Prop),Inv X pins σ H s->Aq trs σ H Q->
  wpAny (model X.prog X.w) X.A (evalPairs (pairTrees keys values X.env pos)) (λvs s'=>∃ps H',Inv X pins σ H' s'/\VV ps vs/\Q ps H') X.xe s
theorem WX {X:Cx}{pos:Pos}:PPs X pos [] [] []:=λpins s σ H Q I h=>pairTrees_nil_walk ⟨[],H,I,.nil,h⟩
theorem tK {X:Cx}{pos:Pos}{k v:Expr}{ks:List (Option Expr)}{vs:List Expr}{tk tv:TE}{trs:List (TE×TE)}(hk:PE X k tk)(hv:PE X v tv)(hr:PPs X pos ks vs trs):
  PPs X pos (some k::ks) (v::vs) ((tk,tv)::trs):=λpins s σ H Q I h=>
 pairTrees_cons_walk (thn (hk pins s σ H _ I h) λu s1 ⟨x,H1,I1,rx,q1⟩=>thn (hv pins s1 σ H1 _ I1 q1) λw2 s2 hE=>xq2 hE λy H2 I2 ry q2=>
  thn (hr pins s2 σ H2 _ I2 q2) λws s3 ⟨ps,H3,I3,rel,q3⟩=>⟨(x,y)::ps,H3,I3,.cons ⟨rx,ry⟩ rel,q3⟩)
noncomputable def nY (kvs more:List (Key×V)):List (Key×V):=more.foldl (λacc kv=>putK acc kv.1 kv.2) kvs
theorem KV.merge:∀{more:List (Key×V)} {rs:List (Key×Value)} {kvs:List (Key×V)} {vs:List (Key×Value)},KV more rs->KV kvs vs->KV (nY kvs more) (merged vs rs):=by
 intro more rs kvs vs r
 unfold KV at r
 induction r generalizing kvs vs with
 |nil=>intro q; exact q
 | @cons p q ps qs h t ih=>
  intro r0
  have e:KV (putK kvs p.1 p.2) (stored vs q.1 q.2):=by
   have:=r0.put p.1 h.2
   rw [← h.1]; exact this
  exact ih e
theorem uv:∀(more kvs:List (Key×V)),(nY kvs more).length<=kvs.length+more.length
 |[],kvs=>by show kvs.length<=kvs.length+0; omega
 |p::r,kvs=>by
  have h1:=uv r (putK kvs p.1 p.2)
  have h2:=sZ kvs p.1 p.2
  show (nY (putK kvs p.1 p.2) r).length<=_
  rw [List.length_cons]; omega
theorem Ag {P:Program}{w:World}:∀{kvs:List (Key×V)} {ws:List (Value×Value)},VV (kvs.map λkv=>(kV kv.1,kv.2)) ws->∃rs,Carries (jT P w) ws rs/\KV kvs rs
 |[],_,r=>by rw [List.map_nil] at r; cases r; exact ⟨[],True.intro,.nil⟩
 |p::kvs,_,r=>by
  rw [List.map_cons] at r
  cases r with
  | @cons a b as bs h t=>
   obtain ⟨rs,c,q⟩:=Ag (P:=P) (w:=w) t
   obtain ⟨b1,b2⟩:=b
   exact ⟨(p.1,b2)::rs,⟨HB h.1,rfl,c⟩,.cons ⟨rfl,h.2⟩ q⟩
noncomputable def aaE (trs:List (TE×TE)):TE:=λσ H Q=>∀p,H p=none->Aq trs σ (upd H p (.dK [])) λps H2=>H2 p=some (.dK [])/\∃kvs:List (Key×V),ps=kvs.map (λkv=>(kV kv.1,kv.2))/\kvs.length<=15/\Q (.ref p) (upd H2 p (.dK (nY [] kvs)))
theorem V1 {X:Cx}{pos:Pos}{keys:List (Option Expr)}{values:List Expr}{trs:List (TE×TE)}(h:PPs X pos keys values trs)(hall:keys.all (·.isSome)=true)(hl:keys.length=values.length)(h0:keys≠[])
  (h15:keys.length<=15):PE X (.Dict keys values pos) (aaE trs):=by
 intro pins s σ H Q I q
 have hn:=I.hok.fresh (Nat.le_refl s.heap.objs.size)
 have I1:=I.laid (a:=s.heap.objs.size) (o:=.dK []) (h':=s.heap.push { cls:=.type "dict",data:=.dict #[] }) (t':=s.toks) (λ_ _ q=>Heap.get?_push_of_some _ q) (Nat.le_refl _) (G4 s.heap I.big)
 refine wpAny_Dict_walk (knd:=jT X.prog X.w) hall hl h0 h15 (thn (h pins _ σ _ _ I1 (q _ hn)) λws s2 ⟨ps,H2,I2,rel,e,kvs,ep,lk,q2⟩=>?_)
 subst ep
 obtain ⟨rs,c,rk⟩:=Ag (P:=X.prog) (w:=X.w) rel
 obtain ⟨z,hd,vs0,r0,dd⟩:=X8 I2.hok e
 cases r0
 refine ⟨rs,c,dd,λh' dd' hs=>⟨.ref s.heap.objs.size,_,?_,rfl,q2⟩⟩
 have hz:(nY [] kvs).length<=sizeLine:=by
  have h1:=uv kvs []
  rw [List.length_nil] at h1
  rw [sizeLine_eq]; omega
 have he:∃q,h'.get? s.heap.objs.size=some q:=let ⟨q,_,_,hq,_⟩:=dd'; ⟨q,hq⟩
 exact vo I2 (by rw [e]; exact True.intro) hs he (Ru hz hd (rk.merge .nil) dd')
structure M2 (X:Cx)(o:Expr)(m:Str)(apos:Pos)(e f:Expr)(cpos:Pos):Prop where
 base:attributeBase o m X.env (eval o X.env)=eval o X.env
 few:((backTo cpos (starEach [e,f] X.env)).all (λx=>!x.1) && (backToKw cpos (keywordEach [] X.env)).all (λx=>x.1.isSome)
  && decide (([e,f]:List Expr).length+([]:List Keyword).length+(if ([]:List Keyword).isEmpty then 0 else 1)<30))=true
 line:(apos.endLine == cpos.line)=true
 trees:backTo cpos (starEach [e,f] X.env)=[(false,eval e X.env),(false,eval f X.env)]
noncomputable def IsD (K:W.Frag)(H:Hp)(a:Addr):Prop:=(∃kvs,Rd H a (.dK kvs))\/∃kvs,Rd H a (.dT (KTp K) kvs)
theorem ZK {X:Cx}{pins:List (Addr×Obj)}{σ:St}{H:Hp}{s:Shared}{a:Addr}(I:Inv X pins σ H s)(d:IsD X.K H a):
  s.TypeIs (.ref a) "dict"/\(∀b,Value.ref a=.ref b->∃ob,s.heap.get? b=some ob/\ob.dict=none)/\(a == sysModules)=false:=by
 rcases d with ⟨kvs,e⟩ | ⟨kvs,e⟩
 ·obtain ⟨_,hd,vs,_,dd⟩:=Ca I.hok e
  refine ⟨dd.typeIs,λb q=>?_,hd⟩
  cases q
  obtain ⟨ob,_,_,h1,h2,_⟩:=dd
  exact ⟨ob,h1,h2.2.1⟩
 ·obtain ⟨_,hd,xs,_,dd⟩:=Ik (Ac I) I.hok e
  refine ⟨dd.typeIs,λb q=>?_,hd⟩
  cases q
  obtain ⟨ob,_,_,h1,h2,_⟩:=dd
  exact ⟨ob,h1,h2.2.1⟩
section
variable {X:Cx}{pins:List (Addr×Obj)}{σ:St}{H:Hp}{s:Shared}{a:Addr}{y d:V}{u r:Value}{o:Option V}{A:Around}{E:Value->Shared->Prop}
end
section
variable {X:Cx}{o e f:Expr}{apos cpos:Pos}{td ty tx:TE}
end
section
variable {X:Cx}{pins:List (Addr×Obj)}{σ:St}{H:Hp}{s:Shared}{a:Addr}{kvs:List (Key×V)}{A:Around}{E:Value->Shared->Prop}
end
section
variable {X:Cx}{pins:List (Addr×Obj)}{σ:St}{H:Hp}{s:Shared}{a:Addr}{y:V}{u:Value}{A:Around}{E:Value->Shared->Prop}
end
open PySem PySem.Spec PyProof.Rows
section
variable {X:Cx}
theorem OJ:kJ X (.builtin "len") (λxs H Q=>∃a kvs,xs=[V.ref a]/\H a=some (.dK kvs)/\Q (.int kvs.length) H):=by
 intro pins s σ H xs us Q I r h
 obtain ⟨a,kvs,rfl,ha,q⟩:=h
 obtain ⟨u,rfl,ru⟩:=vals1 r
 cases ru
 exact aby I (.inl ha) λt s' I'=>⟨.int kvs.length,H,I',⟨t,rfl⟩,q⟩
end
section
variable {κ:Type}[DecidableEq κ]
end
end L2
namespace Hd
open PySem PySem.Spec PyProof.Rows L2
theorem bQ {H:Hp}{p:Addr}(h:H p=none)(o:HO):aL H (upd H p o):=λb u q=>by
 rw [cO (my q h)]
 exact q
section
variable {X:Cx}{e:Expr}{es:List Expr}{pos:Pos}
theorem bJ {T T':TE}(h:PE X e T)(k:∀σ H Q,T' σ H Q->T σ H Q):PE X e T':=λpins s σ H Q I q=>h pins s σ H Q I (k σ H Q q)
noncomputable def clA (t:TA):TA:=λσ H Q=>∃R,t σ H R/\∀xs H1,R xs H1->Q xs H1
theorem Yr {t:TA}(h:PA X es t):PA X es (clA t):=λpos pins s σ H Q I ⟨R,hR,k⟩=>thn (h pos pins s σ H R I hR) λ_ _ hE=>xq2 hE λvs H1 I1 r q=>⟨vs,H1,I1,r,k _ _ q⟩
noncomputable def abC (t:TA):TE:=λσ H Q=>t σ H λxs H1=>xs.length<=sizeLine/\∀p H',aL H1 H'->H' p=some (.tup xs)->Q (.ref p) H'
theorem N7 {x1}{t:TA}(h:PA X es t):PE X (.Tuple es x1 pos) (abC t):=
 bJ (Zh (Yr h)) λ_ _ _ q=>⟨_,q,λ_ _ ⟨z,k⟩=>⟨z,λp hp=>k p _ (bQ hp _) bA⟩⟩
end
open PySem PySem.Spec PyProof.Rows L2
noncomputable abbrev dC (X:Cx)(N':List Str)(scope:Scope)(cl:List (Str×Addr))(C:Addr)(sE:Shared)(HE:Hp)(fp:List Addr)(pins:List (Addr×Obj)):Cx:=
 { X with N:=N',s₀:=sE,H₀:=HE,env:=compEnvC scope cl C X.env,outer:=X.stack,ex:=fp,fn:=λ_=>false,pn:=X.pn++pins,xe:=λ_ _=>False }
structure CSc (sc scope:Scope)(caps:List Str):Prop where
 kind:scope.kind=.function
 nocell:∀y∈scope.names,y.2≠.cell
 loc:∀y∈scope.names,y.2=.local->scope.names.lookup y.1=some .local
 free:∀y∈scope.names,y.2=.free->sc.names.lookup y.1=some .cell\/sc.names.lookup y.1=some .free
 caps:∀x∈caps,scope.names.lookup x=some .free/\(sc.names.lookup x=some .cell\/sc.names.lookup x=some .free)
theorem mem_of_lookup {β:Type}:∀{l:List (Str×β)} {x:Str} {k:β},l.lookup x=some k->(x,k)∈l
 |[],_,_,h=>by simp at h
 |(n,k')::r,x,k,h=>by
  rw [List.lookup_cons] at h
  split at h
  ·rename_i e
   have e':x=n:=by simpa using e
   cases h
   rw [e']
   exact List.mem_cons_self
  ·exact List.mem_cons_of_mem _ (mem_of_lookup h)
theorem vR {env:Env}:∀{names:List (Str×NameKind)} {x:Str},names.lookup x=some .free->
  (names.map λ(n,k)=>if (k == NameKind.free && env.scope.kind == .function && env.kindOf n == some .cell) then (n,NameKind.cell) else (n,k)).lookup x=some .cell ∨
  (names.map λ(n,k)=>if (k == NameKind.free && env.scope.kind == .function && env.kindOf n == some .cell) then (n,NameKind.cell) else (n,k)).lookup x=some .free
 |[],_,h=>by simp at h
 |(n,k)::r,x,h=>by
  have ih:=@vR env r x
  show List.lookup x ((if (k == NameKind.free && env.scope.kind == .function && env.kindOf n == some .cell)=true then (n,NameKind.cell) else (n,k))::_)=_\/List.lookup x ((if (k == NameKind.free && env.scope.kind == .function && env.kindOf n == some .cell)=true then (n,NameKind.cell) else (n,k))::_)=_
  cases hx:x == n with
  |true=>
   simp only [List.lookup_cons,hx] at h
   cases h
   by_cases hc:(NameKind.free == NameKind.free && env.scope.kind == .function && env.kindOf n == some .cell)=true
   ·rw [if_pos hc]; simp only [List.lookup_cons,hx]; exact .inl trivial
   ·rw [if_neg hc]; simp only [List.lookup_cons,hx]; exact .inr trivial
  |false=>
   simp only [List.lookup_cons,hx] at h
   by_cases hc:(k == NameKind.free && env.scope.kind == .function && env.kindOf n == some .cell)=true
   ·rw [if_pos hc]; simp only [List.lookup_cons,hx]; exact ih h
   ·rw [if_neg hc]; simp only [List.lookup_cons,hx]; exact ih h
theorem zQ {env:Env}:∀{names:List (Str×NameKind)} {x:Str},(∀y∈names,y.2≠.cell)->
  ((names.map λ(n,k)=>if (k == NameKind.free && env.scope.kind == .function && env.kindOf n == some .cell) then (n,NameKind.cell) else (n,k)).lookup x=some .cell ∨
  (names.map λ(n,k)=>if (k == NameKind.free && env.scope.kind == .function && env.kindOf n == some .cell) then (n,NameKind.cell) else (n,k)).lookup x=some .free)->names.lookup x=some .free
 |[],_,_,h=>by simp at h
 |(n,k)::r,x,hn,h=>by
  have ih:=@zQ env r x (λy hy=>hn y (List.mem_cons_of_mem _ hy))
  have h':List.lookup x ((if (k == NameKind.free && env.scope.kind == .function && env.kindOf n == some .cell)=true then (n,NameKind.cell) else (n,k))::_)=some .cell\/List.lookup x ((if (k == NameKind.free && env.scope.kind == .function && env.kindOf n == some .cell)=true then (n,NameKind.cell) else (n,k))::_)=some .free:=h
  have hk:k≠.cell:=hn (n,k) List.mem_cons_self
  by_cases hc:(k == NameKind.free && env.scope.kind == .function && env.kindOf n == some .cell)=true
  ·rw [if_pos hc] at h'
   have kf:k=.free:=by
    simp only [Bool.and_eq_true,beq_iff_eq] at hc
    exact hc.1.1
   subst kf
   cases hx:x == n with
   |true=>simp only [List.lookup_cons,hx]
   |false=>
    simp only [List.lookup_cons,hx] at h' ⊢
    exact ih h'
  ·rw [if_neg hc] at h'
   cases hx:x == n with
   |true=>
    simp only [List.lookup_cons,hx] at h' ⊢
    rcases h' with z | z
    ·exact absurd (Option.some.inj z) hk
    ·exact z
   |false=>
    simp only [List.lookup_cons,hx] at h' ⊢
    exact ih h'
theorem uH {env:Env}:∀(names:List (Str×NameKind)) (acc:List (Str×Addr)),(∀y∈names,y.2=.free->∃c,env.cells.lookup y.1=some c)->
  ∃cl,(forIn names acc λ(y:Str×NameKind) (cs:List (Str×Addr))=>(if y.2 == .free then do let c ← cellOf env y.1; pure (ForInStep.yield ((y.1,c)::cs)) else pure (ForInStep.yield cs):Sem (ForInStep (List (Str×Addr)))))=pure cl/\
   (∀x c,cl.lookup x=some c->acc.lookup x=some c\/env.cells.lookup x=some c)/\(∀x c,acc.lookup x=some c->∃c',cl.lookup x=some c')/\∀y∈names,y.2=.free->∃c,cl.lookup y.1=some c
 |[],acc,_=>⟨acc,rfl,λ_ _ e=>.inl e,λ_ c e=>⟨c,e⟩,λ_ z=>nomatch z⟩
 |(n,k)::r,acc,h=>by
  have hr:∀y∈r,y.2=.free->∃c,env.cells.lookup y.1=some c:=λy hy=>h y (List.mem_cons_of_mem _ hy)
  by_cases hk:(k == NameKind.free)=true
  ·obtain ⟨c,hc⟩:=h (n,k) List.mem_cons_self (by simpa using hk)
   obtain ⟨cl,e,h1,h2,h3⟩:=uH r ((n,c)::acc) hr
   refine ⟨cl,?_,λx d q=>?_,λx d q=>?_,λy hy q=>?_⟩
   ·have ec:cellOf env n=pure c:=by unfold cellOf; rw [show env.cells.lookup n=some c from hc]
    rw [List.forIn_cons]
    simp only [hk,if_true,ec,pure_bind]
    exact e
   ·rcases h1 x d q with z | z
    ·rw [List.lookup_cons] at z
     split at z
     ·rename_i e1
      have e1':x=n:=by simpa using e1
      cases z
      rw [e1']
      exact .inr hc
     ·exact .inl z
    ·exact .inr z
   ·by_cases e1:(x == n)=true
    ·exact h2 x c (by rw [List.lookup_cons,e1])
    ·exact h2 x d (by rw [List.lookup_cons]; simp only [Bool.not_eq_true] at e1; rw [e1]; exact q)
   ·rcases List.mem_cons.mp hy with z | z
    ·subst z
     exact h2 n c (by rw [List.lookup_cons]; simp)
    ·exact h3 y z q
  ·obtain ⟨cl,e,h1,h2,h3⟩:=uH r acc hr
   refine ⟨cl,?_,h1,h2,λy hy q=>?_⟩
   ·rw [List.forIn_cons]
    simp only [hk,if_false,pure_bind,Bool.false_eq_true]
    exact e
   ·rcases List.mem_cons.mp hy with z | z
    ·subst z
     exact absurd (show (k == NameKind.free)=true by simpa using q) hk
    ·exact h3 y z q
theorem xU {scope:Scope}{env:Env}(h:∀y∈scope.names,y.2=.free->∃c,env.cells.lookup y.1=some c):
  ∃cl,closureFor scope env=pure cl/\(∀x c,cl.lookup x=some c->env.cells.lookup x=some c)/\∀y∈scope.names,y.2=.free->∃c,cl.lookup y.1=some c:=by
 obtain ⟨cl,e,h1,_,h3⟩:=uH scope.names [] h
 refine ⟨cl,?_,λx c q=>(h1 x c q).elim (λz=>by simp at z) id,h3⟩
 unfold closureFor
 simp only [bind_pure]
 refine Eq.trans ?_ e
 rfl
section
variable {X:Cx}{pins:List (Addr×Obj)}{σ:St}{HE:Hp}{sE:Shared}{N':List Str}{scope sc:Scope}{cl:List (Str×Addr)}{fp:List Addr}{caps:List Str}
theorem Xx (I:Inv X pins σ HE sE)(S:CSc sc scope caps)(hfp:∀b∈fp,wL X pins HE b/\b<sE.heap.objs.size)
  (hc1:∀x c,cl.lookup x=some c->X.env.cells.lookup x=some c) (hc2:∀y∈scope.names,y.2=.free->∃c,cl.lookup y.1=some c):
  (dC X N' scope cl sE.heap.objs.size sE HE fp pins).Ok where
 mod:=I.ok.mod
 kind:=S.kind
 glob:=I.ok.glob
 blt:=I.ok.blt
 above:=Nat.le_refl _
 inj:=λx y c h1 h2=>I.ok.inj x y c (hc1 x c h1) (hc1 y c h2)
 has:=λx h=>hc2 (x,.free) (mem_of_lookup (zQ S.nocell h)) rfl
 cab:=λx c h=>nomatch h
 hd:=I.ok.hd
 frames:=I.ok.frames
 stk:=.inl rfl
 exf:=λb hb=>⟨Nat.ne_of_lt (hfp b hb).2,λx c h=>(hfp b hb).1.2.2.2.2.1 x c (hc1 x c h)⟩
 bs:=I.bs
 bsz:=Nat.le_trans I.ok.bsz I.sz
 noex:=λb o e hb=>by
  rcases (hfp b hb).1.2.2.2.1 with z | z
  ·exact I.ok.noex b o e z
  ·exact absurd (Nat.lt_of_lt_of_le (Heap.lt_size e) (Nat.le_trans I.ok.bsz z)) (Nat.lt_irrefl _)
 exfs:=λb hb hz=>by
  rcases List.mem_cons.mp (I.Ge b hz) with z | z
  ·exact (hfp b hb).1.2.1 z
  ·exact (hfp b hb).1.2.2.1 z
 ym:=I.stack
 frf:=I.MT
theorem Qv {k:Nat}{cap:List Nat}{h':Heap}(I:Inv X pins σ HE sE)(S:CSc sc scope caps)(hsc:X.env.scope=sc)(hfp:∀b∈fp,wL X pins HE b/\b<sE.heap.objs.size)
  (hc1:∀x c,cl.lookup x=some c->X.env.cells.lookup x=some c) (hc2:∀y∈scope.names,y.2=.free->∃c,cl.lookup y.1=some c)
  (hN:N'.drop k=caps) (hk:k<=N'.length) (hcap:Paired (λj x=>X.N[j]? = some x) cap caps) {m:Str->Option Value}
  (kp:∀b o,sE.heap.get? b=some o->h'.get? b=some o) (hns:h'.Ns sE.heap.objs.size m) (tk:Nat):
  Inv (dC X N' scope cl sE.heap.objs.size sE HE fp pins) [] (List.replicate k none++cap.map λj=>(σ[j]?).join) HE { sE with heap:=h',toks:=tk } where
 ok:=Xx I S hfp hc1 hc2
 os:=rfl
 bare:=I.bare
 base:=Un.kept kp
 loc:=by
  refine ⟨m,hns,λi x v e1 e2 e3=>?_⟩
  have hik:k<=i:=by
   by_cases z:k<=i
   ·exact z
   ·rw [List.getElem?_append_left (by simp; omega),List.getElem?_replicate] at e2
    rw [if_pos (by omega)] at e2
    cases e2
  obtain ⟨j',rfl⟩:∃j',i=k+j':=⟨i - k,by omega⟩
  rw [List.getElem?_append_right (by simp),List.length_replicate,Nat.add_sub_cancel_left,List.getElem?_map] at e2
  have hx:caps[j']? = some x:=by rw [← hN,List.getElem?_drop]; exact e1
  have:∀{l:List Nat} {l':List Str} {i:Nat},Paired (λj x=>X.N[j]? = some x) l l'->l'[i]? = some x->∃j,l[i]? = some j/\X.N[j]? = some x:=by
   intro l l' i p
   induction p generalizing i with
   |nil=>intro z; simp at z
   |cons a _ ih=>
    intro z
    cases i with
    |zero=>simp at z; subst z; exact ⟨_,rfl,a⟩
    |succ i=>exact ih (by simpa using z)
  obtain ⟨j,hj,hNj⟩:=this hcap hx
  rw [hj] at e2
  have e2':σ[j]? = some (some v):=by
   cases q:σ[j]? with
   |none=>rw [Option.map_some,q] at e2; cases e2
   |some o=>
    rw [Option.map_some,q] at e2
    have:o=some v:=Option.some.inj e2
    rw [this]
  obtain ⟨hxf,hxo⟩:=S.caps x (List.mem_of_getElem? hx)
  rw [← hsc] at hxo
  obtain ⟨m0,_,hl⟩:=I.loc
  obtain ⟨u,r,L⟩:=hl j x v hNj e2' (hxo.elim (λz=>.inr (.inl z)) λz=>.inr (.inr z))
  refine ⟨u,r,.inr ⟨vR hxf,?_⟩⟩
  rcases L with ⟨z,_⟩ | ⟨_,c,hc,hcell⟩
  ·have z':X.env.scope.names.lookup x=some .local:=z
   rcases hxo with q | q <;> rw [z'] at q <;> cases q
  ·obtain ⟨c',hc'⟩:=hc2 (x,.free) (mem_of_lookup hxf) rfl
   have e:=hc1 x c' hc'
   rw [hc] at e
   cases e
   obtain ⟨o,ho,hd⟩:=hcell
   exact ⟨c,hc',o,kp c o ho,hd⟩
 cell:=λx c e=>by
  obtain ⟨v,o,ho,hd⟩:=I.cell x c (hc1 x c e)
  exact ⟨v,o,kp c o ho,hd⟩
 free:=I.hok.fresh (Nat.le_refl _)
 freeC:=λx c e=>I.freeC x c (hc1 x c e)
 pin:=λp hp=>by
  rw [List.append_nil] at hp
  obtain ⟨e,n,ne,nf,d⟩:=I.pin p hp
  refine ⟨kp _ _ e,n,Nat.ne_of_lt (Heap.lt_size e),λz=>?_,d⟩
  rcases List.mem_cons.mp (I.Ge p.1 z) with q | q
  ·exact ne q
  ·exact nf q
 hok:=I.hok.kept kp
 len:=by
  show (List.replicate k none++cap.map λj=>(σ[j]?).join).length=N'.length
  have:=hcap.length
  rw [← hN,List.length_drop] at this
  simp
  omega
theorem comp_back {σ':St}{H':Hp}{s':Shared}{p':List (Addr×Obj)}(I:Inv X pins σ HE sE)(hfp:∀b∈fp,wL X pins HE b/\b<sE.heap.objs.size)
  (I':Inv (dC X N' scope cl sE.heap.objs.size sE HE fp pins) p' σ' H' s'):Inv X pins σ H' s':=
 I.call' (ch:=fp) I'.os I'.base I'.hok I'.bare λb hb=>⟨(hfp b hb).1.2.2.2.1,(hfp b hb).1.2.1,(hfp b hb).1.2.2.2.2.1,(hfp b hb).1.2.2.2.2.2⟩
end
theorem IV {X:Cx}{pins:List (Addr×Obj)}{σ σ':St}{HE H':Hp}{sE s':Shared}{h':Heap}(I:Inv X pins σ HE sE)(I':Inv X pins σ' H' s')(hn:H' sE.heap.objs.size=none)
  (hs:Heap.SameBut sE.heap.objs.size s'.heap h'):Inv X pins σ' H' { s' with heap:=h' }:=by
 refine I'.turned (t':=s'.toks) (λb o hb e=>(hs.2 b hb).trans e) hn (Nat.ne_of_gt I.lt) (.inr I.sz) (λx c e z=>?_) (λp hp z=>?_)
 ·obtain ⟨v,q⟩:=I.cell x c e
  exact absurd q.lt (by rw [z]; exact Nat.lt_irrefl _)
 ·exact absurd (Heap.lt_size (I.pin p hp).1) (by rw [z]; exact Nat.lt_irrefl _)
noncomputable def Oz (X:Cx)(ifs:List Expr)(t:TT):Prop:=
 ∀(pins:List (Addr×Obj)) (s:Shared) (σ:St) (H:Hp) (Q:Bool->Hp->Prop),Inv X pins σ H s->t σ H Q->
  wpAny (model X.prog X.w) X.A (forIn ifs true λc r=>if r=true then do let ok ← isTrue c X.env (eval c X.env); pure (ForInStep.yield ok) else pure (ForInStep.yield r)) (TP X pins σ Q) X.xe s
noncomputable def acD:TT:=λ_ H Q=>Q true H
theorem Vb {X:Cx}:Oz X [] acD:=λ_ _ _ H _ I q=>wpAny_tests_nil ⟨H,I,q⟩
theorem Vg {X:Cx}{c:Expr}{t:TT}(h:PT X c t):Oz X [c] t:=λpins s σ H Q I q=>wpAny_tests_one (h pins s σ H Q I q)
noncomputable def cSt (k:Nat)(cap:List Nat)(σ:St):St:=List.replicate k none++cap.map λj=>(σ[j]?).join
noncomputable def abo (J:It)(k:Nat)(cap:List Nat)(g:TG)(tt:TT)(te:TE)(σ:St)(H1:Hp)(l:Addr)(Q:VK):Prop:=
 ∃W:Nat->Nat->List V->Hp->Prop,(∃m,W 0 m [] (upd H1 l (.lst [])))/\∀i m ys H,W i m ys H->
  (J.stop i H/\Q (.ref l) H)\/(J.go i H/\∀x H',J.yld i H x H'->g x (cSt k cap σ) H' λσ2 H3=>σ2.drop k=(cSt k cap σ).drop k/\tt σ2 H3 λb H4=>
   if b=true then te σ2 H4 λy H5=>H5 l=some (.lst ys)/\ys.length<sizeLine/\∃m',m'<m/\W (i+1) m' (ys++[y]) (upd H5 l (.lst (ys++[y])))
   else ∃m',m'<m/\W (i+1) m' ys H4)
noncomputable def Mm (k:Nat)(cap:List Nat)(wi:TI)(g:TG)(tt:TT)(te:TE):TE:=λσ H Q=>wi σ H λJ H1=>∀l,H1 l=none->abo J k cap g tt te σ H1 l Q
section
variable {X:Cx}{tg iter elt:Expr}{ifs:List Expr}{sc scope:Scope}{caps N':List Str}{cap:List Nat}{k:Nat}{wi:TI}{g:TG}{tt:TT}{te:TE}{pos:Pos}
theorem Hf {pins:List (Addr×Obj)}{s:Shared}{σ:St}{H:Hp}{Q:VK}(hcalm:X.calm=true)(S:CSc sc scope caps)(hsc:X.env.scope=sc)(hN:N'.drop k=caps)(hk:k<=N'.length)(hcap:Paired (λj x=>X.N[j]? = some x) cap caps)
  (hi:PI X tg iter wi) (hg:∀cl C sE HE fp pins,PG (dC X N' scope cl C sE HE fp pins) tg g) (ht:∀cl C sE HE fp pins,Oz (dC X N' scope cl C sE HE fp pins) ifs tt) (he:∀cl C sE HE fp pins,PE (dC X N' scope cl C sE HE fp pins) elt te)
  (I:Inv X pins σ H s) (h:Mm k cap wi g tt te σ H Q) {cl:List (Str×Addr)} (hc1:∀x c,cl.lookup x=some c->X.env.cells.lookup x=some c) (hc2:∀y∈scope.names,y.2=.free->∃c,cl.lookup y.1=some c)
  {RR:Value->Addr->Result->Shared->Prop}
  (hRR:∀l sE HE H' s' m,Inv X pins σ HE sE->Inv X pins σ H' s'->H' sE.heap.objs.size=none->s'.heap.Ns sE.heap.objs.size m->Q (.ref l) H'->RR (.ref l) sE.heap.objs.size (.ok .next) s'):
  wpAny (model X.prog X.w) X.A (eval iter X.env) (λxv s₁=>wpAny (model X.prog X.w) X.A (pyIter xv) (λit s₂=>wpAny (model X.prog X.w) X.A (newList []) (λacc s₃=>
   wpAny (model X.prog X.w) X.A (newFunctionEnv scope X.env.globals cl [] X.env.qual none .none (some X.env)) (λcenv s₄=>
    codeAny (model X.prog X.w) X.A (.compStart (.ListComp elt [⟨tg,iter,ifs,0⟩] scope pos) 0 it acc { cenv with scope:=relabel scope X.env }) (RR acc cenv.locals) s₄) X.xe s₃) X.xe s₂) X.xe s₁) X.xe s:=by
 refine thn (hi pins s σ H _ I h) λv s1 h1=>thn h1 λitv s2 h2=>?_
 obtain ⟨it,fp,tn,J,H1,e,I1,T,st1,f1,q1⟩:=h2
 subst e
 refine wpAny_newList ?_
 have hfree:H1 s2.heap.objs.size=none:=I1.hok.fresh (Nat.le_refl _)
 have fpl:∀b∈fp,b<s2.heap.objs.size:=λb hb=>by
  obtain ⟨o,e,_⟩:=T.obj _ _ st1 b hb
  exact Heap.lt_size e
 generalize hE:({ s2 with heap:=s2.heap.push { cls:=.type "list",data:=.seq ([]:List Value).toArray } }:Shared)=sE
 have k2:∀b o,s2.heap.get? b=some o->sE.heap.get? b=some o:=λb o e=>by rw [← hE]; exact Heap.get?_push_of_some _ e
 have szE:s2.heap.objs.size<sE.heap.objs.size:=by rw [← hE]; show _<(s2.heap.push _).objs.size; rw [Heap.size_push]; exact Nat.lt_succ_self _
 have IE:Inv X pins σ (upd H1 s2.heap.objs.size (.lst [])) sE:=by
  rw [← hE]
  refine I1.laid (t':=s2.toks) (λb o e=>Heap.get?_push_of_some _ e) (Nat.le_refl _) ?_
  exact ⟨Nat.zero_le _,[],0,.nil,Heap.get?_push_size _ rfl⟩
 have fE:∀b∈fp,wL X pins (upd H1 s2.heap.objs.size (.lst [])) b/\b<sE.heap.objs.size:=λb hb=>
  ⟨⟨by rw [cO (Nat.ne_of_lt (fpl b hb))]; exact (f1 b hb).1,(f1 b hb).2⟩,Nat.lt_trans (fpl b hb) szE⟩
 obtain ⟨W,⟨m0,w0⟩,turn⟩:=q1 _ hfree
 generalize hl:s2.heap.objs.size=l at *
 clear hl
 generalize hHE:upd H1 l (.lst [])=HE at *
 refine wpAny_newFunctionEnv S.nocell (by intro y hy; simp at hy) (λh₁ hns₁ hsb₁=>?_) S.kind
 have kE:∀b o,sE.heap.get? b=some o->h₁.get? b=some o:=λb o e=>(hsb₁.2 b (Nat.ne_of_lt (Heap.lt_size e))).trans (Heap.get?_push_of_some _ e)
 have I0:=Qv (k:=k) (cap:=cap) (N':=N') IE S hsc fE hc1 hc2 hN hk hcap kE hns₁ (sE.toks+([]:List (Str×Value)).length)
 have st0:tn 0 h₁:=T.keep _ _ _ st1 λb hb o e=>kE b o (k2 b o e)
 have hX:∀{H':Hp},(∀b∈fp,H' b=none)->∀b∈fp,wL (dC X N' scope cl sE.heap.objs.size sE HE fp pins) [] H' b:=λhn b hb=>
  ⟨hn b hb,(I0.ok.exf b hb).1,I0.ok.exfs b hb,.inl hb,(I0.ok.exf b hb).2,λp hp=>by
   rw [List.append_nil] at hp
   exact (fE b hb).1.2.2.2.2.2 p hp⟩
 have loop:∀s₃:Shared,s₃={ sE with heap:=h₁,toks:=sE.toks+([]:List (Str×Value)).length }->
   codeAny (model X.prog X.w) X.A (.compLoop (.ListComp elt [⟨tg,iter,ifs,0⟩] scope pos) 0 (.ref it) (.ref l) (compEnvC scope cl sE.heap.objs.size X.env)) (RR (.ref l) sE.heap.objs.size) s₃:=by
  rintro s₃ rfl
  refine codeAny_loop rfl (λn s'=>∃i ys H',Inv (dC X N' scope cl sE.heap.objs.size sE HE fp pins) [] (cSt k cap σ) H' s'/\tn i s'.heap/\(∀b∈fp,H' b=none)/\W i n ys H') (λn s3 hI=>?_) m0
   ⟨0,[],HE,I0,st0,λb hb=>(fE b hb).1.1,w0⟩
  obtain ⟨i,ys,H3,I3,st3,fr3,w3⟩:=hI
  show wpAny _ X.A ((compTurn (.ListComp elt [⟨tg,iter,ifs,0⟩] scope pos) 0 (.ref it) (.ref l) (compEnvC scope cl sE.heap.objs.size X.env)).onRaise (λx=>do noteFrame x (compEnvC scope cl sE.heap.objs.size X.env); theTreesLotGoes x)) _ _ s3
  refine wpAny_noted ?_
  rw [compTurn_list]
  refine wpAny_bind (wpAny_standAt (wpAny_bind ?_))
  rcases turn i n ys H3 w3 with ⟨stop,qn⟩ | ⟨go,step⟩
  ·refine wpAny_mono (T.done (dC X N' scope cl sE.heap.objs.size sE HE fp pins) rfl rfl rfl hcalm i [] s3 _ H3 (λ_ _=>False) I3 (hX fr3) st3 stop) (λr s4 ⟨hr,I4⟩=>?_) λ_ _ z=>z.elim
   subst hr
   obtain ⟨m4,hn4,_⟩:=I4.loc
   exact wpAny_pure (hRR l sE HE H3 s4 m4 IE (comp_back IE fE I4) I4.free hn4 qn)
  ·refine wpAny_mono (T.item (dC X N' scope cl sE.heap.objs.size sE HE fp pins) rfl rfl rfl hcalm i [] s3 _ H3 (λ_ _=>False) I3 (hX fr3) st3 go) (λr s4 ⟨u,hr,h4⟩=>?_) λ_ _ z=>z.elim
   subst hr
   refine wpAny_bind (wpAny_mono h4 (λ_ s5 ⟨x,H5,I5,r5,y5,st5,fr5⟩=>?_) λ_ _ z=>z.elim)
   have I5':=I5.pinned (hX fr5) (T.obj _ _ st5)
   refine wpAny_bind (wpAny_mono (hg _ _ _ _ _ _ _ s5 _ H5 x u _ I5' r5 (step x H5 y5)) (λ_ s6 ⟨σ6,H6,I6,q6⟩=>?_) λ_ _ z=>z.elim)
   obtain ⟨d6,q6⟩:=q6
   have weak:∀{H7 s7},Inv (dC X N' scope cl sE.heap.objs.size sE HE fp pins) ([]++uD fp s5.heap) σ6 H7 s7->Inv (dC X N' scope cl sE.heap.objs.size sE HE fp pins) ([]++uD fp s5.heap) (cSt k cap σ) H7 s7:=λ{H7 s7} I7=>by
    refine I7.weak (I0.len.trans I7.len.symm) λj v e=>?_
    by_cases z:k<=j
    ·obtain ⟨j',rfl⟩:∃j',j=k+j':=⟨j - k,by omega⟩
     rw [← List.getElem?_drop] at e ⊢
     rw [d6]
     exact e
    ·unfold cSt at e
     rw [List.getElem?_append_left (by simp; omega),List.getElem?_replicate,if_pos (by omega)] at e
     cases e
   have again:∀{H7:Hp} {s7:Shared} {zs:List V},Inv (dC X N' scope cl sE.heap.objs.size sE HE fp pins) ([]++uD fp s5.heap) σ6 H7 s7->(∃m',m'<n/\W (i+1) m' zs H7)->
     ∃m,m<n/\∃i ys H',Inv (dC X N' scope cl sE.heap.objs.size sE HE fp pins) [] (cSt k cap σ) H' s7/\tn i s7.heap/\(∀b∈fp,H' b=none)/\W i m ys H':=λ{H7 s7 zs} I7 ⟨m',hm,w7⟩=>by
    refine ⟨m',hm,i+1,zs,H7,(weak I7).wy,T.keep _ _ _ st5 λb hb o e=>(I7.pin (b,o) (List.mem_append_right _ (List.mem_append_right _ (qI hb e)))).1,λb hb=>?_,w7⟩
    obtain ⟨o,e,d⟩:=T.obj _ _ st5 b hb
    exact (I7.pin (b,o) (List.mem_append_right _ (List.mem_append_right _ (qI hb e)))).2.1
   refine wpAny_bind (wpAny_mono (ht _ _ _ _ _ _ _ s6 σ6 H6 _ I6 q6) (λb s7 ⟨H7,I7,q7⟩=>?_) λ_ _ z=>z.elim)
   cases b with
   |false=>
    rw [if_neg Bool.false_ne_true] at q7
    exact wpAny_pure ⟨rfl,again I7 q7⟩
   |true=>
    rw [if_pos rfl] at q7
    refine wpAny_bind (wpAny_bind (wpAny_mono (he _ _ _ _ _ _ _ s7 σ6 H7 _ I7 q7) (λyv s8 ⟨y,H8,I8,r8,hl8,hz8,q8⟩=>?_) λ_ _ z=>z.elim))
    refine wpAny_bind (wpAny_mono (wX (X:=dC X N' scope cl sE.heap.objs.size sE HE fp pins) _ s8 σ6 H8 (.ref l) [y] (.ref l) [yv] (λ_ H9=>H9=upd H8 l (.lst (ys++[y]))) I8 rfl (.cons r8 .nil) ⟨l,ys,y,rfl,rfl,hl8,hz8,rfl⟩)
     (λ_ s9 ⟨_,H9,I9,_,e9⟩=>?_) λ_ _ z=>z.elim)
    subst e9
    exact wpAny_pure (wpAny_pure ⟨rfl,again I9 q8⟩)
 exact codeAny_compStart_list (loop _ rfl) (T.self _ 0 _ _ _ st0 (loop _ rfl))
theorem V3 (sc:Scope)(N' caps:List Str)(k:Nat)(cap:List Nat)(hcalm:X.calm=true)(S:CSc sc scope caps)(hcap:Paired (λj x=>X.N[j]? = some x) cap caps)
  (hi:PI X tg iter wi) (hg:∀cl C sE HE fp pins,PG (dC X N' scope cl C sE HE fp pins) tg g) (ht:∀cl C sE HE fp pins,Oz (dC X N' scope cl C sE HE fp pins) ifs tt) (he:∀cl C sE HE fp pins,PE (dC X N' scope cl C sE HE fp pins) elt te)
  (hsc:X.env.scope=sc:=by rfl) (hN:N'.drop k=caps:=by rfl) (hk:k<=N'.length:=by decide) (hs:∀x,foldedSetIterable iter X.env x=pure x:=by intro _; rfl):
  PE X (.ListComp elt [⟨tg,iter,ifs,0⟩] scope pos) (Mm k cap wi g tt te):=by
 intro pins s σ H Q I h
 obtain ⟨cl,hcl,hc1,hc2⟩:=xU (scope:=scope) (env:=X.env) λy hy e=>I.ok.has y.1 (by
  have z:=S.free y hy e
  rw [← hsc] at z
  exact z)
 rw [eval_ListComp]
 refine wpAny_comprehension_free (use:=none) rfl hs hcl S.kind S.loc (Hf (RR:=λacc C=>compPost (model X.prog X.w) X.A X.xe none (EP X pins σ Q) acc C) hcalm S hsc hN hk hcap hi hg ht he I h hc1 hc2 ?_)
 intro l sE HE H' s' m IE I' hn hns q
 exact ⟨m,hns,λh' hs'=>⟨.ref l,H',IV IE I' hn hs',rfl,q⟩⟩
theorem Jm {i:Nat}{y:Str}{py spos:Pos}(sc:Scope)(N' caps:List Str)(k:Nat)(cap:List Nat)(hnd:X.N.Nodup)(hi':X.N[i]? = some y)(hy:Loc X.env.scope y)(hcalm:X.calm=true)(S:CSc sc scope caps)(hcap:Paired (λj x=>X.N[j]? = some x) cap caps)
  (hi:PI X tg iter wi) (hg:∀cl C sE HE fp pins,PG (dC X N' scope cl C sE HE fp pins) tg g) (ht:∀cl C sE HE fp pins,Oz (dC X N' scope cl C sE HE fp pins) ifs tt) (he:∀cl C sE HE fp pins,PE (dC X N' scope cl C sE HE fp pins) elt te)
  (hsw:swapsWith (.ListComp elt [⟨tg,iter,ifs,0⟩] scope pos) (some (.Name y py)) spos.line X.env=pure true:=by rfl)
  (hsc:X.env.scope=sc:=by rfl) (hN:N'.drop k=caps:=by rfl) (hk:k<=N'.length:=by decide) (hs:∀x,foldedSetIterable iter X.env x=pure x:=by intro _; rfl)
  (hf:X.fn y=true\/X.env.scope.names.lookup y=some .local:=by first | exact .inl rfl | exact .inr rfl | assumption):
  PS X (.Assign [.Name y py] (.ListComp elt [⟨tg,iter,ifs,0⟩] scope pos) spos) (Ql (Mm k cap wi g tt te) (BR i)):=by
 intro pins s σ H D I h
 obtain ⟨cl,hcl,hc1,hc2⟩:=xU (scope:=scope) (env:=X.env) λy hy e=>I.ok.has y.1 (by
  have z:=S.free y hy e
  rw [← hsc] at z
  exact z)
 rw [exec_Assign_Name_used _ _ _ _ hsw]
 refine wpAny_bind (wpAny_standAt (wpAny_bind ?_))
 show wpAny _ X.A (do let _ ← comprehension (.ListComp elt [⟨tg,iter,ifs,0⟩] scope pos) scope X.env _ (newList []) false (eval iter X.env) (some (assign (.Name y py) X.env))) _ _ s
 refine wpAny_bind (wpAny_mono (wpAny_comprehension_free (use:=some (assign (.Name y py) X.env)) (Q:=λ_ s'=>SP X pins D .next s') rfl hs hcl S.kind S.loc
  (Hf (RR:=λacc C=>compPost (model X.prog X.w) X.A X.xe (some (assign (.Name y py) X.env)) (λ_ s'=>SP X pins D .next s') acc C) hcalm S hsc hN hk hcap hi hg ht he I h hc1 hc2 ?_)) (λ_ s' hq=>wpAny_pure (wpAny_pure hq)) λ_ _ e=>e)
 intro l sE HE H' s' m IE I' hn hns q
 show wpAny _ X.A (assign (.Name y py) X.env (.ref l)) _ _ _
 refine wpAny_assign_Name (Cw I' hnd hi' hy (v:=.ref l) rfl (λs2 I2 hb=>?_) hf)
 obtain ⟨a,hsb,ha⟩:=hb
 have hne:sE.heap.objs.size≠a:=λz=>by
  rcases ha with e | e
  ·exact absurd IE.lt (by rw [← e,← z]; exact Nat.lt_irrefl _)
  ·obtain ⟨v,q⟩:=IE.cell y a e
   exact absurd q.lt (by rw [z]; exact Nat.lt_irrefl _)
 exact ⟨m,hns.sameBut hsb hne,λh' hs'=>⟨_,H',IV IE I2 hn hs',q⟩⟩
end
open PySem PySem.Spec PyProof.Rows L2
inductive TyK (K:W.Frag)(H:Hp):V->Value->Prop where
 |of {v:V} {t:Value}:xj K H v t->TyK K H v t
 |tup {a:Addr} {xs:List V}:SqT K H a xs->TyK K H (.ref a) (.type "tuple")
 |lst {a:Addr} {xs:List V}:SqL K H a xs->TyK K H (.ref a) (.type "list")
section
variable {X:Cx}
noncomputable def abJ (K:W.Frag):List V->Hp->VK->Prop:=λxs H Q=>∃x c t cv b,xs=[x,c]/\aaC c=some cv/\TyK K H x t/\PySem.W.kitOne K t cv=some b/\Q (.bl b) H
theorem PQ:kJ X (.builtin "isinstance") (abJ X.K):=by
 intro pins s σ H xs us Q I r h
 obtain ⟨x,c,t,cv,b,rfl,rc,ty,e,q⟩:=h
 obtain ⟨u,w',rfl,ru,rw'⟩:=vals2 r
 have z:=SN rc rw'
 subst z
 cases ty with
 |of ty=>exact Qk I ru ty e λtk=>⟨.bl b,H,I.tok _,rfl,q⟩
 | @tup a xs hs=>
  cases (show u=Value.ref a from ru)
  obtain ⟨its,_,⟨o,h1,h2,_⟩,_⟩:=I.tuple hs
  exact PySem.W.kia_one PySem.W.kitx_tuple I.kIn ⟨o,h1,h2⟩ e (λz=>nomatch z) λtk=>⟨.bl b,H,I.tok _,rfl,q⟩
 | @lst a xs hs=>
  cases (show u=Value.ref a from ru)
  obtain ⟨its,_,⟨o,n,h1,h2,_⟩,_⟩:=I.list hs
  exact PySem.W.kia_one PySem.W.kitx_list I.kIn ⟨o,h1,h2⟩ e (λz=>nomatch z) λtk=>⟨.bl b,H,I.tok _,rfl,q⟩
end
theorem Rd.mono {H H':Hp}{a:Addr}{u:HO}(h:Rd H a u)(g:aL H H'):Rd H' a u:=h.elim (λe=>.inl (g _ _ e)) λ⟨o,e⟩=>.inr ⟨o,g _ _ e⟩
theorem Iw {K:W.Frag}{H H':Hp}{a:Addr}{xs:List V}(h:SqL K H a xs)(g:aL H H'):SqL K H' a xs:=h.elim (λe=>.inl (Rd.mono e g)) .inr
noncomputable def SameBut (l:Addr)(H H':Hp):Prop:=∀b u,b≠l->H b=some u->H' b=some u
theorem Yn {l:Addr}{H H':Hp}(g:aL H H'):SameBut l H H':=λb u _ e=>g b u e
theorem Su {l:Addr}{H:Hp}{o:HO}:SameBut l H (upd H l o):=λb u n e=>by rw [cO n]; exact e
theorem SameBut.trans {l:Addr}{H H1 H2:Hp}(a:SameBut l H H1)(b:SameBut l H1 H2):SameBut l H H2:=λc u n e=>b c u n (a c u n e)
theorem Lj {l:Addr}{H H':Hp}(g:SameBut l H H')(n:H l=none):aL H H':=λb u e=>g b u (λz=>by rw [z,n] at e; cases e) e
noncomputable def CW (n:Nat)(l:Addr)(H1:Hp)(R:Nat->List V->Hp->Prop):Nat->Nat->List V->Hp->Prop:=λi m ys H=>m=n - i/\i<=n/\ys.length=i/\aL H1 H/\H l=some (.lst ys)/\R i ys H
noncomputable def CN (n:Nat)(l:Addr)(H1:Hp)(R:Nat->List V->Hp->Prop)(i:Nat)(ys:List V):VK:=λy H5=>H5 l=some (.lst ys)/\ys.length<sizeLine/\∃m',m'<n - i/\CW n l H1 R (i+1) m' (ys++[y]) (upd H5 l (.lst (ys++[y])))
theorem CN.mk {n:Nat}{l:Addr}{H1 H H5:Hp}{R:Nat->List V->Hp->Prop}{i:Nat}{ys:List V}{y:V}(hn:n<=sizeLine)(hl1:H1 l=none)(hi:i<n)(hlen:ys.length=i)(s1:aL H1 H)(hl:H l=some (.lst ys))(g:aL H H5)
  (r:R (i+1) (ys++[y]) (upd H5 l (.lst (ys++[y])))):CN n l H1 R i ys y H5:=
 ⟨g _ _ hl,by omega,n - (i+1),by omega,rfl,hi,by rw [List.length_append,List.length_singleton,hlen],Lj ((Yn (λb u e=>g b u (s1 b u e))).trans Su) hl1,bA,r⟩
section
variable {k:Nat}{cap:List Nat}{g:TG}{te:TE}{σ:St}{H1:Hp}{Q:VK}{l:Addr}
end
section
variable {X:Cx}{tg:Expr}
end
open PySem PySem.Spec PyProof.Rows L2
section
variable {X:Cx}
noncomputable def rJoin (K:W.Frag):V->List V->Hp->VK->Prop:=λx vs H Q=>∃z l zs,x=.str z/\vs=[.ref l]/\SqL K H l (zs.map V.str)/\JoinOk z zs=true/\Q (.str (Txt.join z zs)) H
theorem HD:∀{zs:List Str} {us:List Value},Vals (zs.map V.str) us->∃l:List (Str×Tok),us=strValues l/\l.map (·.1)=zs
 |[],_,.nil=>⟨[],rfl,rfl⟩
 |z::zs,_,.cons r t=>by
  obtain ⟨tk,rfl⟩:=r
  obtain ⟨l,rfl,e⟩:=HD t
  exact ⟨(z,tk)::l,rfl,by rw [List.map_cons,e]⟩
theorem Vy (K:W.Frag)(hK:X.K=K:=by rfl):MtM X "str.join" (rJoin K):=by
 subst hK
 intro pins s σ H x vs v us Q I rx rv h
 obtain ⟨z,l,zs,rfl,rfl,hL,ok,q⟩:=h
 obtain ⟨t,rfl⟩:=rx
 obtain ⟨u,rfl,ru⟩:=rv.one
 cases ru
 obtain ⟨its,r,hp,_⟩:=I.list hL
 obtain ⟨ls,rfl,e⟩:=HD r
 exact SC.join hp.isList e ok λt' k=>⟨.str _,H,I.tok _,⟨t',rfl⟩,q⟩
end
end Hd
namespace F
open PySem PySem.Spec PyProof.Rows L2 Hd
inductive D where
 |non | bl (b:Bool) | int (i:Int) | str (x:Str) | exc (c:Str)
 |tup (xs:List D) | lst (xs:List D)
 |dct (ks:List Key) (vs:List D) | dcu (ks:List (List Kt)) (vs:List D)
  |dcf (ks:List (List Kt)) (vs:List D)
  |adr (a:Addr)
inductive Res (α:Type) where
 |ok (a:α) | exc (c:Str) | stuck
noncomputable def Res.bind {α β:Type}(r:Res α)(f:α->Res β):Res β:=match r with
 | .ok a=>f a
 | .exc c=>.exc c
 | .stuck=>.stuck
@[simp] theorem Res.pG {α β:Type}(a:α)(f:α->Res β):(Res.ok a).bind f=f a:=rfl
@[simp] theorem Res.aaF {α β:Type}(c:Str)(f:α->Res β):(Res.exc c:Res α).bind f=.exc c:=rfl
@[simp] theorem Res.Yw {α β:Type}(f:α->Res β):(Res.stuck:Res α).bind f=.stuck:=rfl
noncomputable def ofO {α:Type}:Option α->Res α
 |some a=>.ok a
 |none=>.stuck
@[simp] theorem qy {α:Type}(a:α):ofO (some a)=.ok a:=rfl
@[simp] theorem abu {α:Type}:ofO (none:Option α)=.stuck:=rfl
structure Gx where
 K:W.Frag
 mg:Str->Option Value
noncomputable abbrev gx (X:Cx):Gx:=⟨X.K,X.mg⟩
noncomputable def acg (K:W.Frag)(a:Addr)(xs:List V):Prop:=
 ∃(o:Obj) (its:Array Value) (n:Nat),K.lookup a=some o/\o.cls=.type "list"/\o.dict=none/\o.data=.seq its n/\its.size<=sizeLine/\Vals xs its.toList
noncomputable def LstAt (K:W.Frag)(O:Addr->Prop)(H:Hp)(a:Addr)(xs:List V):Prop:=(¬O a/\Rd H a (.lst xs))\/acg K a xs
mutual
inductive DV (G:Gx)(O:Addr->Prop)(H:Hp):V->D->Prop where
 |non:DV G O H .non .non
 |bl (b:Bool):DV G O H (.bl b) (.bl b)
 |int (i:Int):DV G O H (.int i) (.int i)
 |str (x:Str):DV G O H (.str x) (.str x)
 |adr (a:Addr):DV G O H (.ref a) (.adr a)
 |exc {a C:Addr} {c:Str}:G.mg c=some (.ref C)->H a=some (.ext (abd a (.ref C)))->DV G O H (.ref a) (.exc c)
 |tup {a:Addr} {xs:List V} {ds:List D}:SqU G.K H a xs->DVs G O H xs ds->DV G O H (.ref a) (.tup ds)
 |lst {a:Addr} {xs:List V} {ds:List D}:LstAt G.K O H a xs->DVs G O H xs ds->DV G O H (.ref a) (.lst ds)
 |dct {a:Addr} {kvs:List (Key×V)} {ks:List Key} {vs:List V} {ds:List D}:¬O a->H a=some (.dK kvs)->kvs.map (·.1)=ks->kvs.map (·.2)=vs->DVs G O H vs ds->DV G O H (.ref a) (.dct ks ds)
 |dcu {a:Addr} {kvs:List (List Kt×V)} {ks:List (List Kt)} {vs:List V} {ds:List D}:¬O a->H a=some (.dT (KTp G.K) kvs)->kvs.map (·.1)=ks->kvs.map (·.2)=vs->DVs G O H vs ds->DV G O H (.ref a) (.dcu ks ds)
 |dcf {a:Addr} {o:Obj} {kvs:List (List Kt×V)} {ks:List (List Kt)} {vs:List V} {ds:List D}:H a=some (.frz o (.dT (KTp G.K) kvs))->kvs.map (·.1)=ks->kvs.map (·.2)=vs->DVs G O H vs ds->DV G O H (.ref a) (.dcf ks ds)
inductive DVs (G:Gx)(O:Addr->Prop)(H:Hp):List V->List D->Prop where
 |nil:DVs G O H [] []
 |cons {v:V} {vs:List V} {d:D} {ds:List D}:DV G O H v d->DVs G O H vs ds->DVs G O H (v::vs) (d::ds)
end
noncomputable def OV (G:Gx)(O:Addr->Prop)(H:Hp)(a:Addr):D->Prop
 | .lst ds=>∃xs,H a=some (.lst xs)/\DVs G O H xs ds
 | .dct ks ds=>∃kvs vs,H a=some (.dK kvs)/\kvs.map (·.1)=ks/\kvs.map (·.2)=vs/\DVs G O H vs ds
 | .dcu ks ds=>∃kvs vs,H a=some (.dT (KTp G.K) kvs)/\kvs.map (·.1)=ks/\kvs.map (·.2)=vs/\DVs G O H vs ds
 |_=>False
noncomputable def DW (G:Gx)(O:Addr->Prop)(H:Hp)(v:V)(d:D):Prop:=DV G O H v d\/∃a,v=.ref a/\O a/\OV G O H a d
inductive DWs (G:Gx)(O:Addr->Prop)(H:Hp):List V->List D->Prop where
 |nil:DWs G O H [] []
 |cons {v:V} {vs:List V} {d:D} {ds:List D}:DW G O H v d->DWs G O H vs ds->DWs G O H (v::vs) (d::ds)
noncomputable def gY (o:Option HO):Prop:=(∃xs,o=some (.lst xs))\/(∃k,o=some (.dK k))\/∃k:(Addr->List V->Prop)×List (List Kt×V),o=some (.dT k.1 k.2)
noncomputable def Kp (O:Addr->Prop)(H H':Hp):Prop:=∀b o,H b=some o->¬O b->H' b=some o
theorem Kp.of {O:Addr->Prop}{H H':Hp}(g:aL H H'):Kp O H H':=λb o e _=>g b o e
theorem qU {O:Addr->Prop}{H:Hp}(m:∀b,O b->gY (H b)){a:Addr}{o:HO}(e:H a=some o)(n:¬gY (some o)):¬O a:=λz=>n (e ▸ m a z)
theorem Ny {xs:List V}:¬gY (some (.tup xs)):=by rintro (⟨_,e⟩ | ⟨_,e⟩ | ⟨_,e⟩) <;> cases e
theorem Dd {o:Obj}{u:HO}:¬gY (some (.frz o u)):=by rintro (⟨_,e⟩ | ⟨_,e⟩ | ⟨_,e⟩) <;> cases e
theorem Mi {φ:Heap->Prop}:¬gY (some (.ext φ)):=by rintro (⟨_,e⟩ | ⟨_,e⟩ | ⟨_,e⟩) <;> cases e
theorem Zt {K:W.Frag}{O:Addr->Prop}{H H':Hp}{a:Addr}{xs:List V}(m:∀b,O b->gY (H b))(g:Kp O H H')(h:SqT K H a xs):SqT K H' a xs:=by
 rcases h with (e | ⟨o,e⟩) | h
 ·exact .inl (.inl (g a _ e (qU m e Ny)))
 ·exact .inl (.inr ⟨o,g a _ e (qU m e Dd)⟩)
 ·exact .inr h
theorem Qy {K:W.Frag}{O:Addr->Prop}{H H':Hp}{a:Addr}{xs:List V}(m:∀b,O b->gY (H b))(g:Kp O H H')(h:SqU K H a xs):SqU K H' a xs:=by
 rcases h with e | h
 ·exact .inl (g a _ e (qU m e Ny))
 ·exact .inr h
theorem QX {K:W.Frag}{H H':Hp}{a:Addr}{xs:List V}(h:SqU K H a xs)(g:aL H H'):SqU K H' a xs:=h.imp (g _ _) id
theorem vU {K:W.Frag}{O:Addr->Prop}{H H':Hp}{a:Addr}{xs:List V}(g:Kp O H H')(h:LstAt K O H a xs):LstAt K O H' a xs:=by
 rcases h with ⟨n,e | ⟨o,e⟩⟩ | h
 ·exact .inl ⟨n,.inl (g a _ e n)⟩
 ·exact .inl ⟨n,.inr ⟨o,g a _ e n⟩⟩
 ·exact .inr h
theorem LstAt.sq {K:W.Frag}{O:Addr->Prop}{H:Hp}{a:Addr}{xs:List V}(h:LstAt K O H a xs):SqL K H a xs:=h.elim (λz=>.inl z.2) .inr
section
variable {G:Gx}{O O':Addr->Prop}{H H':Hp}
mutual
theorem DV.kp (m:∀b,O b->gY (H b))(g:Kp O H H'):∀{v:V} {d:D},DV G O H v d->DV G O H' v d
 |_,_,.non=>.non
 |_,_,.bl b=>.bl b
 |_,_,.int i=>.int i
 |_,_,.str x=>.str x
 |_,_,.adr a=>.adr a
 |_,_,.exc h e=>.exc h (g _ _ e (qU m e Mi))
 |_,_,.tup h hs=>.tup (Qy m g h) (DVs.kp m g hs)
 |_,_,.lst h hs=>.lst (vU g h) (DVs.kp m g hs)
 |_,_,.dct n e a b hs=>.dct n (g _ _ e n) a b (DVs.kp m g hs)
 |_,_,.dcu n e a b hs=>.dcu n (g _ _ e n) a b (DVs.kp m g hs)
 |_,_,.dcf e a b hs=>.dcf (g _ _ e (qU m e Dd)) a b (DVs.kp m g hs)
theorem DVs.kp (m:∀b,O b->gY (H b))(g:Kp O H H'):∀{vs:List V} {ds:List D},DVs G O H vs ds->DVs G O H' vs ds
 |_,_,.nil=>.nil
 |_,_,.cons h hs=>.cons (DV.kp m g h) (DVs.kp m g hs)
end
mutual
theorem DV.mono (g:aL H H'):∀{v:V} {d:D},DV G O H v d->DV G O H' v d
 |_,_,.non=>.non
 |_,_,.bl b=>.bl b
 |_,_,.int i=>.int i
 |_,_,.str x=>.str x
 |_,_,.adr a=>.adr a
 |_,_,.exc h e=>.exc h (g _ _ e)
 |_,_,.tup h hs=>.tup (QX h g) (DVs.mono g hs)
 |_,_,.lst h hs=>.lst (vU (.of g) h) (DVs.mono g hs)
 |_,_,.dct n e a b hs=>.dct n (g _ _ e) a b (DVs.mono g hs)
 |_,_,.dcu n e a b hs=>.dcu n (g _ _ e) a b (DVs.mono g hs)
 |_,_,.dcf e a b hs=>.dcf (g _ _ e) a b (DVs.mono g hs)
theorem DVs.mono (g:aL H H'):∀{vs:List V} {ds:List D},DVs G O H vs ds->DVs G O H' vs ds
 |_,_,.nil=>.nil
 |_,_,.cons h hs=>.cons (DV.mono g h) (DVs.mono g hs)
end
mutual
theorem DV.cu (s:∀b,O' b->O b\/H b=none):∀{v:V} {d:D},DV G O H v d->DV G O' H v d
 |_,_,.non=>.non
 |_,_,.bl b=>.bl b
 |_,_,.int i=>.int i
 |_,_,.str x=>.str x
 |_,_,.adr a=>.adr a
 |_,_,.exc h e=>.exc h e
 |_,_,.tup h hs=>.tup h (DVs.cu s hs)
 |_,_,.lst h hs=>.lst (h.elim (λz=>.inl ⟨λo=>(s _ o).elim z.1 λn=>by rcases z.2 with e | ⟨_,e⟩ <;> (rw [n] at e; cases e),z.2⟩) .inr) (DVs.cu s hs)
 |_,_,.dct n e a b hs=>.dct (λo=>(s _ o).elim n λz=>by rw [z] at e; cases e) e a b (DVs.cu s hs)
 |_,_,.dcu n e a b hs=>.dcu (λo=>(s _ o).elim n λz=>by rw [z] at e; cases e) e a b (DVs.cu s hs)
 |_,_,.dcf e a b hs=>.dcf e a b (DVs.cu s hs)
theorem DVs.cu (s:∀b,O' b->O b\/H b=none):∀{vs:List V} {ds:List D},DVs G O H vs ds->DVs G O' H vs ds
 |_,_,.nil=>.nil
 |_,_,.cons h hs=>.cons (DV.cu s h) (DVs.cu s hs)
end
noncomputable def Ev (O:Addr->Prop)(H:Hp)(O':Addr->Prop)(H':Hp):Prop:=(∀b,O' b->O b\/H b=none)/\Kp O H H'
mutual
theorem DV.go (m:∀b,O b->gY (H b))(g:Ev O H O' H'):∀{v:V} {d:D},DV G O H v d->DV G O' H' v d
 |_,_,.non=>.non
 |_,_,.bl b=>.bl b
 |_,_,.int i=>.int i
 |_,_,.str x=>.str x
 |_,_,.adr a=>.adr a
 |_,_,.exc h e=>.exc h (g.2 _ _ e (qU m e Mi))
 |_,_,.tup h hs=>.tup (Qy m g.2 h) (DVs.go m g hs)
 |_,_,.lst h hs=>.lst (h.elim (λz=>.inl ⟨λo=>(g.1 _ o).elim z.1 λn=>by rcases z.2 with e | ⟨_,e⟩ <;> (rw [n] at e; cases e),(vU g.2 (.inl z):LstAt G.K O H' _ _).elim (λy=>y.2) λy=>z.2.elim (λe=>.inl (g.2 _ _ e z.1)) λ⟨o,e⟩=>.inr ⟨o,g.2 _ _ e z.1⟩⟩) .inr) (DVs.go m g hs)
 |_,_,.dct n e a b hs=>.dct (λo=>(g.1 _ o).elim n λz=>by rw [z] at e; cases e) (g.2 _ _ e n) a b (DVs.go m g hs)
 |_,_,.dcu n e a b hs=>.dcu (λo=>(g.1 _ o).elim n λz=>by rw [z] at e; cases e) (g.2 _ _ e n) a b (DVs.go m g hs)
 |_,_,.dcf e a b hs=>.dcf (g.2 _ _ e (qU m e Dd)) a b (DVs.go m g hs)
theorem DVs.go (m:∀b,O b->gY (H b))(g:Ev O H O' H'):∀{vs:List V} {ds:List D},DVs G O H vs ds->DVs G O' H' vs ds
 |_,_,.nil=>.nil
 |_,_,.cons h hs=>.cons (DV.go m g h) (DVs.go m g hs)
end
theorem OV.cu {a:Addr}{d:D}(s:∀b,O' b->O b\/H b=none)(h:OV G O H a d):OV G O' H a d:=by
 cases d with
 |lst ds=>obtain ⟨xs,e,hs⟩:=h; exact ⟨xs,e,hs.cu s⟩
 |dct ks ds=>obtain ⟨k,v,e,a1,a2,hs⟩:=h; exact ⟨k,v,e,a1,a2,hs.cu s⟩
 |dcu ks ds=>obtain ⟨k,v,e,a1,a2,hs⟩:=h; exact ⟨k,v,e,a1,a2,hs.cu s⟩
 |_=>exact h.elim
theorem OV.mono {a:Addr}{d:D}(g:aL H H')(h:OV G O H a d):OV G O H' a d:=by
 cases d with
 |lst ds=>obtain ⟨xs,e,hs⟩:=h; exact ⟨xs,g _ _ e,hs.mono g⟩
 |dct ks ds=>obtain ⟨k,v,e,a1,a2,hs⟩:=h; exact ⟨k,v,g _ _ e,a1,a2,hs.mono g⟩
 |dcu ks ds=>obtain ⟨k,v,e,a1,a2,hs⟩:=h; exact ⟨k,v,g _ _ e,a1,a2,hs.mono g⟩
 |_=>exact h.elim
theorem OV.kp {a:Addr}{d:D}(m:∀b,O b->gY (H b))(g:Kp O H H')(e':H' a=H a)(h:OV G O H a d):OV G O H' a d:=by
 cases d with
 |lst ds=>obtain ⟨xs,e,hs⟩:=h; exact ⟨xs,e'.trans e,hs.kp m g⟩
 |dct ks ds=>obtain ⟨k,v,e,a1,a2,hs⟩:=h; exact ⟨k,v,e'.trans e,a1,a2,hs.kp m g⟩
 |dcu ks ds=>obtain ⟨k,v,e,a1,a2,hs⟩:=h; exact ⟨k,v,e'.trans e,a1,a2,hs.kp m g⟩
 |_=>exact h.elim
theorem OV.mut {a:Addr}{d:D}(h:OV G O H a d):gY (H a):=by
 cases d with
 |lst ds=>obtain ⟨xs,e,hs⟩:=h; exact .inl ⟨xs,e⟩
 |dct ks ds=>obtain ⟨k,v,e,_⟩:=h; exact .inr (.inl ⟨k,e⟩)
 |dcu ks ds=>obtain ⟨k,v,e,_⟩:=h; exact .inr (.inr ⟨(_,k),e⟩)
 |_=>exact h.elim
theorem OV.dv {a:Addr}{d:D}(n:¬O a)(h:OV G O H a d):DV G O H (.ref a) d:=by
 cases d with
 |lst ds=>obtain ⟨xs,e,hs⟩:=h; exact .lst (.inl ⟨n,.inl e⟩) hs
 |dct ks ds=>obtain ⟨k,v,e,a1,a2,hs⟩:=h; exact .dct n e a1 a2 hs
 |dcu ks ds=>obtain ⟨k,v,e,a1,a2,hs⟩:=h; exact .dcu n e a1 a2 hs
 |_=>exact h.elim
theorem DW.mono {v:V}{d:D}(g:aL H H')(h:DW G O H v d):DW G O H' v d:=h.elim (λz=>.inl (z.mono g)) λ⟨a,e,o,z⟩=>.inr ⟨a,e,o,z.mono g⟩
theorem DW.any {v:V}{d:D}(h:DW G O H v d):DV G (λ_=>False) H v d:=by
 rcases h with h | ⟨a,e,_,h⟩
 ·exact h.cu λ_ z=>z.elim
 ·subst e
  exact (h.cu (O':=λ_=>False) λ_ z=>z.elim).dv id
end
section
variable {G:Gx}{O:Addr->Prop}{H:Hp}{v:V}
theorem zu (h:DW G O H v .non):v=.non:=by
 rcases h with h | ⟨_,_,_,h⟩
 ·cases h; rfl
 ·exact h.elim
theorem Hz {b:Bool}(h:DW G O H v (.bl b)):v=.bl b:=by
 rcases h with h | ⟨_,_,_,h⟩
 ·cases h; rfl
 ·exact h.elim
theorem cG {i:Int}(h:DW G O H v (.int i)):v=.int i:=by
 rcases h with h | ⟨_,_,_,h⟩
 ·cases h; rfl
 ·exact h.elim
theorem jA {x:Str}(h:DW G O H v (.str x)):v=.str x:=by
 rcases h with h | ⟨_,_,_,h⟩
 ·cases h; rfl
 ·exact h.elim
theorem sY {ds:List D}(h:DW G O H v (.tup ds)):∃a xs,v=.ref a/\SqT G.K H a xs/\DVs G O H xs ds:=by
 rcases h with h | ⟨_,_,_,h⟩
 ·cases h with
  |tup h hs=>exact ⟨_,_,rfl,h.sq,hs⟩
 ·exact h.elim
theorem yV {ds:List D}(h:DW G O H v (.tup ds)):∃a xs,v=.ref a/\SqU G.K H a xs/\DVs G O H xs ds:=by
 rcases h with h | ⟨_,_,_,h⟩
 ·cases h with
  |tup h hs=>exact ⟨_,_,rfl,h,hs⟩
 ·exact h.elim
theorem jB {ds:List D}(h:DW G O H v (.lst ds)):∃a xs,v=.ref a/\SqL G.K H a xs/\DVs G O H xs ds:=by
 rcases h with h | ⟨a,e,_,h⟩
 ·cases h with
  |lst h hs=>exact ⟨_,_,rfl,h.sq,hs⟩
 ·obtain ⟨xs,e',hs⟩:=h
  exact ⟨a,xs,e,.inl (.inl e'),hs⟩
theorem JC {ks:List Key}{ds:List D}(h:DW G O H v (.dct ks ds)):∃a kvs vs,v=.ref a/\H a=some (.dK kvs)/\kvs.map (·.1)=ks/\kvs.map (·.2)=vs/\DVs G O H vs ds:=by
 rcases h with h | ⟨a,e,_,h⟩
 ·cases h with
  |dct n e a b hs=>exact ⟨_,_,_,rfl,e,a,b,hs⟩
 ·obtain ⟨k,w,e',a1,a2,hs⟩:=h
  exact ⟨a,k,w,e,e',a1,a2,hs⟩
theorem UL {ks:List (List Kt)}{ds:List D}(h:DW G O H v (.dcu ks ds)):∃a kvs vs,v=.ref a/\H a=some (.dT (KTp G.K) kvs)/\kvs.map (·.1)=ks/\kvs.map (·.2)=vs/\DVs G O H vs ds:=by
 rcases h with h | ⟨a,e,_,h⟩
 ·cases h with
  |dcu n e a b hs=>exact ⟨_,_,_,rfl,e,a,b,hs⟩
 ·obtain ⟨k,w,e',a1,a2,hs⟩:=h
  exact ⟨a,k,w,e,e',a1,a2,hs⟩
theorem bU:∀{vs:List V} {ds:List D},DVs G O H vs ds->vs.length=ds.length
 |_,_,.nil=>rfl
 |_,_,.cons _ hs=>by rw [List.length_cons,List.length_cons,bU hs]
theorem jR:∀{vs us:List V} {ds es:List D},DVs G O H vs ds->DVs G O H us es->DVs G O H (vs++us) (ds++es)
 |_,_,_,_,.nil,h=>h
 |_,_,_,_,.cons a t,h=>.cons a (jR t h)
theorem vp:∀{vs:List V} {ds:List D} {i:Nat} {x:V},DVs G O H vs ds->vs[i]? = some x->∃d,ds[i]? = some d/\DV G O H x d
 |_,_,_,_,.nil,e=>by simp at e
 |_,_,0,_,.cons a _,e=>by simp at e; subst e; exact ⟨_,rfl,a⟩
 |_,_,i+1,x,.cons _ t,e=>by
  obtain ⟨d,h1,h2⟩:=vp (i:=i) (x:=x) t (by simpa using e)
  exact ⟨d,by simpa using h1,h2⟩
theorem uI:∀{vs:List V} {ds:List D} {i:Nat} {d:D},DVs G O H vs ds->ds[i]? = some d->∃x,vs[i]? = some x/\DV G O H x d
 |_,_,_,_,.nil,e=>by simp at e
 |_,_,0,_,.cons a _,e=>by simp at e; subst e; exact ⟨_,rfl,a⟩
 |_,_,i+1,d,.cons _ t,e=>by
  obtain ⟨x,h1,h2⟩:=uI (i:=i) (d:=d) t (by simpa using e)
  exact ⟨x,by simpa using h1,h2⟩
theorem Az:∀{vs:List V} {ds:List D} (n:Nat),DVs G O H vs ds->DVs G O H (vs.take n) (ds.take n)
 |_,_,0,_=>by simp only [List.take_zero]; exact .nil
 |_,_,_+1,.nil=>.nil
 |_,_,n+1,.cons a t=>.cons a (Az n t)
theorem HH:∀{vs:List V} {ds:List D} (n:Nat),DVs G O H vs ds->DVs G O H (vs.drop n) (ds.drop n)
 |_,_,0,h=>h
 |_,_,_+1,.nil=>.nil
 |_,_,n+1,.cons _ t=>HH n t
theorem Ln:∀{vs:List V} {ds:List D},DVs G O H vs ds->DVs G O H vs.reverse ds.reverse
 |_,_,.nil=>.nil
 |_,_,.cons a t=>by rw [List.reverse_cons,List.reverse_cons]; exact jR (Ln t) (.cons a .nil)
noncomputable def flat:D->Bool
 | .non | .bl _ | .int _ | .str _=>true
 |_=>false
end
inductive Sl where
  |un | fz (d:D) | ow (d:D) | io (d:D) | bw (d:D)
  |hd (w:Bool) (a:Addr) (d:D)
noncomputable abbrev Me:=List Sl
noncomputable abbrev Os:=Nat->Option Addr
noncomputable def Ow (O0:Addr->Prop)(ow:Os):Addr->Prop:=λb=>O0 b\/∃i,ow i=some b
noncomputable def Op (O:Addr->Prop)(p:Addr):Addr->Prop:=λb=>O b\/b=p
noncomputable def owS (ow:Os)(i:Nat)(x:Option Addr):Os:=λj=>if j=i then x else ow j
theorem ir {ow:Os}{i:Nat}{x:Option Addr}:owS ow i x i=x:=by unfold owS; rw [if_pos rfl]
theorem gj {ow:Os}{i j:Nat}{x:Option Addr}(h:j≠i):owS ow i x j=ow j:=by unfold owS; rw [if_neg h]
noncomputable def IW (G:Gx)(O M0:Addr->Prop)(H0:Hp)(oi:Option Addr)(v:Option (Option V))(H:Hp):Sl->Prop
 | .un=>oi=none
 | .fz d=>oi=none/\∃x,v=some (some x)/\DV G O H x d
 | .ow d=>∃a,oi=some a/\H0 a=none/\v=some (some (.ref a))/\OV G O H a d
 | .io d=>∃a,oi=some a/\M0 a/\v=some (some (.ref a))/\OV G O H a d
 | .bw d=>oi=none/\∃x,v=some (some x)/\DW G O H x d
 | .hd w a d=>oi=some a/\(w=true->H0 a=none)/\(w=false->M0 a)/\OV G O H a d
structure Rel (G:Gx)(O0 M0:Addr->Prop)(H0:Hp)(ow:Os)(σ:L2.St)(H:Hp)(m:Me):Prop where
 len:σ.length=m.length
 keep:Kp M0 H0 H
 m0:∀b,M0 b->H b≠none
 mutk:∀b,Ow O0 ow b->gY (H b)
 no0:∀i a,ow i=some a->¬O0 a
 inj:∀i j a,ow i=some a->ow j=some a->i=j
 out:∀i,m.length<=i->ow i=none
 slot:∀i s,m[i]? = some s->IW G (Ow O0 ow) M0 H0 (ow i) (σ[i]?) H s
structure du (G:Gx)(O0 M0:Addr->Prop)(H0:Hp)(ow:Os)(σ:L2.St)(H:Hp)(m:Me):Prop extends Rel G O0 M0 H0 ow σ H m where
 nb:∀(j:Nat) (d:D),m[j]?≠some (Sl.bw d)
structure Go (O0:Addr->Prop)(ow:Os)(H:Hp)(ow':Os)(H':Hp):Prop where
 keep:Kp (Ow O0 ow) H H'
 new:∀i a,ow' i=some a->Ow O0 ow a\/H a=none
 dom:∀b,H b≠none->H' b≠none
theorem Go.refl {O0:Addr->Prop}{ow:Os}{H H':Hp}(g:aL H H'):Go O0 ow H ow H':=
 ⟨.of g,λi a e=>.inl (.inr ⟨i,e⟩),λb n z=>by
  cases q:H b with
  |none=>exact n q
  |some o=>rw [g b o q] at z; cases z⟩
theorem Go.trans {O0:Addr->Prop}{ow ow1 ow2:Os}{H H1 H2:Hp}(a:Go O0 ow H ow1 H1)(b:Go O0 ow1 H1 ow2 H2):Go O0 ow H ow2 H2 where
 keep:=λc o e n=>b.keep c o (a.keep c o e n) λz=>by
  rcases z with z | ⟨i,z⟩
  ·exact n (.inl z)
  ·rcases a.new i c z with y | y
   ·exact n y
   ·rw [y] at e; cases e
 new:=λi c e=>by
  rcases b.new i c e with (z | ⟨j,z⟩) | z
  ·exact .inl (.inl z)
  ·exact a.new j c z
  ·refine .inr ?_
   cases q:H c with
   |none=>rfl
   |some o=>exact absurd z (a.dom c (by rw [q]; simp))
 dom:=λc n=>b.dom c (a.dom c n)
theorem Go.ev {O0:Addr->Prop}{ow ow':Os}{H H':Hp}(g:Go O0 ow H ow' H'):Ev (Ow O0 ow) H (Ow O0 ow') H':=
 ⟨λb z=>z.elim (λz=>.inl (.inl z)) λ⟨i,e⟩=>g.new i b e,g.keep⟩
theorem wg (O:Addr->Prop):Ow O (λ_=>none)=O:=by
 funext b
 exact propext ⟨λz=>z.elim id λ⟨_,e⟩=>(by cases e),Or.inl⟩
section
variable {G:Gx}{O0 M0:Addr->Prop}{H0 H H':Hp}{ow:Os}{σ:L2.St}{m:Me}
theorem IW.mono {O:Addr->Prop}{oi:Option Addr}{v:Option (Option V)}{s:Sl}(g:aL H H')(h:IW G O M0 H0 oi v H s):IW G O M0 H0 oi v H' s:=by
 cases s with
 |un=>exact h
 |fz d=>obtain ⟨a,x,e,q⟩:=h; exact ⟨a,x,e,q.mono g⟩
 |ow d=>obtain ⟨a,x,e,f,q⟩:=h; exact ⟨a,x,e,f,q.mono g⟩
 |io d=>obtain ⟨a,x,e,f,q⟩:=h; exact ⟨a,x,e,f,q.mono g⟩
 |bw d=>obtain ⟨a,x,e,q⟩:=h; exact ⟨a,x,e,q.mono g⟩
 |hd w a d=>obtain ⟨x,e,f,q⟩:=h; exact ⟨x,e,f,q.mono g⟩
theorem wY {b:Addr}(g:aL H H')(h:gY (H b)):gY (H' b):=by
 rcases h with ⟨x,e⟩ | ⟨x,e⟩ | ⟨x,e⟩
 ·exact .inl ⟨x,g _ _ e⟩
 ·exact .inr (.inl ⟨x,g _ _ e⟩)
 ·exact .inr (.inr ⟨x,g _ _ e⟩)
theorem Rel.mono (R:Rel G O0 M0 H0 ow σ H m)(g:aL H H'):Rel G O0 M0 H0 ow σ H' m:=
 ⟨R.len,λb o e n=>g b o (R.keep b o e n),λb z q=>R.m0 b z (aL.free g q),λb z=>wY g (R.mutk b z),R.no0,R.inj,R.out,λi s e=>(R.slot i s e).mono g⟩
theorem IW.cu {O O':Addr->Prop}{oi:Option Addr}{v:Option (Option V)}{s:Sl}(sub:∀b,O' b->O b\/H b=none)(h:IW G O M0 H0 oi v H s)(hb:∀d,s=.bw d->∀b,O b->O' b\/¬O' b):IW G O' M0 H0 oi v H s:=by
 cases s with
 |un=>exact h
 |fz d=>obtain ⟨a,x,e,q⟩:=h; exact ⟨a,x,e,q.cu sub⟩
 |ow d=>obtain ⟨a,x,e,f,q⟩:=h; exact ⟨a,x,e,f,q.cu sub⟩
 |io d=>obtain ⟨a,x,e,f,q⟩:=h; exact ⟨a,x,e,f,q.cu sub⟩
 |bw d=>
  obtain ⟨a,x,e,q⟩:=h
  refine ⟨a,x,e,?_⟩
  rcases q with q | ⟨b,e1,o,q⟩
  ·exact .inl (q.cu sub)
  ·rcases hb d rfl b o with w | w
   ·exact .inr ⟨b,e1,w,q.cu sub⟩
   ·subst e1
    exact .inl ((q.cu sub).dv w)
 |hd w a d=>obtain ⟨x,e,f,q⟩:=h; exact ⟨x,e,f,q.cu sub⟩
theorem Ow.sub {i:Nat}{b:Addr}(z:Ow O0 (owS ow i none) b):Ow O0 ow b:=by
 rcases z with z | ⟨j,e⟩
 ·exact .inl z
 ·by_cases q:j=i
  ·subst q; rw [ir] at e; cases e
  ·rw [gj q] at e; exact .inr ⟨j,e⟩
theorem tD {α:Type}{l:List α}{i:Nat}{x:α}(e:l[i]? = some x):i<l.length:=(List.getElem?_eq_some_iff.mp e).1
theorem Rel.set {i:Nat}{v:V}{d:D}(R:Rel G O0 M0 H0 ow σ H m)(h:DV G (Ow O0 ow) H v d):
  Rel G O0 M0 H0 (owS ow i none) (σ.set i (some v)) H (m.set i (.fz d)):=by
 have sub:∀b,Ow O0 (owS ow i none) b->Ow O0 ow b\/H b=none:=λb z=>.inl z.sub
 refine ⟨by simp [R.len],R.keep,R.m0,λb z=>R.mutk b z.sub,λj a e=>?_,λj k a e1 e2=>?_,λj hj=>?_,λj s e=>?_⟩
 ·by_cases q:j=i
  ·subst q; rw [ir] at e; cases e
  ·rw [gj q] at e; exact R.no0 j a e
 ·by_cases q:j=i
  ·subst q; rw [ir] at e1; cases e1
  ·by_cases q':k=i
   ·subst q'; rw [ir] at e2; cases e2
   ·rw [gj q] at e1; rw [gj q'] at e2; exact R.inj j k a e1 e2
 ·by_cases q:j=i
  ·subst q; exact ir
  ·rw [gj q]; exact R.out j (by simpa using hj)
 ·by_cases q:j=i
  ·subst q
   have hj:j<m.length:=by simpa using tD e
   rw [List.getElem?_set_self hj] at e
   cases e
   rw [ir,List.getElem?_set_self (by rw [R.len]; exact hj)]
   exact ⟨rfl,v,rfl,h.cu sub⟩
  ·rw [List.getElem?_set_ne (Ne.symm q)] at e
   rw [gj q,List.getElem?_set_ne (Ne.symm q)]
   exact (R.slot j s e).cu sub λ_ _ b _=>Classical.em _
theorem Go.set {i:Nat}:Go O0 ow H (owS ow i none) H:=
 ⟨λ_ _ e _=>e,λj a e=>.inl (by
  by_cases q:j=i
  ·subst q; rw [ir] at e; cases e
  ·rw [gj q] at e; exact .inr ⟨j,e⟩),λ_ n=>n⟩
theorem Rel.G7 (R:Rel G O0 M0 H0 ow σ H m){p:Addr}(n:H p=none):H0 p=none:=by
 cases q:H0 p with
 |none=>rfl
 |some o=>
  by_cases z:M0 p
  ·exact absurd n (R.m0 p z)
  ·rw [R.keep p o q z] at n; cases n
theorem Rel.Ib (R:Rel G O0 M0 H0 ow σ H m){p:Addr}(n:H p=none):¬Ow O0 ow p:=λz=>by
 have:=R.mutk p z
 rw [n] at this
 rcases this with ⟨_,e⟩ | ⟨_,e⟩ | ⟨_,e⟩ <;> cases e
theorem Ow.new {i:Nat}{b p:Addr}(z:Ow O0 (owS ow i (some p)) b):Ow O0 ow b\/b=p:=by
 rcases z with z | ⟨j,e⟩
 ·exact .inl (.inl z)
 ·by_cases q:j=i
  ·subst q; rw [ir] at e; cases e; exact .inr rfl
  ·rw [gj q] at e; exact .inl (.inr ⟨j,e⟩)
theorem Rel.own {i:Nat}{p:Addr}{d:D}(R:Rel G O0 M0 H0 ow σ H m)(g:aL H H')(n:H p=none)(n0:H0 p=none)(h:OV G (Op (Ow O0 ow) p) H' p d)(hi:i<m.length):
  Rel G O0 M0 H0 (owS ow i (some p)) (σ.set i (some (.ref p))) H' (m.set i (.ow d)):=by
 have np:=R.Ib n
 have sub:∀b,Ow O0 (owS ow i (some p)) b->Ow O0 ow b\/H b=none:=λb z=>z.new.elim .inl λe=>.inr (by rw [e]; exact n)
 refine ⟨by simp [R.len],(R.mono g).keep,(R.mono g).m0,λb z=>?_,λj a e=>?_,λj k a e1 e2=>?_,λj hj=>?_,λj s e=>?_⟩
 ·rcases z.new with z | z
  ·exact (R.mono g).mutk b z
  ·rw [z]; exact h.mut
 ·by_cases q:j=i
  ·subst q; rw [ir] at e; cases e; exact λz=>np (.inl z)
  ·rw [gj q] at e; exact R.no0 j a e
 ·by_cases q:j=i
  ·subst q
   rw [ir] at e1
   cases e1
   by_cases q':k=j
   ·exact q'.symm
   ·rw [gj q'] at e2; exact absurd (.inr ⟨k,e2⟩) np
  ·rw [gj q] at e1
   by_cases q':k=i
   ·subst q'; rw [ir] at e2; cases e2; exact absurd (.inr ⟨j,e1⟩) np
   ·rw [gj q'] at e2; exact R.inj j k a e1 e2
 ·have hj':m.length<=j:=by simpa using hj
  rw [gj (by omega)]
  exact R.out j hj'
 ·by_cases q:j=i
  ·subst q
   rw [List.getElem?_set_self hi] at e
   cases e
   rw [ir,List.getElem?_set_self (by rw [R.len]; exact hi)]
   exact ⟨p,rfl,n0,rfl,h.cu λb z=>.inl (z.new.elim .inl .inr)⟩
  ·rw [List.getElem?_set_ne (Ne.symm q)] at e
   rw [gj q,List.getElem?_set_ne (Ne.symm q)]
   exact ((R.slot j s e).cu sub λ_ _ b _=>Classical.em _).mono g
theorem Go.own {i:Nat}{p:Addr}(g:aL H H')(n:H p=none):Go O0 ow H (owS ow i (some p)) H':=
 ⟨.of g,λj a e=>by
  by_cases q:j=i
  ·subst q; rw [ir] at e; cases e; exact .inr n
  ·rw [gj q] at e; exact .inl (.inr ⟨j,e⟩),(Go.refl (O0:=O0) (ow:=ow) g).dom⟩
theorem Ah {i:Nat}{s:Sl}(nb:∀(j:Nat) (d:D),m[j]?≠some (Sl.bw d))(hs:∀d,s≠.bw d):∀(j:Nat) (d:D),(m.set i s)[j]?≠some (Sl.bw d):=λj d e=>by
 by_cases q:j=i
 ·subst q
  have hj:j<m.length:=by simpa using tD e
  rw [List.getElem?_set_self hj] at e
  exact hs d (Option.some.inj e)
 ·rw [List.getElem?_set_ne (Ne.symm q)] at e
  exact nb j d e
theorem du.mono (R:du G O0 M0 H0 ow σ H m)(g:aL H H'):du G O0 M0 H0 ow σ H' m:=⟨R.toRel.mono g,R.nb⟩
theorem du.set {i:Nat}{v:V}{d:D}(R:du G O0 M0 H0 ow σ H m)(h:DV G (Ow O0 ow) H v d):du G O0 M0 H0 (owS ow i none) (σ.set i (some v)) H (m.set i (.fz d)):=
 ⟨R.toRel.set h,Ah R.nb λ_ z=>by cases z⟩
theorem du.own {i:Nat}{p:Addr}{d:D}(R:du G O0 M0 H0 ow σ H m)(g:aL H H')(n:H p=none)(n0:H0 p=none)(h:OV G (Op (Ow O0 ow) p) H' p d)(hi:i<m.length):
  du G O0 M0 H0 (owS ow i (some p)) (σ.set i (some (.ref p))) H' (m.set i (.ow d)):=⟨R.toRel.own g n n0 h hi,Ah R.nb λ_ z=>by cases z⟩
noncomputable def Sl.let:Sl->Sl
 | .ow d=>.fz d
 |s=>s
noncomputable def Me.let (m:Me):Me:=m.map Sl.let
theorem du.let (R:du G O0 M0 H0 ow σ H m):∃ow',du G O0 M0 H0 ow' σ H m.let/\Go O0 ow H ow' H:=by
 let ow':Os:=λi=>match m[i]? with
  |some (.io _)=>ow i
  |some (.hd _ _ _)=>ow i
  |_=>none
 have le:∀i a,ow' i=some a->ow i=some a/\∀d,m[i]?≠some (.ow d):=λi a e=>by
  simp only [ow'] at e
  split at e
  ·rename_i d q; exact ⟨e,λd z=>by rw [q] at z; cases z⟩
  ·rename_i w b d q; exact ⟨e,λd z=>by rw [q] at z; cases z⟩
  ·cases e
 have sub:∀b,Ow O0 ow' b->Ow O0 ow b\/H b=none:=λb z=>.inl (z.elim .inl λ⟨i,e⟩=>.inr ⟨i,(le i b e).1⟩)
 refine ⟨ow',⟨⟨by simp [Me.let,R.len],R.keep,R.m0,λb z=>?_,λi a e=>R.no0 i a (le i a e).1,λi j a e1 e2=>R.inj i j a (le i a e1).1 (le j a e2).1,λi hi=>?_,λi s e=>?_⟩,λj d e=>?_⟩,λb o e n=>e,λi a e=>.inl (.inr ⟨i,(le i a e).1⟩),λ_ n=>n⟩
 ·exact R.mutk b (z.elim .inl λ⟨i,e⟩=>.inr ⟨i,(le i b e).1⟩)
 ·have hi':m.length<=i:=by simpa [Me.let] using hi
  simp only [ow']
  rw [List.getElem?_eq_none hi']
 ·unfold Me.let at e
  rw [List.getElem?_map] at e
  cases q:m[i]? with
  |none=>rw [q] at e; cases e
  |some s0=>
   rw [q] at e
   cases e
   have z:=R.slot i s0 q
   cases s0 with
   |un=>exact (show ow' i=none by simp only [ow',q])
   |fz d=>obtain ⟨_,x,e,h⟩:=z; exact ⟨(show ow' i=none by simp only [ow',q]),x,e,h.cu sub⟩
   |ow d=>
    obtain ⟨a,e1,e2,e3,h⟩:=z
    refine ⟨(show ow' i=none by simp only [ow',q]),.ref a,e3,(h.cu sub).dv λw=>?_⟩
    rcases w with w | ⟨j,w⟩
    ·exact R.no0 i a e1 w
    ·obtain ⟨w1,w2⟩:=le j a w
     have:=R.inj i j a e1 w1
     subst this
     exact w2 d q
   |io d=>
    obtain ⟨a,e1,e2,e3,h⟩:=z
    exact ⟨a,(show ow' i=some a by simp only [ow',q]; exact e1),e2,e3,h.cu sub⟩
   |bw d=>exact (R.nb i d q).elim
   |hd w a d=>
    obtain ⟨e1,e2,e3,h⟩:=z
    exact ⟨(show ow' i=some a by simp only [ow',q]; exact e1),e2,e3,h.cu sub⟩
 ·unfold Me.let at e
  rw [List.getElem?_map] at e
  cases q:m[j]? with
  |none=>rw [q] at e; cases e
  |some s0=>
   rw [q] at e
   cases s0 with
   |bw d'=>exact R.nb j d' q
   |_=>cases e
end
open PySem PySem.Spec PyProof.Rows L2 Hd
noncomputable def Pu (G:Gx)(E:XK){α:Type}(r:Res α)(H:Hp)(k:α->Prop):Prop:=match r with
 | .ok a=>k a
 | .exc c=>∀C H',G.mg c=some (.ref C)->aL H H'->E (.ref C) none H'
 | .stuck=>False
theorem Pu.bind {G:Gx}{E:XK}{α β:Type}{r:Res α}{f:α->Res β}{H:Hp}{k:β->Prop}(h:Pu G E (r.bind f) H k):Pu G E r H λa=>Pu G E (f a) H k:=by
 cases r with
 |ok a=>exact h
 |exc c=>exact h
 |stuck=>exact h
theorem Pu.imp {G:Gx}{E:XK}{α:Type}{r:Res α}{H H':Hp}{k k':α->Prop}(h:Pu G E r H k)(g:aL H H')(hk:∀a,k a->k' a):Pu G E r H' k':=by
 cases r with
 |ok a=>exact hk a h
 |exc c=>exact λC H1 e g1=>h C H1 e (g.trans g1)
 |stuck=>exact h
theorem Pu.ofO {G:Gx}{E:XK}{α:Type}{r:Option α}{H:Hp}{k:α->Prop}(h:Pu G E (ofO r) H k):∃a,r=some a/\k a:=by
 cases r with
 |some a=>exact ⟨a,rfl,h⟩
 |none=>exact h.elim
noncomputable def tE (G:Gx)(E:XK)(f:Me->Res D):TE:=λσ H Q=>∃O0 M0 H0 ow m,Rel G O0 M0 H0 ow σ H m/\Pu G E (f m) H λd=>∀v H',aL H H'->DV G (Ow O0 ow) H' v d->Q v H'
noncomputable def tB (G:Gx)(E:XK)(f:Me->Res D):TE:=λσ H Q=>∃O0 M0 H0 ow m,Rel G O0 M0 H0 ow σ H m/\Pu G E (f m) H λd=>∀v H',aL H H'->DW G (Ow O0 ow) H' v d->Q v H'
noncomputable def tN (G:Gx)(E:XK)(f:Me->Res D):TE:=λσ H Q=>∃O0 M0 H0 ow m,Rel G O0 M0 H0 ow σ H m/\Pu G E (f m) H λd=>∀p H',aL H H'->H p=none->OV G (Op (Ow O0 ow) p) H' p d->Q (.ref p) H'
noncomputable def tT (G:Gx)(E:XK)(f:Me->Res Bool):TT:=λσ H Q=>∃O0 M0 H0 ow m,Rel G O0 M0 H0 ow σ H m/\Pu G E (f m) H λb=>∀H',aL H H'->Q b H'
noncomputable def tAE (G:Gx)(E:XK)(f:Me->Res (List D)):TA:=λσ H Q=>∃O0 M0 H0 ow m,Rel G O0 M0 H0 ow σ H m/\Pu G E (f m) H λds=>∀vs H',aL H H'->DVs G (Ow O0 ow) H' vs ds->Q vs H'
noncomputable def tAB (G:Gx)(E:XK)(f:Me->Res (List D)):TA:=λσ H Q=>∃O0 M0 H0 ow m,Rel G O0 M0 H0 ow σ H m/\Pu G E (f m) H λds=>∀vs H',aL H H'->DWs G (Ow O0 ow) H' vs ds->Q vs H'
noncomputable abbrev FE (X:Cx)(E:XK)(e:Expr)(f:Me->Res D):Prop:=PE X e (tE (gx X) E f)
noncomputable abbrev FB (X:Cx)(E:XK)(e:Expr)(f:Me->Res D):Prop:=PE X e (tB (gx X) E f)
noncomputable abbrev FN (X:Cx)(E:XK)(e:Expr)(f:Me->Res D):Prop:=PE X e (tN (gx X) E f)
noncomputable abbrev FT (X:Cx)(E:XK)(e:Expr)(f:Me->Res Bool):Prop:=PT X e (tT (gx X) E f)
noncomputable abbrev FW (X:Cx)(E:XK)(e:Expr)(f:Me->Res Bool):Prop:=PW X e (tT (gx X) E f)
noncomputable abbrev FAE (X:Cx)(E:XK)(es:List Expr)(f:Me->Res (List D)):Prop:=PA X es (tAE (gx X) E f)
noncomputable abbrev FAB (X:Cx)(E:XK)(es:List Expr)(f:Me->Res (List D)):Prop:=PA X es (tAB (gx X) E f)
theorem Ds {X:Cx}{e:Expr}{T T':TT}(h:PT X e T)(k:∀σ H Q,T' σ H Q->T σ H Q):PT X e T':=λpins s σ H Q I q=>h pins s σ H Q I (k σ H Q q)
theorem N8 {X:Cx}{e:Expr}{T T':TT}(h:PW X e T)(k:∀σ H Q,T' σ H Q->T σ H Q):PW X e T':=λwh pins s σ H Q I q=>h wh pins s σ H Q I (k σ H Q q)
theorem pJ {X:Cx}{es:List Expr}{T T':TA}(h:PA X es T)(k:∀σ H Q,T' σ H Q->T σ H Q):PA X es T':=λpos pins s σ H Q I q=>h pos pins s σ H Q I (k σ H Q q)
section
variable {X:Cx}{E:XK}{e a b c:Expr}{es:List Expr}{f fa fb fc:Me->Res D}{fs:Me->Res (List D)}{ft fu:Me->Res Bool}{pos:Pos}
theorem aq (h:FE X E e f):FB X E e f:=bJ h λ_ _ _ hE=>xq5 hE λO0 M0 H0 ow m R q=>⟨O0,M0,H0,ow,m,R,q.imp (aL.refl _) λ_ k v H' g d=>k v H' g (.inl d)⟩
theorem fD (h:FN X E e f):FE X E e f:=bJ h λ_ _ _ hE=>xq5 hE λO0 M0 H0 ow m R q=>⟨O0,M0,H0,ow,m,R,q.imp (aL.refl _) λ_ k p H' g n o=>
 k _ H' g ((o.cu λb z=>.inl (.inl z)).dv (R.Ib n))⟩
noncomputable def aH (i:Nat):Me->Res D:=λm=>match m[i]? with
 |some (.fz d)=>.ok d
 |_=>.stuck
noncomputable def ak (i:Nat):Me->Res D:=λm=>match m[i]? with
 |some (.fz d)=>.ok d
 |some (.ow d)=>.ok d
 |some (.io d)=>.ok d
 |some (.bw d)=>.ok d
 |_=>.stuck
theorem aC (i:Nat){x:Str}(hN:X.N[i]? = some x:=by rfl)(hv:Vis X.env.scope x:=by first | exact Or.inl rfl | exact Or.inr (Or.inl rfl) | exact Or.inr (Or.inr rfl))(hd:(x == ("__debug__" : Str))=false:=by decide)
  (hcd:(x == ("__classdict__" : Str))=false:=by decide):FE X E (.Name x pos) (aH i):=bJ (jC hN hv hd hcd) λσ H Q hE=>xq5 hE λO0 M0 H0 ow m R q=>by
 unfold aH at q
 cases e:m[i]? with
 |none=>rw [e] at q; exact q.elim
 |some s=>
  rw [e] at q
  cases s with
  |fz d=>
   obtain ⟨_,x,h1,h2⟩:=R.slot i _ e
   exact ⟨x,h1,q x H (aL.refl _) h2⟩
  |_=>exact q.elim
theorem ao (i:Nat){x:Str}(hN:X.N[i]? = some x:=by rfl)(hv:Vis X.env.scope x:=by first | exact Or.inl rfl | exact Or.inr (Or.inl rfl) | exact Or.inr (Or.inr rfl))(hd:(x == ("__debug__" : Str))=false:=by decide)
  (hcd:(x == ("__classdict__" : Str))=false:=by decide):FB X E (.Name x pos) (ak i):=bJ (jC hN hv hd hcd) λσ H Q hE=>xq5 hE λO0 M0 H0 ow m R q=>by
 unfold ak at q
 cases e:m[i]? with
 |none=>rw [e] at q; exact q.elim
 |some s=>
  rw [e] at q
  cases s with
  |fz d=>
   obtain ⟨_,x,h1,h2⟩:=R.slot i _ e
   exact ⟨x,h1,q x H (aL.refl _) (.inl h2)⟩
  |bw d=>
   obtain ⟨_,x,h1,h2⟩:=R.slot i _ e
   exact ⟨x,h1,q x H (aL.refl _) h2⟩
  |ow d=>
   obtain ⟨a,h1,h2,h3,h4⟩:=R.slot i _ e
   exact ⟨_,h3,q _ H (aL.refl _) (.inr ⟨a,rfl,.inr ⟨i,h1⟩,h4⟩)⟩
  |io d=>
   obtain ⟨a,h1,h2,h3,h4⟩:=R.slot i _ e
   exact ⟨_,h3,q _ H (aL.refl _) (.inr ⟨a,rfl,.inr ⟨i,h1⟩,h4⟩)⟩
  |un=>exact q.elim
  |hd _ _ _=>exact q.elim
noncomputable def fC (d:D):Me->Res D:=λ_=>.ok d
theorem Xf {d:D}{v:V}(h:PE X e (tC v))(hd:∀O H,DV (gx X) O H v d):FE X E e (fC d):=bJ h λσ H Q hE=>xq5 hE λO0 M0 H0 ow m R q=>q v H (aL.refl _) (hd _ _)
theorem aD {i j pos}:FE X E (.Constant (.int i) j pos) (fC (.int i)):=Xf aah λ_ _=>.int i
theorem qu {b j pos}:FE X E (.Constant (.bool b) j pos) (fC (.bl b)):=Xf abl λ_ _=>.bl b
theorem bC {x j pos}:FE X E (.Constant (.str x) j pos) (fC (.str x)):=Xf aau λ_ _=>.str x
theorem pH {x:Str}{v:V}{u:Value}{d:D}(hg:Gl X x)(hm:X.mg x=some u)(r:RelV v u)(hd:∀O H,DV (gx X) O H v d)(hdb:(x == ("__debug__" : Str))=false:=by decide):FE X E (.Name x pos) (fC d):=Xf (Xy hg hm r hdb) hd
noncomputable def rG (G:Gx)(g:D->D->Option D):R2:=λx y H Q=>∃O d e r,(∀b,O b->gY (H b))/\DW G O H x d/\DW G O H y e/\g d e=some r/\∀v H',aL H H'->DV G O H' v r->Q v H'
noncomputable def rGB (G:Gx)(g:D->D->Option Bool):R2:=λx y H Q=>∃O d e r,(∀b,O b->gY (H b))/\DW G O H x d/\DW G O H y e/\g d e=some r/\Q (.bl r) H
noncomputable def rG1 (G:Gx)(g:D->Option D):V->Hp->VK->Prop:=λx H Q=>∃O d r,(∀b,O b->gY (H b))/\DW G O H x d/\g d=some r/\∀v H',aL H H'->DV G O H' v r->Q v H'
noncomputable def rGC (G:Gx)(g:List D->Option D):List V->Hp->VK->Prop:=λxs H Q=>∃O ds r,(∀b,O b->gY (H b))/\DWs G O H xs ds/\g ds=some r/\∀v H',aL H H'->DV G O H' v r->Q v H'
noncomputable def Yt (G:Gx)(g:List D->Option D):List V->Hp->VK->Prop:=λxs H Q=>∃O ds r,(∀b,O b->gY (H b))/\DWs G O H xs ds/\g ds=some r/\∀p H',aL H H'->H p=none->OV G (Op O p) H' p r->Q (.ref p) H'
noncomputable def rGM (G:Gx)(g:D->List D->Option D):V->List V->Hp->VK->Prop:=λx xs H Q=>∃O d ds r,(∀b,O b->gY (H b))/\DW G O H x d/\DWs G O H xs ds/\g d ds=some r/\∀v H',aL H H'->DV G O H' v r->Q v H'
noncomputable def au (g:D->D->Option D)(fa fb:Me->Res D):Me->Res D:=λm=>(fa m).bind λx=>(fb m).bind λy=>ofO (g x y)
noncomputable def rn (g:D->D->Option Bool)(fa fb:Me->Res D):Me->Res D:=λm=>(fa m).bind λx=>(fb m).bind λy=>ofO ((g x y).map D.bl)
noncomputable def aM (g:D->D->Option Bool)(fa fb:Me->Res D):Me->Res Bool:=λm=>(fa m).bind λx=>(fb m).bind λy=>ofO (g x y)
noncomputable def fUn (g:D->Option D)(fa:Me->Res D):Me->Res D:=λm=>(fa m).bind λx=>ofO (g x)
theorem two {G:Gx}{σ:L2.St}{H:Hp}{Q:VK}{r:R2}{O0 M0:Addr->Prop}{H0:Hp}{ow:Os}{m:Me}{β:Type}{g:D->D->Res β}{K:β->Hp->Prop}(R:Rel G O0 M0 H0 ow σ H m)(h:Pu G E ((fa m).bind λx=>(fb m).bind λy=>g x y) H λz=>K z H)
  (hm:∀z H',K z H->aL H H'->K z H')
  (k:∀x y d e H',aL H H'->DW G (Ow O0 ow) H' x d->DW G (Ow O0 ow) H' y e->Pu G E (g d e) H' (λz=>K z H')->Rel G O0 M0 H0 ow σ H' m->r x y H' Q):tOp r (tB G E fa) (tB G E fb) σ H Q:=by
 refine ⟨O0,M0,H0,ow,m,R,h.bind.imp (aL.refl _) λd q x H1 g1 hx=>⟨O0,M0,H0,ow,m,R.mono g1,q.bind.imp g1 λe q2 y H2 g2 hy=>?_⟩⟩
 exact k x y d e H2 (g1.trans g2) (hx.mono g2) hy (q2.imp (g1.trans g2) λz kz=>hm z _ kz (g1.trans g2)) (R.mono (g1.trans g2))
theorem aJ {g:D->D->Option D}{op:Operator}(ho:OpR X (binaryOp op) (rG (gx X) g))(ha:FB X E a fa)(hb:FB X E b fb):FE X E (.BinOp a op b pos) (au g fa fb):=
 bJ (abN ho ha hb) λσ H Q hE=>xq5 hE λO0 M0 H0 ow m R q=>two R (K:=λz H=>∀v H',aL H H'->DV (gx X) (Ow O0 ow) H' v z->Q v H') q (λ_ _ k g v H' g' d=>k v H' (g.trans g') d) λx y d e H' g hx hy q' R'=>by
  obtain ⟨r,hr,k⟩:=q'.ofO
  exact ⟨_,d,e,r,R'.mutk,hx,hy,hr,k⟩
theorem ig {g:D->D->Option D}(ho:IxR X (rG (gx X) g))(ha:FB X E a fa)(hb:FB X E b fb)(hs:Np b):FE X E (.Subscript a b pos) (au g fa fb):=
 bJ (abj ho ha hb hs) λσ H Q hE=>xq5 hE λO0 M0 H0 ow m R q=>two R (K:=λz H=>∀v H',aL H H'->DV (gx X) (Ow O0 ow) H' v z->Q v H') q (λ_ _ k g v H' g' d=>k v H' (g.trans g') d) λx y d e H' g hx hy q' R'=>by
  obtain ⟨r,hr,k⟩:=q'.ofO
  exact ⟨_,d,e,r,R'.mutk,hx,hy,hr,k⟩
theorem omap {α β:Type}{o:Option α}{f:α->β}{r:β}(h:o.map f=some r):∃a,o=some a/\f a=r:=by
 cases o with
 |none=>cases h
 |some a=>exact ⟨a,rfl,Option.some.inj h⟩
theorem sS {g:D->D->Option Bool}{op:CmpOp}(ho:OpR X (compareOp op) (rGB (gx X) g))(ha:FB X E a fa)(hb:FB X E b fb)(hm:behindInMarks op b=false):FE X E (.Compare a [op] [b] pos) (rn g fa fb):=
 bJ (U6 ho ha hb hm) λσ H Q hE=>xq5 hE λO0 M0 H0 ow m R q=>two R (K:=λz H=>∀v H',aL H H'->DV (gx X) (Ow O0 ow) H' v z->Q v H') q (λ_ _ k g v H' g' d=>k v H' (g.trans g') d) λx y d e H' g hx hy q' R'=>by
  obtain ⟨r,hr,k⟩:=q'.ofO
  obtain ⟨c,hc,rfl⟩:=omap hr
  exact ⟨_,d,e,c,R'.mutk,hx,hy,hc,k _ _ (aL.refl _) (.bl c)⟩
theorem bL {g:D->D->Option Bool}{op:CmpOp}(ho:OpR X (compareOp op) (rGB (gx X) g))(ha:FB X E a fa)(hb:FB X E b fb)(hm:behindInMarks op b=false):FT X E (.Compare a [op] [b] pos) (aM g fa fb):=
 Ds (Wb ho ha hb hm) λσ H Q hE=>xq5 hE λO0 M0 H0 ow m R q=>two R (K:=λz H=>∀H',aL H H'->Q z H') q (λ_ _ k g H' g'=>k H' (g.trans g')) λx y d e H' g hx hy q' R'=>by
  obtain ⟨c,hc,k⟩:=q'.ofO
  exact ⟨_,d,e,c,R'.mutk,hx,hy,hc,c,rfl,k _ (aL.refl _)⟩
theorem By {g:D->Option D}{op:UnaryOp}(ho:UnR X (unaryOp op) (rG1 (gx X) g))(ha:FB X E a fa):FE X E (.UnaryOp op a pos) (fUn g fa):=
 bJ (abm ho ha) λσ H Q hE=>xq5 hE λO0 M0 H0 ow m R q=>⟨O0,M0,H0,ow,m,R,q.bind.imp (aL.refl _) λd q x H1 g1 hx=>by
  obtain ⟨r,hr,k⟩:=q.ofO
  exact ⟨_,d,r,(R.mono g1).mutk,hx,hr,λv H' g d=>k v H' (g1.trans g) d⟩⟩
noncomputable def fTv (fa:Me->Res D):Me->Res Bool:=λm=>(fa m).bind λx=>match x with
 | .bl b=>.ok b
 |_=>.stuck
theorem jk (h:FE X E e f)(he:∀whole,isTrue e X.env whole=(do let v ← whole; standAt e.pos; holding [v] (truthy v)):=by intro _; rfl):FT X E e (fTv f):=
 Ds (YB h he) λσ H Q hE=>xq5 hE λO0 M0 H0 ow m R q=>⟨O0,M0,H0,ow,m,R,q.bind.imp (aL.refl _) λd q v H' g hv=>by
  cases d with
  |bl b=>cases hv; exact ⟨b,rfl,q H' g⟩
  |_=>exact q.elim⟩
noncomputable def kO (ft:Me->Res Bool):Me->Res Bool:=λm=>(ft m).bind λc=>.ok (!c)
noncomputable def sJ (ft fu:Me->Res Bool):Me->Res Bool:=λm=>(ft m).bind λc=>if c then fu m else .ok false
noncomputable def pC (ft fu:Me->Res Bool):Me->Res Bool:=λm=>(ft m).bind λc=>if c then .ok true else fu m
theorem mJ (h:FT X E a ft):FT X E (.UnaryOp .Not a pos) (kO ft):=Ds (YX h) λσ H Q hE=>xq5 hE λO0 M0 H0 ow m R q=>⟨O0,M0,H0,ow,m,R,q.bind.imp (aL.refl _) λb q H' g=>q H' g⟩
theorem MN (h:FT X E a ft):FW X E (.BoolOp .And [a] pos) ft:=WQ h
theorem Av (h:FT X E a ft):FW X E (.BoolOp .Or [a] pos) ft:=aap h
theorem Rv (ha:FT X E a ft)(hb:FW X E (.BoolOp .And (b::es) pos) fu):FW X E (.BoolOp .And (a::b::es) pos) (sJ ft fu):=
 N8 (Z6 ha hb) λσ H Q hE=>xq5 hE λO0 M0 H0 ow m R q=>⟨O0,M0,H0,ow,m,R,q.bind.imp (aL.refl _) λb q H' g=>by
  cases b with
  |true=>rw [if_pos rfl] at q ⊢; exact ⟨O0,M0,H0,ow,m,R.mono g,q.imp g λ_ k H1 g1=>k H1 (g.trans g1)⟩
  |false=>rw [if_neg Bool.false_ne_true] at q ⊢; exact q H' g⟩
theorem sW (ha:FT X E a ft)(hb:FW X E (.BoolOp .Or (b::es) pos) fu):FW X E (.BoolOp .Or (a::b::es) pos) (pC ft fu):=
 N8 (aaS ha hb) λσ H Q hE=>xq5 hE λO0 M0 H0 ow m R q=>⟨O0,M0,H0,ow,m,R,q.bind.imp (aL.refl _) λb q H' g=>by
  cases b with
  |false=>rw [if_neg Bool.false_ne_true] at q ⊢; exact ⟨O0,M0,H0,ow,m,R.mono g,q.imp g λ_ k H1 g1=>k H1 (g.trans g1)⟩
  |true=>rw [if_pos rfl] at q ⊢; exact q H' g⟩
theorem Kh (h:FW X E e ft):FT X E e ft:=L2.PW.pt h
noncomputable def Px (fa fb:Me->Res D):Me->Res D:=λm=>(fTv fa m).bind λc=>if c then fb m else .ok (.bl false)
noncomputable def fOr (fa fb:Me->Res D):Me->Res D:=λm=>(fTv fa m).bind λc=>if c then .ok (.bl true) else fb m
theorem Rh {G:Gx}{O:Addr->Prop}{m:Me}{H:Hp}{k:Bool->Prop}(h:Pu G E (fTv fa m) H k):Pu G E (fa m) H λd=>∃b,d=.bl b/\k b:=by
 refine h.bind.imp (aL.refl _) λd q=>?_
 cases d with
 |bl b=>exact ⟨b,rfl,q⟩
 |_=>exact q.elim
theorem Jo {op}(h:FE X E a fa):FE X E (.BoolOp op [a] pos) fa:=aav h
theorem Jl (ha:FE X E a fa)(hb:FE X E (.BoolOp .And (b::es) pos) fb):FE X E (.BoolOp .And (a::b::es) pos) (Px fa fb):=
 bJ (YM ha hb) λσ H Q hE=>xq5 hE λO0 M0 H0 ow m R q=>⟨O0,M0,H0,ow,m,R,(Rh (O:=O0) q.bind).imp (aL.refl _) λd ⟨b,e,q⟩ v H' g hv=>by
  subst e
  cases hv
  refine ⟨b,rfl,?_⟩
  cases b with
  |true=>rw [if_pos rfl] at q ⊢; exact ⟨O0,M0,H0,ow,m,R.mono g,q.imp g λ_ k v H1 g1=>k v H1 (g.trans g1)⟩
  |false=>rw [if_neg Bool.false_ne_true] at q ⊢; exact q _ H' g (.bl false)⟩
theorem aa4 (ha:FE X E a fa)(hb:FE X E (.BoolOp .Or (b::es) pos) fb):FE X E (.BoolOp .Or (a::b::es) pos) (fOr fa fb):=
 bJ (abI ha hb) λσ H Q hE=>xq5 hE λO0 M0 H0 ow m R q=>⟨O0,M0,H0,ow,m,R,(Rh (O:=O0) q.bind).imp (aL.refl _) λd ⟨b,e,q⟩ v H' g hv=>by
  subst e
  cases hv
  refine ⟨b,rfl,?_⟩
  cases b with
  |false=>rw [if_neg Bool.false_ne_true] at q ⊢; exact ⟨O0,M0,H0,ow,m,R.mono g,q.imp g λ_ k v H1 g1=>k v H1 (g.trans g1)⟩
  |true=>rw [if_pos rfl] at q ⊢; exact q _ H' g (.bl true)⟩
noncomputable def aA:Me->Res (List D):=λ_=>.ok []
noncomputable def aj (fa:Me->Res D)(fs:Me->Res (List D)):Me->Res (List D):=λm=>(fa m).bind λx=>(fs m).bind λxs=>.ok (x::xs)
theorem az:FAE X E [] aA:=pJ rA λσ H Q hE=>xq5 hE λO0 M0 H0 ow m R q=>q [] H (aL.refl _) .nil
theorem aZ:FAB X E [] aA:=pJ rA λσ H Q hE=>xq5 hE λO0 M0 H0 ow m R q=>q [] H (aL.refl _) .nil
theorem aa (ha:FE X E e fa)(hr:FAE X E es fs)(hs:starEach (e::es) X.env=(false,eval e X.env)::starEach es X.env:=by rfl):FAE X E (e::es) (aj fa fs):=
 pJ (jQ ha hr hs) λσ H Q hE=>xq5 hE λO0 M0 H0 ow m R q=>⟨O0,M0,H0,ow,m,R,q.bind.imp (aL.refl _) λd q v H1 g1 hv=>⟨O0,M0,H0,ow,m,R.mono g1,q.bind.imp g1 λds q vs H2 g2 hvs=>q _ H2 (g1.trans g2) (.cons (hv.mono g2) hvs)⟩⟩
theorem aP (ha:FB X E e fa)(hr:FAB X E es fs)(hs:starEach (e::es) X.env=(false,eval e X.env)::starEach es X.env:=by rfl):FAB X E (e::es) (aj fa fs):=
 pJ (jQ ha hr hs) λσ H Q hE=>xq5 hE λO0 M0 H0 ow m R q=>⟨O0,M0,H0,ow,m,R,q.bind.imp (aL.refl _) λd q v H1 g1 hv=>⟨O0,M0,H0,ow,m,R.mono g1,q.bind.imp g1 λds q vs H2 g2 hvs=>q _ H2 (g1.trans g2) (.cons (hv.mono g2) hvs)⟩⟩
noncomputable def aU (fs:Me->Res (List D)):Me->Res D:=λm=>(fs m).bind λds=>if ds.length<=sizeLine then .ok (.tup ds) else .stuck
noncomputable def gM (fs:Me->Res (List D)):Me->Res D:=λm=>(fs m).bind λds=>if ds.length<=sizeLine then .ok (.lst ds) else .stuck
theorem Hh {G:Gx}{α:Type}{c:Prop}[Decidable c]{r:α}{H:Hp}{k:α->Prop}(h:Pu G E (if c then .ok r else .stuck) H k):c/\k r:=by
 by_cases z:c
 ·rw [if_pos z] at h; exact ⟨z,h⟩
 ·rw [if_neg z] at h; exact h.elim
theorem aR {x1}(h:FAE X E es fs):FE X E (.Tuple es x1 pos) (aU fs):=bJ (N7 h) λσ H Q hE=>xq5 hE λO0 M0 H0 ow m R q=>⟨O0,M0,H0,ow,m,R,q.bind.imp (aL.refl _) λds q vs H1 g1 hv=>by
 obtain ⟨hz,k⟩:=Hh q
 exact ⟨by rw [bU hv]; exact hz,λp H' g e=>k _ H' (g1.trans g) (.tup (SqU.of e) (hv.mono g))⟩⟩
theorem gQ (h:FAE X E es fs):FN X E (.List es pos) (gM fs):=bJ (Zm (Yr h)) λσ H Q hE=>xq5 hE λO0 M0 H0 ow m R q=>⟨λvs H1=>aL H H1/\∃ds,DVs (gx X) (Ow O0 ow) H1 vs ds/\ds.length<=sizeLine/\∀p H',aL H H'->H p=none->OV (gx X) (Op (Ow O0 ow) p) H' p (.lst ds)->Q (.ref p) H',⟨O0,M0,H0,ow,m,R,q.bind.imp (aL.refl _) λds q vs H1 g1 hv=>⟨g1,ds,hv,Hh q⟩⟩,λvs H1 ⟨g1,ds,hv,hz,k⟩=>
 ⟨by rw [bU hv]; exact hz,λp hp=>k p _ (g1.trans (bQ hp _)) (g1.free hp) ⟨vs,bA,(hv.cu λb z=>z.elim .inl λe=>.inr (by rw [e]; exact hp)).mono (bQ hp _)⟩⟩⟩
noncomputable def aW (g:List D->Option D)(fs:Me->Res (List D)):Me->Res D:=λm=>(fs m).bind λds=>ofO (g ds)
theorem Ma {g:List D->Option D}{σ:L2.St}{H:Hp}{Q:VK}(h:tE (gx X) E (aW g fs) σ H Q):tCB (rGC (gx X) g) (tAB (gx X) E fs) σ H Q:=by
 obtain ⟨O0,M0,H0,ow,m,R,q⟩:=h
 refine ⟨O0,M0,H0,ow,m,R,q.bind.imp (aL.refl _) λds q vs H1 g1 hv=>?_⟩
 obtain ⟨r,hr,k⟩:=q.ofO
 exact ⟨_,ds,r,(R.mono g1).mutk,hv,hr,λv H' g d=>k v H' (g1.trans g) d⟩
theorem Tf {g:List D->Option D}{σ:L2.St}{H:Hp}{Q:VK}(h:tN (gx X) E (aW g fs) σ H Q):tCB (Yt (gx X) g) (tAB (gx X) E fs) σ H Q:=by
 obtain ⟨O0,M0,H0,ow,m,R,q⟩:=h
 refine ⟨O0,M0,H0,ow,m,R,q.bind.imp (aL.refl _) λds q vs H1 g1 hv=>?_⟩
 obtain ⟨r,hr,k⟩:=q.ofO
 exact ⟨_,ds,r,(R.mono g1).mutk,hv,hr,λp H' g n d=>k p H' (g1.trans g) (g1.free n) d⟩
section
variable {x:Str}{p:Pos}{id T:String}{g:List D->Option D}
theorem cz (hc:kJ X (.builtin id) (rGC (gx X) g))(hg:Gl X x)(hm:X.mg x=none)(hv:bootBuiltins x=some (.builtin id))(ha:FAB X E (e::es) fs)(hn:x≠"__name__":=by decide)(hdb:(x == ("__debug__" : Str))=false:=by decide)
  (he:starEach (e::es) X.env=(false,eval e X.env)::starEach es X.env:=by rfl) (hpl:(backTo pos (starEach es X.env)).any (·.1)=false:=by rfl):FE X E (.Call (.Name x p) (e::es) [] pos) (aW g fs):=
 bJ (Ip hc hg hm hv ha hn hdb he hpl) λ_ _ _ h=>Ma h
theorem jw (hc:kJ X (.type T) (rGC (gx X) g))(hg:Gl X x)(hm:X.mg x=none)(hv:bootBuiltins x=some (.type T))(ha:FAB X E (e::es) fs)(hn:x≠"__name__":=by decide)(hdb:(x == ("__debug__" : Str))=false:=by decide)
  (he:starEach (e::es) X.env=(false,eval e X.env)::starEach es X.env:=by rfl) (hpl:(backTo pos (starEach es X.env)).any (·.1)=false:=by rfl):FE X E (.Call (.Name x p) (e::es) [] pos) (aW g fs):=
 bJ (xf hc hg hm hv ha hn hdb he hpl) λ_ _ _ h=>Ma h
theorem xF (hc:kJ X (.type T) (Yt (gx X) g))(hg:Gl X x)(hm:X.mg x=none)(hv:bootBuiltins x=some (.type T))(ha:FAB X E (e::es) fs)(hn:x≠"__name__":=by decide)(hdb:(x == ("__debug__" : Str))=false:=by decide)
  (he:starEach (e::es) X.env=(false,eval e X.env)::starEach es X.env:=by rfl) (hpl:(backTo pos (starEach es X.env)).any (·.1)=false:=by rfl):FN X E (.Call (.Name x p) (e::es) [] pos) (aW g fs):=
 bJ (xf hc hg hm hv ha hn hdb he hpl) λ_ _ _ h=>Tf h
end
noncomputable def tyD:String->D->Bool
 | "str",.str _=>true
 | "list",.lst _=>true
 | "dict",.dct _ _=>true
 | "dict",.dcu _ _=>true
 |_,_=>false
theorem aaW {G:Gx}{O:Addr->Prop}{H:Hp}{v:V}{d:D}{T:String}(h:DW G O H v d)(t:tyD T d=true):tyV G.K T v H:=by
 unfold tyD at t
 split at t
 ·cases jA h; rfl
 ·obtain ⟨a,xs,rfl,hx,_⟩:=jB h; exact .inl ⟨rfl,xs,hx⟩
 ·obtain ⟨a,kvs,vs,rfl,hx,_⟩:=JC h; exact .inr (.inr (.inl ⟨rfl,.inl ⟨kvs,hx⟩⟩))
 ·obtain ⟨a,kvs,vs,rfl,hx,_⟩:=UL h; exact .inr (.inr (.inl ⟨rfl,.inr ⟨_,kvs,.inl hx⟩⟩))
 ·cases t
noncomputable def KZ (T:String)(g:D->List D->Option D)(fo:Me->Res D)(fs:Me->Res (List D)):Me->Res D:=λm=>(fo m).bind λd=>if tyD T d=true then (fs m).bind λds=>ofO (g d ds) else .stuck
theorem DY {G:Gx}{α:Type}{c:Prop}[Decidable c]{r:Res α}{H:Hp}{k:α->Prop}(h:Pu G E (if c then r else .stuck) H k):c/\Pu G E r H k:=by
 by_cases z:c
 ·rw [if_pos z] at h; exact ⟨z,h⟩
 ·rw [if_neg z] at h; exact h.elim
section
variable {o:Expr}{name:Str}{apos cpos:Pos}{T id:String}{g:D->List D->Option D}
theorem aay (pa:PlainAttrs T)(slot:Slot T name id)(hty:typeOf (.builtin id)=pure (.type "method_descriptor"))(hm:MtR X id (rGM (gx X) g))(ho:FB X E o fa)(ha:FAB X E (e::es) fs)
  (hbase:attributeBase o name X.env (eval o X.env)=eval o X.env:=by rfl)
  (hfew:((backTo cpos (starEach (e::es) X.env)).all (λx=>!x.1) && (backToKw cpos (keywordEach [] X.env)).all (λx=>x.1.isSome)
   && decide ((e::es).length+([]:List Keyword).length+(if ([]:List Keyword).isEmpty then 0 else 1)<30))=true:=by rfl)
  (hline:(apos.endLine == cpos.line)=true:=by rfl) (hs:starEach (e::es) X.env=(false,eval e X.env)::starEach es X.env:=by rfl) (hplain:(backTo cpos (starEach es X.env)).any (·.1)=false:=by rfl):
  FE X E (.Call (.Attribute o name apos) (e::es) [] cpos) (KZ T g fa fs):=
 bJ (Hv pa slot hty hm ho ha hbase hfew hline hs hplain) λσ H Q hE=>xq5 hE λO0 M0 H0 ow m R q=>⟨O0,M0,H0,ow,m,R,q.bind.imp (aL.refl _) λd q v H1 g1 hv=>by
  obtain ⟨t,q⟩:=DY q
  refine ⟨aaW hv t,O0,M0,H0,ow,m,R.mono g1,q.bind.imp g1 λds q vs H2 g2 hvs=>?_⟩
  obtain ⟨r,hr,k⟩:=q.ofO
  exact ⟨_,d,ds,r,(R.mono (g1.trans g2)).mutk,hv.mono g2,hvs,hr,λv H' g d=>k v H' ((g1.trans g2).trans g) d⟩⟩
end
end
open PySem PySem.Spec PyProof.Rows L2 Hd
inductive Fl where
 |nx | bk | ct | rt (fr:Bool) (d:D)
noncomputable def Fr (G:Gx)(O:Addr->Prop)(H0:Hp)(v:V)(H':Hp)(d:D):Prop:=∃p,v=.ref p/\H0 p=none/\OV G (Op O p) H' p d
noncomputable def Ss (G:Gx)(E:XK)(O0 M0:Addr->Prop)(H0:Hp)(ow:Os)(H:Hp)(W:Ends)(r:Res (Fl×Me)):Prop:=match r with
 | .ok (.nx,m')=>∀ow' σ' H',du G O0 M0 H0 ow' σ' H' m'->Go O0 ow H ow' H'->W.nx σ' H'
 | .ok (.bk,m')=>∀ow' σ' H',du G O0 M0 H0 ow' σ' H' m'->Go O0 ow H ow' H'->W.bk σ' H'
 | .ok (.ct,m')=>∀ow' σ' H',du G O0 M0 H0 ow' σ' H' m'->Go O0 ow H ow' H'->W.ct σ' H'
 | .ok (.rt fr d,m')=>∀v ow' σ' H',du G O0 M0 H0 ow' σ' H' m'->Go O0 ow H ow' H'->DV G (Ow O0 ow') H' v d->(fr=true->Fr G (Ow O0 ow') H0 v H' d)->W.rt v H'
 | .exc c=>∀C H',G.mg c=some (.ref C)->Kp M0 H0 H'->E (.ref C) none H'
 | .stuck=>False
noncomputable def tS (G:Gx)(E:XK)(g:Me->Res (Fl×Me)):TS:=λW σ H=>∃O0 M0 H0 ow m,du G O0 M0 H0 ow σ H m/\Ss G E O0 M0 H0 ow H W (g m)
noncomputable abbrev FS (X:Cx)(E:XK)(st:Stmt)(g:Me->Res (Fl×Me)):Prop:=PS X st (tS (gx X) E g)
noncomputable abbrev FSs (X:Cx)(E:XK)(st:List Stmt)(g:Me->Res (Fl×Me)):Prop:=PSs X st (tS (gx X) E g)
theorem cM {X:Cx}{st:Stmt}{T T':TS}(h:PS X st T)(k:∀W σ H,T' W σ H->T W σ H):PS X st T':=λpins s σ H W I q=>h pins s σ H W I (k W σ H q)
theorem vq {X:Cx}{st:List Stmt}{T T':TS}(h:PSs X st T)(k:∀W σ H,T' W σ H->T W σ H):PSs X st T':=λpins s σ H W I q=>h pins s σ H W I (k W σ H q)
section
variable {G:Gx}{E:XK}{O0 M0:Addr->Prop}{H0 H H':Hp}{ow ow':Os}{σ:L2.St}{m:Me}{W:Ends}{r:Res (Fl×Me)}
theorem Ss.pu {α:Type}{x:Res α}{k:α->Res (Fl×Me)}(R:Rel G O0 M0 H0 ow σ H m)(h:Ss G E O0 M0 H0 ow H W (x.bind k)):Pu G E x H λa=>Ss G E O0 M0 H0 ow H W (k a):=by
 cases x with
 |ok a=>exact h
 |exc c=>exact λC H' e g=>h C H' e λb o e n=>g b o (R.keep b o e n)
 |stuck=>exact h
theorem Ss.go (h:Ss G E O0 M0 H0 ow H W r)(g:Go O0 ow H ow' H'):Ss G E O0 M0 H0 ow' H' W r:=by
 cases r with
 |ok a=>
  obtain ⟨f,m'⟩:=a
  cases f with
  |nx=>exact λow1 σ1 H1 R g1=>h ow1 σ1 H1 R (g.trans g1)
  |bk=>exact λow1 σ1 H1 R g1=>h ow1 σ1 H1 R (g.trans g1)
  |ct=>exact λow1 σ1 H1 R g1=>h ow1 σ1 H1 R (g.trans g1)
  |rt fr d=>exact λv ow1 σ1 H1 R g1=>h v ow1 σ1 H1 R (g.trans g1)
 |exc c=>exact h
 |stuck=>exact h
theorem Ss.ofO {α:Type}{x:Option α}{k:α->Res (Fl×Me)}(h:Ss G E O0 M0 H0 ow H W ((ofO x).bind k)):∃a,x=some a/\Ss G E O0 M0 H0 ow H W (k a):=by
 cases x with
 |some a=>exact ⟨a,rfl,h⟩
 |none=>exact h.elim
end
noncomputable def gNx:Me->Res (Fl×Me):=λm=>.ok (.nx,m)
noncomputable def aK (g k:Me->Res (Fl×Me)):Me->Res (Fl×Me):=λm=>match g m with
 | .ok (.nx,m')=>k m'
 |r=>r
noncomputable def bu (i:Nat)(f:Me->Res D):Me->Res (Fl×Me):=λm=>(f m).bind λd=>.ok (.nx,m.set i (.fz d))
noncomputable def jE (i:Nat)(f:Me->Res D):Me->Res (Fl×Me):=λm=>(f m).bind λd=>if i<m.length then .ok (.nx,m.set i (.ow d)) else .stuck
noncomputable def gEx (f:Me->Res D):Me->Res (Fl×Me):=λm=>(f m).bind λ_=>.ok (.nx,m)
noncomputable def bD (f:Me->Res D):Me->Res (Fl×Me):=λm=>(f m.let).bind λd=>.ok (.rt false d,m.let)
noncomputable def jz (f:Me->Res D):Me->Res (Fl×Me):=λm=>(f m.let).bind λd=>.ok (.rt true d,m.let)
noncomputable def uw (i:Nat):Me->Res (Fl×Me):=λm=>match m[i]? with
 |some (.ow d)=>.ok (.rt true d,m.let)
 |some (.fz d)=>.ok (.rt false d,m.let)
 |_=>.stuck
noncomputable def gIf (t:Me->Res Bool)(g k:Me->Res (Fl×Me)):Me->Res (Fl×Me):=λm=>(t m).bind λc=>if c then g m else k m
noncomputable def Sd (i:Nat)(k:Me->Res (Fl×Me)):Me->Res (Fl×Me):=λm=>match m[i]? with
 |some (.ow d)=>k (m.set i (.fz d))
 |_=>k m
section
variable {X:Cx}{E:XK}{e c:Expr}{es:List Expr}{st:Stmt}{rest sa sb:List Stmt}{f:Me->Res D}{ft:Me->Res Bool}{g k ga gb:Me->Res (Fl×Me)}{pos pos':Pos}{i:Nat}{x:Str}
theorem bB:FSs X E [] gNx:=vq Ve λW σ H hE=>xq5 hE λO0 M0 H0 ow m R q=>q ow σ H R (Go.refl (aL.refl _))
theorem Zr {G:Gx}{W:Ends}{σ:L2.St}{H:Hp}(h:tS G E (aK g k) W σ H):aaT (tS G E g) (tS G E k) W σ H:=by
 obtain ⟨O0,M0,H0,ow,m,R,q⟩:=h
 refine ⟨O0,M0,H0,ow,m,R,?_⟩
 unfold aK at q
 cases z:g m with
 |ok a=>
  obtain ⟨f,m'⟩:=a
  rw [z] at q
  cases f with
  |nx=>exact λow' σ' H' R' g'=>⟨O0,M0,H0,ow',m',R',Ss.go q g'⟩
  |bk=>exact q
  |ct=>exact q
  |rt fr d=>exact q
 |exc c=>rw [z] at q; exact q
 |stuck=>rw [z] at q; exact q
theorem aB (h1:FS X E st g)(h2:FSs X E rest k):FSs X E (st::rest) (aK g k):=vq (HR h1 h2) λW σ H h=>Zr h
theorem aF (h1:FS X E st g):FSs X E [st] g:=Wj h1
theorem V2 (i:Nat)(h:FSs X E rest k):FSs X E rest (Sd i k):=vq h λW σ H hE=>xq5 hE λO0 M0 H0 ow m R q=>by
 unfold Sd at q
 cases z:m[i]? with
 |none=>rw [z] at q; exact ⟨O0,M0,H0,ow,m,R,q⟩
 |some s=>
  rw [z] at q
  cases s with
  |ow d=>
   obtain ⟨a,h1,h2,h3,h4⟩:=R.slot i _ z
   have na:¬Ow O0 (owS ow i none) a:=λw=>by
    rcases w with w | ⟨j,w⟩
    ·exact R.no0 i a h1 w
    ·by_cases e:j=i
     ·subst e; rw [ir] at w; cases w
     ·rw [gj e] at w; exact e (R.inj j i a w h1)
   have sub:∀b,Ow O0 (owS ow i none) b->Ow O0 ow b\/H b=none:=λb z=>.inl z.sub
   have hi:=tD z
   have R2:du (gx X) O0 M0 H0 (owS ow i none) σ H (m.set i (.fz d)):=by
    refine ⟨⟨by simp [R.len],R.keep,R.m0,λb z=>R.mutk b z.sub,λj b e=>?_,λj k b e1 e2=>?_,λj hj=>?_,λj s e=>?_⟩,Ah R.nb λ_ z=>by cases z⟩
    ·by_cases q:j=i
     ·subst q; rw [ir] at e; cases e
     ·rw [gj q] at e; exact R.no0 j b e
    ·by_cases q:j=i
     ·subst q; rw [ir] at e1; cases e1
     ·by_cases q':k=i
      ·subst q'; rw [ir] at e2; cases e2
      ·rw [gj q] at e1; rw [gj q'] at e2; exact R.inj j k b e1 e2
    ·by_cases q:j=i
     ·subst q; exact ir
     ·rw [gj q]; exact R.out j (by simpa using hj)
    ·by_cases q:j=i
     ·subst q
      rw [List.getElem?_set_self hi] at e
      cases e
      rw [ir]
      exact ⟨rfl,.ref a,h3,(h4.cu sub).dv na⟩
     ·rw [List.getElem?_set_ne (Ne.symm q)] at e
      rw [gj q]
      exact (R.slot j s e).cu sub λ_ _ b _=>Classical.em _
   exact ⟨O0,M0,H0,_,_,R2,Ss.go q Go.set⟩
  |_=>exact ⟨O0,M0,H0,ow,m,R,q⟩
theorem Uo {G:Gx}{W:Ends}{σ:L2.St}{H:Hp}(h:tS G E (bu i f) W σ H):Ql (tE G E f) (BR i) W σ H:=by
 obtain ⟨O0,M0,H0,ow,m,R,q⟩:=h
 refine ⟨O0,M0,H0,ow,m,R.toRel,(Ss.pu R.toRel q).imp (aL.refl _) λd q v H' g' hv=>?_⟩
 exact q _ _ _ ((R.mono g').set hv) ((Go.refl g').trans Go.set)
theorem Zx {G:Gx}{W:Ends}{σ:L2.St}{H:Hp}(h:tS G E (jE i f) W σ H):Ql (tN G E f) (BR i) W σ H:=by
 obtain ⟨O0,M0,H0,ow,m,R,q⟩:=h
 refine ⟨O0,M0,H0,ow,m,R.toRel,(Ss.pu R.toRel q).imp (aL.refl _) λd q p H' g' n hv=>?_⟩
 by_cases hi:i<m.length
 ·rw [if_pos hi] at q
  exact q _ _ _ (R.own g' n (R.toRel.G7 n) hv hi) (Go.own g' n)
 ·rw [if_neg hi] at q
  exact q.elim
theorem bG (hN:X.N.Nodup)(hi:X.N[i]? = some x)(hx:Loc X.env.scope x)(he:FE X E e f)(hs:swapsWith e (some (.Name x pos')) pos.line X.env=pure false:=by rfl)
  (hf:X.fn x=true\/X.env.scope.names.lookup x=some .local:=by first | exact .inl rfl | exact .inr rfl | assumption):FS X E (.Assign [.Name x pos'] e pos) (bu i f):=cM (zM hN hi hx he hs hf) λ_ _ _ h=>Uo h
theorem kZ (hN:X.N.Nodup)(hi:X.N[i]? = some x)(hx:Loc X.env.scope x)(he:FN X E e f)(hs:swapsWith e (some (.Name x pos')) pos.line X.env=pure false:=by rfl)
  (hf:X.fn x=true\/X.env.scope.names.lookup x=some .local:=by first | exact .inl rfl | exact .inr rfl | assumption):FS X E (.Assign [.Name x pos'] e pos) (jE i f):=cM (zM hN hi hx he hs hf) λ_ _ _ h=>Zx h
theorem t8 (he:FE X E e f)(hs:swapsWith e none pos.line X.env=pure false:=by rfl):FS X E (.Expr e pos) (gEx f):=cM (vW he hs) λW σ H hE=>xq5 hE λO0 M0 H0 ow m R q=>
 ⟨O0,M0,H0,ow,m,R.toRel,(Ss.pu R.toRel q).imp (aL.refl _) λd q v H' g' hv=>q _ _ _ (R.mono g') (Go.refl g')⟩
theorem bF (he:FE X E e f):FS X E (.Return (some e) pos) (bD f):=cM (Dk he) λW σ H hE=>xq5 hE λO0 M0 H0 ow m R q=>by
 obtain ⟨ow',R',g1⟩:=R.let
 exact ⟨O0,M0,H0,ow',m.let,R'.toRel,(Ss.pu R'.toRel (Ss.go q g1)).imp (aL.refl _) λd q v H' g' hv=>q v ow' σ H' (R'.mono g') (Go.refl g') hv (λz=>by cases z)⟩
theorem mY (he:FN X E e f):FS X E (.Return (some e) pos) (jz f):=cM (Dk he) λW σ H hE=>xq5 hE λO0 M0 H0 ow m R q=>by
 obtain ⟨ow',R',g1⟩:=R.let
 exact ⟨O0,M0,H0,ow',m.let,R'.toRel,(Ss.pu R'.toRel (Ss.go q g1)).imp (aL.refl _) λd q p H' g' n hv=>
  q _ ow' σ H' (R'.mono g') (Go.refl g') ((hv.cu λb z=>.inl (.inl z)).dv (R'.toRel.Ib n)) λ_=>⟨p,rfl,R'.toRel.G7 n,hv⟩⟩
theorem yJ (i:Nat)(hN:X.N[i]? = some x:=by rfl)(hv:Vis X.env.scope x:=by first | exact Or.inl rfl | exact Or.inr (Or.inl rfl) | exact Or.inr (Or.inr rfl))(hd:(x == ("__debug__" : Str))=false:=by decide)
  (hcd:(x == ("__classdict__" : Str))=false:=by decide):FS X E (.Return (some (.Name x pos')) pos) (uw i):=cM (Dk (jC hN hv hd hcd)) λW σ H hE=>xq5 hE λO0 M0 H0 ow m R q=>by
 obtain ⟨ow',R',g1⟩:=R.let
 unfold uw at q
 cases z:m[i]? with
 |none=>rw [z] at q; exact q.elim
 |some s=>
  rw [z] at q
  have zl:m.let[i]? = some s.let:=by unfold Me.let; rw [List.getElem?_map,z]; rfl
  cases s with
  |fz d=>
   obtain ⟨_,v,e,hv⟩:=R'.slot i _ zl
   exact ⟨v,e,q v ow' σ H R' g1 hv λz=>by cases z⟩
  |ow d=>
   obtain ⟨_,v,e,hv⟩:=R'.slot i _ zl
   obtain ⟨a,h1,h2,h3,h4⟩:=R.slot i _ z
   rw [h3] at e
   cases e
   refine ⟨_,h3,q _ ow' σ H R' g1 hv λ_=>⟨a,rfl,h2,h4.cu λb w=>.inl ?_⟩⟩
   rcases w with w | w
   ·rcases w with w | ⟨j,w⟩
    ·exact .inl w
    ·rcases g1.new j b w with w' | w'
     ·exact w'
     ·have:=R'.mutk b (.inr ⟨j,w⟩)
      rw [w'] at this
      rcases this with ⟨_,e⟩ | ⟨_,e⟩ | ⟨_,e⟩ <;> cases e
   ·rw [w]; exact .inr ⟨i,h1⟩
  |_=>exact q.elim
theorem cT (hc:FT X E c ft)(ha:FSs X E sa ga)(hb:FSs X E sb gb):FS X E (.If c sa sb pos) (gIf ft ga gb):=cM (aaZ hc ha hb) λW σ H hE=>xq5 hE λO0 M0 H0 ow m R q=>
 ⟨O0,M0,H0,ow,m,R.toRel,(Ss.pu R.toRel q).imp (aL.refl _) λb q H' g'=>by
  cases b with
  |true=>rw [if_pos rfl] at q ⊢; exact ⟨O0,M0,H0,ow,m,R.mono g',Ss.go q (Go.refl g')⟩
  |false=>rw [if_neg Bool.false_ne_true] at q ⊢; exact ⟨O0,M0,H0,ow,m,R.mono g',Ss.go q (Go.refl g')⟩⟩
noncomputable def wh (t:Me->Res Bool)(b:Me->Res (Fl×Me)):Nat->Me->Option (Res (Fl×Me))
 |0,_=>none
 |n+1,m=>match t m with
  | .ok true=>match b m with
   | .ok (.nx,m')=>wh t b n m'
   | .ok (.ct,m')=>wh t b n m'
   | .ok (.bk,m')=>some (.ok (.nx,m'))
   | .ok (.rt fr d,m')=>some (.ok (.rt fr d,m'))
   | .exc c=>some (.exc c)
   | .stuck=>some .stuck
  | .ok false=>some (.ok (.nx,m))
  | .exc c=>some (.exc c)
  | .stuck=>some .stuck
theorem Ni {t:Me->Res Bool}{b:Me->Res (Fl×Me)}:∀{n:Nat} {m:Me} {r:Res (Fl×Me)},wh t b n m=some r->wh t b (n+1) m=some r
 |0,_,_,h=>by cases h
 |n+1,m,r,h=>by
  have ih:=@Ni t b n
  unfold wh at h ⊢
  split
  ·rename_i e
   rw [e] at h
   split
   ·rename_i m' e2; rw [e2] at h; exact ih h
   ·rename_i m' e2; rw [e2] at h; exact ih h
   ·rename_i m' e2; rw [e2] at h; exact h
   ·rename_i fr d m' e2; rw [e2] at h; exact h
   ·rename_i c e2; rw [e2] at h; exact h
   ·rename_i e2; rw [e2] at h; exact h
  ·rename_i e; rw [e] at h; exact h
  ·rename_i e; rw [e] at h; exact h
  ·rename_i e; rw [e] at h; exact h
theorem Kr {t:Me->Res Bool}{b:Me->Res (Fl×Me)}{n:Nat}{m:Me}{r:Res (Fl×Me)}(h:wh t b n m=some r):∀k,wh t b (n+k) m=some r
 |0=>h
 |k+1=>Ni (Kr h k)
open Classical in
noncomputable def qg (t:Me->Res Bool)(b:Me->Res (Fl×Me)):Me->Res (Fl×Me):=λm=>
 if h:∃n r,wh t b n m=some r then Classical.choose (Classical.choose_spec h) else .stuck
theorem Qe {t:Me->Res Bool}{b:Me->Res (Fl×Me)}{m:Me}(h:qg t b m≠.stuck):∃n,wh t b n m=some (qg t b m):=by
 unfold qg at h ⊢
 split at h
 ·rename_i q
  rw [dif_pos q]
  exact ⟨_,Classical.choose_spec (Classical.choose_spec q)⟩
 ·exact absurd rfl h
theorem xH {t:Me->Res Bool}{b:Me->Res (Fl×Me)}{m:Me}{r:Res (Fl×Me)}(n:Nat)(h:wh t b n m=some r):qg t b m=r:=by
 unfold qg
 have q:∃n r,wh t b n m=some r:=⟨n,r,h⟩
 rw [dif_pos q]
 have z:=Classical.choose_spec (Classical.choose_spec q)
 have a:=Kr z n
 have b':=Kr h (Classical.choose q)
 rw [Nat.add_comm] at b'
 rw [a] at b'
 exact Option.some.inj b'
theorem Ad {body:List Stmt}(hp:PassesOwn (model X.prog X.w) X.A X.env X.xe)(hc:FT X E c ft)(hb:FSs X E body g):FS X E (.While c body [] pos) (qg ft g):=cM (Qu hp hc hb) λW σ H hE=>xq5 hE λO0 M0 H0 ow m R q=>by
 obtain ⟨n,hn⟩:=Qe (t:=ft) (b:=g) (m:=m) (λz=>by rw [z] at q; exact q)
 generalize qg ft g m=r at *
 refine ⟨λn σ' H'=>∃ow' m',du (gx X) O0 M0 H0 ow' σ' H' m'/\Go O0 ow H ow' H'/\wh ft g n m'=some r,⟨n,ow,m,R,Go.refl (aL.refl _),hn⟩,?_⟩
 rintro n σ1 H1 ⟨ow1,m1,R1,g1,h1⟩
 cases n with
 |zero=>cases h1
 |succ n=>
  refine ⟨O0,M0,H0,ow1,m1,R1.toRel,?_⟩
  unfold wh at h1
  cases e:ft m1 with
  |exc c=>
   rw [e] at h1
   cases h1
   exact λC H' e g'=>q C H' e λb o e n=>g' b o (R1.keep b o e n)
  |stuck=>rw [e] at h1; cases h1; exact q.elim
  |ok t=>
   rw [e] at h1
   intro H2 g2
   have R2:=R1.mono g2
   have G2:=g1.trans (Go.refl g2)
   cases t with
   |false=>
    cases h1
    rw [if_neg Bool.false_ne_true]
    exact q _ _ _ R2 G2
   |true=>
    rw [if_pos rfl]
    have h1:(match g m1 with
     | .ok (.nx,m')=>wh ft g n m'
     | .ok (.ct,m')=>wh ft g n m'
     | .ok (.bk,m')=>some (.ok (.nx,m'))
     | .ok (.rt fr d,m')=>some (.ok (.rt fr d,m'))
     | .exc c=>some (.exc c)
     | .stuck=>some .stuck)=some r:=h1
    refine ⟨λσ' H'=>∃ow' m',du (gx X) O0 M0 H0 ow' σ' H' m'/\Go O0 ow H ow' H'/\wh ft g n m'=some r,λσ' H' z=>⟨n,Nat.lt_succ_self _,z⟩,O0,M0,H0,ow1,m1,R2,?_⟩
    cases e2:g m1 with
    |exc c=>rw [e2] at h1; cases h1; exact q
    |stuck=>rw [e2] at h1; cases h1; exact q
    |ok a=>
     obtain ⟨f2,m2⟩:=a
     rw [e2] at h1
     cases f2 with
     |nx=>exact λow' σ' H' R' g'=>⟨ow',m2,R',G2.trans g',h1⟩
     |ct=>exact λow' σ' H' R' g'=>⟨ow',m2,R',G2.trans g',h1⟩
     |bk=>cases h1; exact λow' σ' H' R' g'=>q ow' σ' H' R' (G2.trans g')
     |rt fr d=>cases h1; exact λv ow' σ' H' R' g'=>q v ow' σ' H' R' (G2.trans g')
end
open PySem PySem.Spec PyProof.Rows L2 Hd
noncomputable def NbP (m m':Me):Prop:=(∀(j:Nat) (d:D),m[j]?≠some (Sl.bw d))->∀(j:Nat) (d:D),m'[j]?≠some (Sl.bw d)
noncomputable def tG (G:Gx)(k:Nat)(h:D->Me->Option Me):TG:=λv σ H Q=>∃O0 M0 H0 ow m d m',Rel G O0 M0 H0 ow σ H m/\DV G (Ow O0 ow) H v d/\h d m=some m'/\
 ∀ow' σ',Rel G O0 M0 H0 ow' σ' H m'->Go O0 ow H ow' H->NbP m m'->σ'.drop k=σ.drop k->Q σ' H
noncomputable def tGs (G:Gx)(k:Nat)(h:List D->Me->Option Me):TGs:=λvs σ H Q=>∃O0 M0 H0 ow m ds m',Rel G O0 M0 H0 ow σ H m/\DVs G (Ow O0 ow) H vs ds/\h ds m=some m'/\
 ∀ow' σ',Rel G O0 M0 H0 ow' σ' H m'->Go O0 ow H ow' H->NbP m m'->σ'.drop k=σ.drop k->Q σ' H
noncomputable abbrev FG (X:Cx)(k:Nat)(tg:Expr)(h:D->Me->Option Me):Prop:=PG X tg (tG (gx X) k h)
noncomputable abbrev FGs (X:Cx)(k:Nat)(tgs:List Expr)(h:List D->Me->Option Me):Prop:=PGs X tgs (tGs (gx X) k h)
theorem Nx {X:Cx}{e:Expr}{T T':TG}(h:PG X e T)(k:∀v σ H Q,T' v σ H Q->T v σ H Q):PG X e T':=λpins s σ H v u Q I r q=>h pins s σ H v u Q I r (k v σ H Q q)
theorem Ht {X:Cx}{es:List Expr}{T T':TGs}(h:PGs X es T)(k:∀v σ H Q,T' v σ H Q->T v σ H Q):PGs X es T':=λpins s σ H v u Q I r q=>h pins s σ H v u Q I r (k v σ H Q q)
noncomputable def hName (i:Nat):D->Me->Option Me:=λd m=>some (m.set i (.fz d))
noncomputable def iW:List D->Me->Option Me
 |[],m=>some m
 |_,_=>none
noncomputable def bj (h:D->Me->Option Me)(hs:List D->Me->Option Me):List D->Me->Option Me
 |d::ds,m=>(h d m).bind λm'=>hs ds m'
 |_,_=>none
noncomputable def jl (n:Nat)(hs:List D->Me->Option Me):D->Me->Option Me
 | .tup ds,m=>if ds.length=n then hs ds m else none
 |_,_=>none
section
variable {X:Cx}{pos:Pos}{k:Nat}{e:Expr}{es:List Expr}{h:D->Me->Option Me}{hs:List D->Me->Option Me}
theorem aO {i:Nat}{x:Str}(hN:X.N.Nodup)(hi:X.N[i]? = some x)(hx:Loc X.env.scope x)(hk:i<k:=by decide)(hf:X.fn x=true\/X.env.scope.names.lookup x=some .local:=by first | exact .inl rfl | exact .inr rfl | assumption):FG X k (.Name x pos) (hName i):=
 Nx (WM hN hi hx hf) λv σ H Q hE=>xq7 hE λO0 M0 H0 ow m d m' R hv e q=>by
  cases e
  refine q _ _ (R.set hv) Go.set (λnb=>Ah nb λ_ z=>by cases z) ?_
  rw [List.drop_set,if_pos (by omega)]
theorem iM:FGs X k [] iW:=Ht V4 λvs σ H Q hE=>xq7 hE λO0 M0 H0 ow m ds m' R hv e q=>by
 cases hv with
 |nil=>cases e; exact ⟨rfl,q _ _ R (Go.refl (aL.refl _)) id rfl⟩
 |cons a t=>cases e
theorem bI (h1:FG X k e h)(h2:FGs X k es hs)(hst:(assignEach (e::es) X.env).map (·.2)=assign e X.env::(assignEach es X.env).map (·.2):=by rfl):FGs X k (e::es) (bj h hs):=
 Ht (QW h1 h2 hst) λvs σ H Q hE=>xq7 hE λO0 M0 H0 ow m ds m' R hv e q=>by
  cases hv with
  |nil=>cases e
  | @cons v vs' d ds' a t=>
   have e':(h d m).bind (λm'=>hs ds' m')=some m':=e
   cases e1:h d m with
   |none=>rw [e1] at e'; cases e'
   |some m1=>
    rw [e1] at e'
    exact ⟨v,vs',rfl,O0,M0,H0,ow,m,d,m1,R,a,e1,λow' σ' R' g' nb hd=>⟨O0,M0,H0,ow',m1,ds',m',R',t.go R.mutk g'.ev,e',λow2 σ2 R2 g2 nb2 hd2=>q ow2 σ2 R2 (g'.trans g2) (λz=>nb2 (nb z)) (hd2.trans hd)⟩⟩
theorem lN {j n:Nat}(hc:X.calm=true)(h:FGs X k es hs)(hn:(assignEach es X.env).length=n:=by rfl)(hst:(assignEach es X.env).findIdx? (·.1)=none:=by rfl):FG X k (.Tuple es j pos) (jl n hs):=
 Nx (Zf hc h hn hst) λv σ H Q hE=>xq7 hE λO0 M0 H0 ow m d m' R hv e q=>by
  cases d with
  |tup ds=>
   obtain ⟨a,xs,rfl,hx,hd⟩:=sY (.inl hv)
   have e':(if ds.length=n then hs ds m else none)=some m':=e
   by_cases z:ds.length=n
   ·rw [if_pos z] at e'
    exact ⟨a,xs,rfl,hx,by rw [bU hd]; exact z,O0,M0,H0,ow,m,ds,m',R,hd,e',q⟩
   ·rw [if_neg z] at e'; cases e'
  |_=>cases e
end
noncomputable def Yv (f:Me->Res D)(h:D->Me->Option Me):Me->Res (Fl×Me):=λm=>(f m).bind λd=>(ofO (h d m)).bind λm'=>.ok (.nx,m')
theorem aal {X:Cx}{E:XK}{tg e:Expr}{f:Me->Res D}{k:Nat}{h:D->Me->Option Me}{pos:Pos}(he:FE X E e f)(hg:FG X k tg h)(hs:swapsWithSole [tg] e pos.line X.env=pure false:=by rfl)(hw:swappedStores [tg] e X.env=pure none:=by rfl)
  (h1:(assignEach [tg] X.env).map (·.2)=[assign tg X.env]:=by rfl):FS X E (.Assign [tg] e pos) (Yv f h):=cM (JB he hg hs hw h1) λW σ H hE=>xq5 hE λO0 M0 H0 ow m R q=>
 ⟨O0,M0,H0,ow,m,R.toRel,(Ss.pu R.toRel q).imp (aL.refl _) λd q v H' g' hv=>by
  obtain ⟨m',e,q⟩:=Ss.ofO q
  exact ⟨O0,M0,H0,ow,m,d,m',(R.mono g').toRel,hv,e,λow' σ' R' g2 nb _=>q _ _ _ ⟨R',nb R.nb⟩ ((Go.refl g').trans g2)⟩⟩
noncomputable def Bo (G:Gx)(J:It)(ds:List D)(P:(Addr->Prop)->Hp->Prop):Prop:=∀O H,P O H->
 (∀i,i<ds.length->J.go i H)/\(∀i x H',i<ds.length->J.yld i H x H'->aL H H'/\∃d,ds[i]? = some d/\DV G O H' x d)/\J.stop ds.length H
noncomputable def tI (G:Gx)(E:XK)(f:Me->Res (List D)):TI:=λσ H R=>∃O0 M0 H0 ow m,Rel G O0 M0 H0 ow σ H m/\Pu G E (f m) H λds=>∀J H',aL H H'->Bo G J ds (λO H2=>Ev (Ow O0 ow) H' O H2)->R J H'
noncomputable def tIw (G:Gx)(E:XK)(f:Me->Res (List D)):TI:=λσ H R=>∃O0 M0 H0 ow m,Rel G O0 M0 H0 ow σ H m/\Pu G E (f m) H λds=>∀J H',aL H H'->Bo G J ds (λO H2=>(∀b,O b->Ow O0 ow b\/H' b=none)/\aL H' H2)->R J H'
noncomputable abbrev FI (X:Cx)(E:XK)(tg e:Expr)(f:Me->Res (List D)):Prop:=PI X tg e (tI (gx X) E f)
noncomputable abbrev FIw (X:Cx)(E:XK)(tg e:Expr)(f:Me->Res (List D)):Prop:=PI X tg e (tIw (gx X) E f)
theorem qC {X:Cx}{tg e:Expr}{T T':TI}(h:PI X tg e T)(k:∀σ H R,T' σ H R->T σ H R):PI X tg e T':=λpins s σ H R I q=>h pins s σ H R I (k σ H R q)
noncomputable def fO (f:Me->Res D):Me->Res (List D):=λm=>(f m).bind λd=>match d with
 | .lst ds=>.ok ds
 |_=>.stuck
noncomputable def o7 (f:Me->Res D):Me->Res (List D):=λm=>(f m).bind λd=>match d with
 | .tup ds=>.ok ds
 |_=>.stuck
noncomputable def uo (f:Me->Res (List D)):Me->Res (List D):=λm=>(f m).bind λd=>match d with
 |[.int j]=>if -(2 ^ 62)<=j/\j<2 ^ 62 then .ok ((List.range j.toNat).map λ(i:Nat)=>D.int i) else .stuck
 |_=>.stuck
noncomputable def Mf (f:Me->Res (List D)):Me->Res (List D):=λm=>(f m).bind λd=>match d with
 |[.int i,.int j]=>if -(2 ^ 62)<=i/\i<2 ^ 62/\-(2 ^ 62)<=j/\j<2 ^ 62 then .ok ((List.range (j - i).toNat).map λ(k:Nat)=>D.int (i+k)) else .stuck
 |_=>.stuck
theorem VH {G:Gx}{O:Addr->Prop}{H:Hp}{a:Addr}{xs:List V}{ds:List D}(m:∀b,O b->gY (H b))(hl:LstAt G.K O H a xs)(hd:DVs G O H xs ds):Bo G (Itl G.K a) ds (λO' H2=>Ev O H O' H2):=by
 intro O' H2 ev
 have hq:SqL G.K H2 a xs:=(vU ev.2 hl).sq
 have hd2:=hd.go m ev
 have hlen:=bU hd
 refine ⟨λi hi=>⟨xs,xs[i]'(by omega),hq,by simp⟩,λi x H' hi y=>?_,xs,hq,by omega⟩
 obtain ⟨e,y⟩:=y
 subst e
 obtain ⟨d,h1,h2⟩:=vp hd2 (y xs hq)
 exact ⟨aL.refl _,d,h1,h2⟩
theorem Tg {G:Gx}{O:Addr->Prop}{H:Hp}{a:Addr}{xs:List V}{ds:List D}(m:∀b,O b->gY (H b))(hl:SqL G.K H a xs)(hd:DVs G O H xs ds):Bo G (Itl G.K a) ds (λO' H2=>(∀b,O' b->O b\/H b=none)/\aL H H2):=by
 intro O' H2 ⟨sub,g⟩
 have hq:SqL G.K H2 a xs:=Iw hl g
 have hd2:=hd.go m ⟨sub,.of g⟩
 have hlen:=bU hd
 refine ⟨λi hi=>⟨xs,xs[i]'(by omega),hq,by simp⟩,λi x H' hi y=>?_,xs,hq,by omega⟩
 obtain ⟨e,y⟩:=y
 subst e
 obtain ⟨d,h1,h2⟩:=vp hd2 (y xs hq)
 exact ⟨aL.refl _,d,h1,h2⟩
theorem ZQ {G:Gx}{O:Addr->Prop}{H:Hp}{a:Addr}{xs:List V}{ds:List D}(m:∀b,O b->gY (H b))(hl:SqT G.K H a xs)(hd:DVs G O H xs ds):Bo G (Itt G.K a) ds (λO' H2=>Ev O H O' H2):=by
 intro O' H2 ev
 have hq:SqT G.K H2 a xs:=Zt m ev.2 hl
 have hd2:=hd.go m ev
 have hlen:=bU hd
 refine ⟨λi hi=>⟨xs,xs[i]'(by omega),hq,by simp⟩,λi x H' hi y=>?_,xs,hq,by omega⟩
 obtain ⟨e,y⟩:=y
 subst e
 obtain ⟨d,h1,h2⟩:=vp hd2 (y xs hq)
 exact ⟨aL.refl _,d,h1,h2⟩
theorem Bo.weak {G:Gx}{J:It}{ds:List D}{O:Addr->Prop}{H:Hp}(h:Bo G J ds (λO' H2=>Ev O H O' H2)):Bo G J ds (λO' H2=>(∀b,O' b->O b\/H b=none)/\aL H H2):=
 λO' H2 ⟨s,g⟩=>h O' H2 ⟨s,.of g⟩
theorem Ia {G:Gx}{lo:Int}{n:Nat}{P:(Addr->Prop)->Hp->Prop}:Bo G (Itr lo n) ((List.range n).map λ(k:Nat)=>D.int (lo+k)) P:=by
 intro O H _
 refine ⟨λi hi=>(show i<n by simpa using hi),λi x H' hi y=>?_,by show n<=_; simp⟩
 obtain ⟨e,y⟩:=y
 subst e y
 have hi':i<n:=by simpa using hi
 exact ⟨aL.refl _,_,by simp [List.getElem?_map,List.getElem?_range hi'],.int _⟩
section
variable {X:Cx}{E:XK}{tg e a b:Expr}{f:Me->Res D}{fs:Me->Res (List D)}{p pos:Pos}
theorem oG (h:FE X E e f):FI X E tg e (fO f):=qC (Nq h) λσ H R hE=>xq5 hE λO0 M0 H0 ow m Re q=>⟨O0,M0,H0,ow,m,Re,q.bind.imp (aL.refl _) λd q v H' g hv=>by
 cases d with
 |lst ds=>
  cases hv with
  |lst hl hd=>exact ⟨_,rfl,⟨_,hl.sq⟩,q _ H' g (VH (Re.mono g).mutk hl hd)⟩
 |_=>exact q.elim⟩
theorem oY (h:FE X E e f):FI X E tg e (o7 f):=qC (ZS h) λσ H R hE=>xq5 hE λO0 M0 H0 ow m Re q=>⟨O0,M0,H0,ow,m,Re,q.bind.imp (aL.refl _) λd q v H' g hv=>by
 cases d with
 |tup ds=>
  cases hv with
  |tup hl hd=>exact ⟨_,rfl,⟨_,hl.sq⟩,q _ H' g (ZQ (Re.mono g).mutk hl.sq hd)⟩
 |_=>exact q.elim⟩
theorem jo (h:FB X E e f):FIw X E tg e (fO f):=qC (Nq h) λσ H R hE=>xq5 hE λO0 M0 H0 ow m Re q=>⟨O0,M0,H0,ow,m,Re,q.bind.imp (aL.refl _) λd q v H' g hv=>by
 cases d with
 |lst ds=>
  obtain ⟨a,xs,rfl,hl,hd⟩:=jB hv
  exact ⟨a,rfl,⟨_,hl⟩,q _ H' g (Tg (Re.mono g).mutk hl hd)⟩
 |_=>exact q.elim⟩
theorem oW {fl:Me->Res (List D)}(h:FI X E tg e fl):FIw X E tg e fl:=qC h λσ H R hE=>xq5 hE λO0 M0 H0 ow m Re q=>⟨O0,M0,H0,ow,m,Re,q.imp (aL.refl _) λds q J H' g hi=>q J H' g hi.weak⟩
theorem mO (hg:Gl X "range")(hm:X.mg "range" = none)(ha:FAB X E [a] fs)(hs:starEach [a] X.env=[(false,eval a X.env)]:=by rfl):FI X E tg (.Call (.Name "range" p) [a] [] pos) (uo fs):=
 qC (Pz hg hm ha hs) λσ H R hE=>xq5 hE λO0 M0 H0 ow m Re q=>⟨O0,M0,H0,ow,m,Re,q.bind.imp (aL.refl _) λds q vs H' g hv=>by
  cases hv with
  |nil=>exact q.elim
  | @cons v vs d ds h1 h2=>
   cases h2 with
   |cons _ _=>cases d <;> exact q.elim
   |nil=>
    cases d with
    |int j=>
     cases cG h1
     obtain ⟨⟨z1,z2⟩,k⟩:=Hh q
     refine ⟨j,rfl,z1,z2,k _ H' g ?_⟩
     have:=Ia (G:=gx X) (lo:=0) (n:=j.toNat) (P:=λO H2=>Ev (Ow O0 ow) H' O H2)
     simpa using this
    |_=>exact q.elim⟩
theorem Pn (hg:Gl X "range")(hm:X.mg "range" = none)(ha:FAB X E [a,b] fs)(hs:starEach [a,b] X.env=[(false,eval a X.env),(false,eval b X.env)]:=by rfl)(hs2:starEach [b] X.env=[(false,eval b X.env)]:=by rfl):FI X E tg (.Call (.Name "range" p) [a,b] [] pos) (Mf fs):=
 qC (O4 hg hm ha hs hs2) λσ H R hE=>xq5 hE λO0 M0 H0 ow m Re q=>⟨O0,M0,H0,ow,m,Re,q.bind.imp (aL.refl _) λds q vs H' g hv=>by
  match ds,vs,hv,q with
  |[.int i,.int j],_,.cons h1 (.cons h2 .nil),q=>
   cases cG h1
   cases cG h2
   obtain ⟨⟨z1,z2,z3,z4⟩,k⟩:=Hh q
   exact ⟨i,j,rfl,⟨z1,z2,z3,z4⟩,k _ H' g Ia⟩⟩
end
noncomputable def bW (h:D->Me->Option Me)(g:Me->Res (Fl×Me)):List D->Me->Res (Fl×Me)
 |[],m=>.ok (.nx,m)
 |d::ds,m=>match h d m with
  |none=>.stuck
  |some m1=>match g m1 with
   | .ok (.nx,m2)=>bW h g ds m2
   | .ok (.ct,m2)=>bW h g ds m2
   | .ok (.bk,m2)=>.ok (.nx,m2)
   | .ok (.rt fr v,m2)=>.ok (.rt fr v,m2)
   | .exc c=>.exc c
   | .stuck=>.stuck
noncomputable def jD (fi:Me->Res (List D))(h:D->Me->Option Me)(g:Me->Res (Fl×Me)):Me->Res (Fl×Me):=λm=>(fi m).bind λds=>bW h g ds m
theorem je {X:Cx}{E:XK}{tg iter:Expr}{body:List Stmt}{fi:Me->Res (List D)}{k:Nat}{h:D->Me->Option Me}{g:Me->Res (Fl×Me)}{pos:Pos}(hp:PassesOwn (model X.prog X.w) X.A X.env X.xe)(hc:X.calm=true)(hi:FI X E tg iter fi)(hg:FG X k tg h)(hb:FSs X E body g)
  (hs:∀x,foldedSetIterable iter X.env x=pure x:=by intro _; rfl):FS X E (.For tg iter body [] pos) (jD fi h g):=cM (YT hp hc hi hg hb hs) λW σ H hE=>xq5 hE λO0 M0 H0 ow m R q=>
 ⟨O0,M0,H0,ow,m,R.toRel,(Ss.pu R.toRel q).imp (aL.refl _) λds q J H1 g1 it=>by
  have R1:=R.mono g1
  have q1:=Ss.go q (Go.refl g1)
  generalize hr:bW h g ds m=r at *
  refine ⟨λi n σ' H'=>∃ow' m',du (gx X) O0 M0 H0 ow' σ' H' m'/\Go O0 ow H1 ow' H'/\n=ds.length - i/\i<=ds.length/\bW h g (ds.drop i) m'=r,⟨_,ow,m,R1,Go.refl (aL.refl _),rfl,Nat.zero_le _,hr⟩,?_⟩
  rintro i n σ2 H2 ⟨ow2,m2,R2,g2,rfl,hi,e2⟩
  obtain ⟨i1,i2,i3⟩:=it _ H2 g2.ev
  by_cases hlt:i<ds.length
  ·refine .inr ⟨i1 i hlt,λσ' H'=>∃ow' m',du (gx X) O0 M0 H0 ow' σ' H' m'/\Go O0 ow H1 ow' H'/\bW h g (ds.drop (i+1)) m'=r,λσ' H' ⟨ow',m',R',g',e'⟩=>⟨ds.length - (i+1),by omega,ow',m',R',g',rfl,hlt,e'⟩,λx H3 y=>?_⟩
   obtain ⟨s3,d,hd,dv⟩:=i2 i x H3 hlt y
   have ed:ds.drop i=d::ds.drop (i+1):=by
    rw [List.drop_eq_getElem_cons hlt]
    rw [List.getElem?_eq_getElem hlt] at hd
    cases hd
    rfl
   rw [ed] at e2
   unfold bW at e2
   cases eh:h d m2 with
   |none=>rw [eh] at e2; subst e2; exact q1.elim
   |some m3=>
    rw [eh] at e2
    refine ⟨O0,M0,H0,ow2,m2,d,m3,(R2.mono s3).toRel,dv,eh,λow' σ' R' g' nb _=>?_⟩
    have G3:=(g2.trans (Go.refl s3)).trans g'
    refine ⟨O0,M0,H0,ow',m3,⟨R',nb R2.nb⟩,?_⟩
    cases eg:g m3 with
    |exc c=>simp only [eg] at e2; subst e2; exact q1
    |stuck=>simp only [eg] at e2; subst e2; exact q1
    |ok a=>
     obtain ⟨f4,m4⟩:=a
     simp only [eg] at e2
     cases f4 with
     |nx=>exact λow4 σ4 H4 R4 g4=>⟨ow4,m4,R4,G3.trans g4,e2⟩
     |ct=>exact λow4 σ4 H4 R4 g4=>⟨ow4,m4,R4,G3.trans g4,e2⟩
     |bk=>subst e2; exact λow4 σ4 H4 R4 g4=>q1 ow4 σ4 H4 R4 (G3.trans g4)
     |rt fr v=>subst e2; exact λv ow4 σ4 H4 R4 g4=>q1 v ow4 σ4 H4 R4 (G3.trans g4)
  ·have e:i=ds.length:=by omega
   subst e
   rw [List.drop_length] at e2
   unfold bW at e2
   subst e2
   exact .inl ⟨i3,q1 ow2 σ2 H2 R2 g2⟩⟩
open PySem PySem.Spec PyProof.Rows L2 Hd
noncomputable def Sl.bor:Sl->Sl
 | .ow d=>.bw d
 | .io d=>.bw d
 | .hd _ _ _=>.un
 |s=>s
noncomputable def cMe (k:Nat)(cap:List Nat)(m:Me):Me:=List.replicate k .un++cap.map λj=>(m.getD j .un).bor
noncomputable def cA (h:D->Me->Option Me)(ft:Me->Res Bool)(fe:Me->Res D)(m0:Me):List D->Res (List D)
 |[]=>.ok []
 |d::ds=>match h d m0 with
  |none=>.stuck
  |some m1=>match ft m1 with
   | .ok true=>match fe m1 with
    | .ok y=>match cA h ft fe m0 ds with
     | .ok ys=>.ok (y::ys)
     |_=>.stuck
    |_=>.stuck
   | .ok false=>cA h ft fe m0 ds
   |_=>.stuck
noncomputable def bZ (k:Nat)(cap:List Nat)(fi:Me->Res (List D))(h:D->Me->Option Me)(ft:Me->Res Bool)(fe:Me->Res D):Me->Res D:=λm=>(fi m).bind λds=>
 if ds.length<=sizeLine then match cA h ft fe (cMe k cap m) ds with
  | .ok ys=>.ok (.lst ys)
  |_=>.stuck
 else .stuck
noncomputable abbrev Vh (X:Cx)(E:XK)(ifs:List Expr)(f:Me->Res Bool):Prop:=Oz X ifs (tT (gx X) E f)
noncomputable def dX:Me->Res Bool:=λ_=>.ok true
theorem cR {X:Cx}{E:XK}:Vh X E [] dX:=λpins s σ H Q I hE=>xq5 hE λO0 M0 H0 ow m R q=>Vb pins s σ H Q I (q H (aL.refl _))
theorem Am {X:Cx}{E:XK}{c:Expr}{f:Me->Res Bool}(h:FT X E c f):Vh X E [c] f:=Vg h
section
variable {X:Cx}{E:XK}{k:Nat}{cap:List Nat}{fi:Me->Res (List D)}{h:D->Me->Option Me}{ft:Me->Res Bool}{fe:Me->Res D}
theorem S6 {G:Gx}{O0 M0:Addr->Prop}{H0 H H2:Hp}{ow:Os}{σ:L2.St}{m:Me}{l:Addr}{zs:List V}(R:Rel G O0 M0 H0 ow σ H m)(g:aL H H2)(hl:H l=none)(hz:H2 l=some (.lst zs)):
  Rel G (Op (Ow O0 ow) l) (λ_=>False) (λ_=>none) (λ_=>none) (cSt k cap σ) H2 (cMe k cap m):=by
 have sub:∀b,Ow (Op (Ow O0 ow) l) (λ_=>none) b->Ow O0 ow b\/H b=none:=λb z=>by
  rw [wg] at z
  exact z.elim .inl λe=>.inr (by rw [e]; exact hl)
 have sup:∀b,Ow O0 ow b->Ow (Op (Ow O0 ow) l) (λ_=>none) b:=λb z=>.inl (.inl z)
 refine ⟨by simp [cSt,cMe],λb o e _=>(by cases e),λb z=>z.elim,λb z=>?_,λi a e=>(by cases e),λi j a e=>(by cases e),λ_ _=>rfl,λi s e=>?_⟩
 ·rw [wg] at z
  rcases z with z | z
  ·exact wY g (R.mutk b z)
  ·rw [z,hz]; exact .inl ⟨zs,rfl⟩
 ·unfold cMe at e
  by_cases hi:i<k
  ·rw [List.getElem?_append_left (by simpa using hi),List.getElem?_replicate,if_pos hi] at e
   cases e
   rfl
  ·rw [List.getElem?_append_right (by simp; omega),List.length_replicate,List.getElem?_map] at e
   have eσ:(cSt k cap σ)[i]? = (cap[i - k]?).map λj=>(σ[j]?).join:=by
    unfold cSt
    rw [List.getElem?_append_right (by simp; omega),List.length_replicate,List.getElem?_map]
   cases ec:cap[i - k]? with
   |none=>rw [ec] at e; cases e
   |some j=>
    rw [ec] at e eσ
    rw [eσ]
    cases ej:m[j]? with
    |none=>
     have:m.getD j .un=.un:=by simp [List.getD,ej]
     rw [Option.map_some,this] at e
     cases e
     rfl
    |some s0=>
     have:m.getD j .un=s0:=by simp [List.getD,ej]
     rw [Option.map_some,this] at e
     cases e
     have z:=R.slot j s0 ej
     cases s0 with
     |un=>rfl
     |fz d=>
      obtain ⟨_,x,e1,hv⟩:=z
      exact ⟨rfl,x,by rw [Option.map_some,e1]; rfl,(hv.cu sub).mono g⟩
     |ow d=>
      obtain ⟨a,h1,h2,h3,h4⟩:=z
      exact ⟨rfl,.ref a,by rw [Option.map_some,h3]; rfl,.inr ⟨a,rfl,sup a (.inr ⟨j,h1⟩),(h4.cu sub).mono g⟩⟩
     |io d=>
      obtain ⟨a,h1,h2,h3,h4⟩:=z
      exact ⟨rfl,.ref a,by rw [Option.map_some,h3]; rfl,.inr ⟨a,rfl,sup a (.inr ⟨j,h1⟩),(h4.cu sub).mono g⟩⟩
     |bw d=>
      obtain ⟨_,x,e1,hv⟩:=z
      refine ⟨rfl,x,by rw [Option.map_some,e1]; rfl,?_⟩
      rcases hv with hv | ⟨a,e2,o,hv⟩
      ·exact .inl ((hv.cu sub).mono g)
      ·exact .inr ⟨a,e2,sup a o,(hv.cu sub).mono g⟩
     |hd w a d=>rfl
theorem K3 {σ:L2.St}{H:Hp}{Q:VK}(hq:tN (gx X) E (bZ k cap fi h ft fe) σ H Q):Mm k cap (tIw (gx X) E fi) (tG (gx X) k h) (tT (gx X) E0 ft) (tE (gx X) E0 fe) σ H Q:=by
 obtain ⟨O0,M0,H0,ow,m,R,q⟩:=hq
 refine ⟨O0,M0,H0,ow,m,R,q.bind.imp (aL.refl _) λds q J H1 g1 it l hl=>?_⟩
 obtain ⟨hz,q⟩:=DY q
 cases hc:cA h ft fe (cMe k cap m) ds with
 |exc c=>rw [hc] at q; exact q.elim
 |stuck=>rw [hc] at q; exact q.elim
 |ok ys=>
  rw [hc] at q
  have hlH:H l=none:=g1.free hl
  have mk1:∀b,Op (Ow O0 ow) l b->Ow O0 ow b\/H1 b=none:=λb z=>z.elim .inl λe=>.inr (by rw [e]; exact hl)
  refine ⟨λi n zs H'=>n=ds.length - i/\i<=ds.length/\zs.length<=i/\aL H1 H'/\H' l=some (.lst zs)/\∃es rest,DVs (gx X) (Op (Ow O0 ow) l) H' zs es/\cA h ft fe (cMe k cap m) (ds.drop i)=.ok rest/\es++rest=ys,
   ⟨ds.length,by simp,Nat.zero_le _,Nat.le_refl _,bQ hl _,bA,[],ys,.nil,hc,rfl⟩,?_⟩
  rintro i n zs H' ⟨rfl,hi,hzi,g2,hH,es,rest,hes,hcr,hys⟩
  obtain ⟨i1,i2,i3⟩:=it (Op (Ow O0 ow) l) H' ⟨mk1,g2⟩
  by_cases hlt:i<ds.length
  ·refine .inr ⟨i1 i hlt,λx H2 y=>?_⟩
   obtain ⟨g3,d,hd,dv⟩:=i2 i x H2 hlt y
   have ed:ds.drop i=d::ds.drop (i+1):=by
    rw [List.drop_eq_getElem_cons hlt]
    rw [List.getElem?_eq_getElem hlt] at hd
    cases hd
    rfl
   rw [ed] at hcr
   unfold cA at hcr
   cases eh:h d (cMe k cap m) with
   |none=>rw [eh] at hcr; cases hcr
   |some m1=>
    rw [eh] at hcr
    have G2:aL H H2:=(g1.trans g2).trans g3
    have R2:=S6 (k:=k) (cap:=cap) (l:=l) (zs:=zs) R G2 hlH (g3 _ _ hH)
    refine ⟨_,_,_,_,_,d,m1,R2,by rw [wg]; exact dv,eh,λow' σ' R' g' nb hdr=>⟨hdr,_,_,_,ow',m1,R',?_⟩⟩
    simp only [] at hcr
    cases et:ft m1 with
    |exc c=>rw [et] at hcr; cases hcr
    |stuck=>rw [et] at hcr; cases hcr
    |ok t=>
     rw [et] at hcr
     intro H3 g4
     cases t with
     |false=>
      rw [if_neg Bool.false_ne_true]
      exact ⟨ds.length - (i+1),by omega,rfl,hlt,by omega,(g2.trans g3).trans g4,g4 _ _ (g3 _ _ hH),es,rest,hes.mono (g3.trans g4),hcr,hys⟩
     |true=>
      rw [if_pos rfl]
      refine ⟨_,_,_,ow',m1,R'.mono g4,?_⟩
      simp only [] at hcr
      cases ee:fe m1 with
      |exc c=>rw [ee] at hcr; cases hcr
      |stuck=>rw [ee] at hcr; cases hcr
      |ok y'=>
       rw [ee] at hcr
       intro v H5 g5 hv
       simp only [] at hcr
       cases er:cA h ft fe (cMe k cap m) (ds.drop (i+1)) with
       |exc c=>rw [er] at hcr; cases hcr
       |stuck=>rw [er] at hcr; cases hcr
       |ok rest'=>
        rw [er] at hcr
        cases hcr
        have G5:aL H' H5:=(g3.trans g4).trans g5
        have mk5:∀b,Op (Ow O0 ow) l b->gY (H5 b):=λb z=>by
         rcases z with z | z
         ·exact wY (((g1.trans g2).trans G5)) (R.mutk b z)
         ·rw [z,G5 _ _ hH]; exact .inl ⟨zs,rfl⟩
        have kp5:Kp (Op (Ow O0 ow) l) H5 (upd H5 l (.lst (zs++[v]))):=λb o e n=>by
         rw [cO (show b≠l from λz=>n (.inr z))]
         exact e
        refine ⟨G5 _ _ hH,by omega,ds.length - (i+1),by omega,rfl,hlt,by rw [List.length_append,List.length_singleton]; omega,?_,bA,es++[y'],rest',?_,er,by rw [List.append_assoc]; exact hys⟩
        ·exact Lj ((Yn (g2.trans G5)).trans Su) hl
        ·exact jR ((hes.mono G5).kp mk5 kp5) (.cons ((hv.cu λb z=>.inl (.inl z)).kp mk5 kp5) .nil)
  ·have e:i=ds.length:=by omega
   subst e
   rw [List.drop_length] at hcr
   cases hcr
   rw [List.append_nil] at hys
   subst hys
   exact .inl ⟨i3,q l H' (g1.trans g2) hlH ⟨zs,hH,hes⟩⟩
section
variable {tg iter elt:Expr}{ifs:List Expr}{scope:Scope}{pos:Pos}
theorem dR (sc:Scope)(N' caps:List Str)(k:Nat)(cap:List Nat)(hcalm:X.calm=true)(S:CSc sc scope caps)(hcap:Paired (λj x=>X.N[j]? = some x) cap caps)
  (hi:FIw X E tg iter fi) (hg:∀cl C sE HE fp pins,FG (dC X N' scope cl C sE HE fp pins) k tg h) (ht:∀cl C sE HE fp pins,Vh (dC X N' scope cl C sE HE fp pins) E0 ifs ft) (he:∀cl C sE HE fp pins,FE (dC X N' scope cl C sE HE fp pins) E0 elt fe)
  (hsc:X.env.scope=sc:=by rfl) (hN:N'.drop k=caps:=by rfl) (hk:k<=N'.length:=by decide) (hs:∀x,foldedSetIterable iter X.env x=pure x:=by intro _; rfl):
  FN X E (.ListComp elt [⟨tg,iter,ifs,0⟩] scope pos) (bZ k cap fi h ft fe):=bJ (V3 sc N' caps k cap hcalm S hcap hi hg ht he hsc hN hk hs) λ_ _ _ q=>K3 q
variable {i:Nat}{y:Str}{py spos:Pos}
theorem uN (sc:Scope)(N' caps:List Str)(k:Nat)(cap:List Nat)(hnd:X.N.Nodup)(hi':X.N[i]? = some y)(hy:Loc X.env.scope y)(hcalm:X.calm=true)(S:CSc sc scope caps)(hcap:Paired (λj x=>X.N[j]? = some x) cap caps)
  (hi:FIw X E tg iter fi) (hg:∀cl C sE HE fp pins,FG (dC X N' scope cl C sE HE fp pins) k tg h) (ht:∀cl C sE HE fp pins,Vh (dC X N' scope cl C sE HE fp pins) E0 ifs ft) (he:∀cl C sE HE fp pins,FE (dC X N' scope cl C sE HE fp pins) E0 elt fe)
  (hsw:swapsWith (.ListComp elt [⟨tg,iter,ifs,0⟩] scope pos) (some (.Name y py)) spos.line X.env=pure true:=by rfl)
  (hsc:X.env.scope=sc:=by rfl) (hN:N'.drop k=caps:=by rfl) (hk:k<=N'.length:=by decide) (hs:∀x,foldedSetIterable iter X.env x=pure x:=by intro _; rfl)
  (hf:X.fn y=true\/X.env.scope.names.lookup y=some .local:=by first | exact .inl rfl | exact .inr rfl | assumption):
  FS X E (.Assign [.Name y py] (.ListComp elt [⟨tg,iter,ifs,0⟩] scope pos) spos) (bu i (bZ k cap fi h ft fe)):=
 cM (Jm sc N' caps k cap hnd hi' hy hcalm S hcap hi hg ht he hsw hsc hN hk hs hf) λW σ H q=>by
  refine K3 (h:=h) (ft:=ft) (fe:=fe) (Q:=λx H1=>BR i x σ H1 W.nx) ?_
  obtain ⟨O0,M0,H0,ow,m,R,q⟩:=Uo q
  exact ⟨O0,M0,H0,ow,m,R,q.imp (aL.refl _) λ_ k p H' g n o=>k _ H' g ((o.cu λb z=>.inl (.inl z)).dv (R.Ib n))⟩
end
end
noncomputable def spF (G:Gx)(Φ:List D->Res (Bool×D)):Sp:=λvs H Q E=>∃O ds,(∀b,O b->gY (H b))/\DVs G O H vs ds/\Pu G E (Φ ds) H λr=>∀v H',aL H H'->DV G O H' v r.2->(r.1=true->Fr G O H v H' r.2)->Q v H'
noncomputable def aY (N n:Nat)(g:Me->Res (Fl×Me)):List D->Res (Bool×D):=λds=>if ds.length=n then match g (ds.map Sl.fz++List.replicate (N - n) Sl.un) with
  | .ok (.rt fr d,_)=>.ok (fr,d)
  | .ok (.nx,_)=>.ok (false,.non)
  | .exc c=>.exc c
  |_=>.stuck
 else .stuck
noncomputable abbrev FF (P:Program)(w:World)(K:W.Frag)(mg:Str->Option Value)(base:Heap)(k:Nat)(x:Str)(ps:List Str)(Φ:List D->Res (Bool×D)):Prop:=Hd.Fn P w K mg base k x ps (spF ⟨K,mg⟩ Φ)
theorem Ou {G:Gx}{O:Addr->Prop}{H:Hp}{N:List Str}{vs:List V}{ds:List D}{n:Nat}(hm:∀b,O b->gY (H b))(hd:DVs G O H vs ds)(hn:ds.length=n):
  du G O (λ_=>False) H (λ_=>none) (L2.start N vs) H (ds.map Sl.fz++List.replicate (N.length - n) Sl.un):=by
 have hl:=bU hd
 refine ⟨⟨by simp [L2.start,hl,hn],λb o e _=>e,λb z=>z.elim,λb z=>by rw [wg] at z; exact hm b z,λi a e=>(by cases e),λi j a e=>(by cases e),λ_ _=>rfl,λi s e=>?_⟩,λj d e=>?_⟩
 ·by_cases hi:i<ds.length
  ·rw [List.getElem?_append_left (by simpa using hi),List.getElem?_map] at e
   cases ed:ds[i]? with
   |none=>rw [ed] at e; cases e
   |some d=>
    rw [ed] at e
    cases e
    obtain ⟨x,hx,dx⟩:=uI hd ed
    refine ⟨rfl,x,?_,by rw [wg]; exact dx⟩
    unfold L2.start
    rw [List.getElem?_append_left (by simpa [hl] using hi),List.getElem?_map,hx]
    rfl
  ·rw [List.getElem?_append_right (by simp; omega),List.getElem?_replicate] at e
   split at e
   ·cases e; rfl
   ·cases e
 ·by_cases hi:j<ds.length
  ·rw [List.getElem?_append_left (by simpa using hi),List.getElem?_map] at e
   cases ed:ds[j]? with
   |none=>rw [ed] at e; cases e
   |some d=>rw [ed] at e; cases e
  ·rw [List.getElem?_append_right (by simp; omega),List.getElem?_replicate] at e
   split at e <;> cases e
section
variable {P:Program}{w:World}{K:W.Frag}{mg:Str->Option Value}{base:Heap}
theorem bz {x qual:Str}{st:Stmt}{f:Addr}{fd:FuncData}{N ps:List Str}{k:Nat}{g:Me->Res (Fl×Me)}(Fu:Fun K x qual st f fd)(S:aX N ps (aG st))
  (hbody:∀(cdv:Value) (A:Around) (outer:List Env) (s:Shared) (H:Hp) (E:XK),iR k (A.deeper (envOfC qual (aG st) s.heap.objs.size f cdv))->
   FSs (Ay (CX1 P w) P w K mg base N qual (aG st) f cdv A outer s H E) E (jr st) g):cL P w K mg base (CX1 P w) (k+1) f fd ps (spF ⟨K,mg⟩ (aY N.length ps.length g)):=by
 refine Ml Fu S (λvs H Q E h=>?_) (λcdv A outer s H vs Q E hr h=>?_)
 ·obtain ⟨O,ds,_,hd,q⟩:=h
  rw [bU hd]
  unfold aY at q
  exact (DY q).1
 ·obtain ⟨O,ds,hm,hd,q⟩:=h
  unfold aY at q
  obtain ⟨hn,q⟩:=DY q
  refine ⟨_,hbody cdv A outer s H E hr,O,λ_=>False,H,λ_=>none,_,Ou hm hd hn,?_⟩
  have sm:∀{ow' σ' H' m'},du (⟨K,mg⟩:Gx) O (λ_=>False) H ow' σ' H' m'->aL H H':=λR b o e=>R.keep b o e id
  cases z:g (ds.map Sl.fz++List.replicate (N.length - ps.length) Sl.un) with
  |exc c=>rw [z] at q; exact λC H' e kp=>q C H' e λb o e=>kp b o e id
  |stuck=>rw [z] at q; exact q.elim
  |ok a=>
   obtain ⟨fl,m'⟩:=a
   rw [z] at q
   cases fl with
   |bk=>exact q.elim
   |ct=>exact q.elim
   |nx=>exact λow' σ' H' R' _=>q _ H' (sm R') .non λz=>by cases z
   |rt fr d=>
    intro v ow' σ' H' R' _ hv hf
    refine q v H' (sm R') (hv.cu λb z=>.inl (.inl z)) λz=>?_
    obtain ⟨p,e1,e2,e3⟩:=hf z
    exact ⟨p,e1,e2,e3.cu λb z=>.inl (z.elim (λy=>.inl (.inl y)) .inr)⟩
theorem Yd {k:Nat}{f:Addr}{fd:FuncData}{ps:List Str}:cL P w K mg base (CX1 P w) k f fd ps (spF ⟨K,mg⟩ λ_=>.stuck):=
 ⟨λ_ _ _ _ ⟨_,_,_,_,q⟩=>q.elim,λ_ _ _ _ _ _ _ _ _ _ _ _ _ ⟨_,_,_,_,q⟩=>q.elim⟩
end
noncomputable def fFn (Φ:List D->Res (Bool×D))(fs:Me->Res (List D)):Me->Res D:=λm=>(fs m).bind λds=>(Φ ds).bind λr=>.ok r.2
noncomputable def aaf (Φ:List D->Res (Bool×D))(fs:Me->Res (List D)):Me->Res D:=λm=>(fs m).bind λds=>(Φ ds).bind λr=>if r.1=true then .ok r.2 else .stuck
section
variable {X:Cx}{E:XK}{j k:Nat}{x:Str}{ps:List Str}{Φ:List D->Res (Bool×D)}{p pos:Pos}{e:Expr}{es:List Expr}{fs:Me->Res (List D)}
theorem bx (Fh:FF X.prog X.w X.K X.mg X.base k x ps Φ)(hr:iR j X.A)(hx:Passes (CX1 X.prog X.w) X E)(ha:FAE X E (e::es) fs)(hk:k<=j:=by decide)(hg:Gl X x:=by rfl)
  (hdb:(x == ("__debug__" : Str))=false:=by decide) (he:starEach (e::es) X.env=(false,eval e X.env)::starEach es X.env:=by rfl) (hpl:(backTo pos (starEach es X.env)).any (·.1)=false:=by rfl):
  FE X E (.Call (.Name x p) (e::es) [] pos) (fFn Φ fs):=by
 obtain ⟨f,fd,G,b,kp,m⟩:=Fh.ex
 refine bJ (Gi G (hr.mono hk) hg m kp b .nil hx ha hdb he hpl) λσ H Q hE=>xq5 hE λO0 M0 H0 ow m R q=>⟨O0,M0,H0,ow,m,R,q.bind.imp (aL.refl _) λds q vs H1 g1 hv=>?_⟩
 show spF _ _ (vs++[]) _ _ _
 rw [List.append_nil]
 exact ⟨_,ds,(R.mono g1).mutk,hv,q.bind.imp g1 λr q v H' g2 hv' _=>q v H' (g1.trans g2) hv'⟩
theorem abr (Fh:FF X.prog X.w X.K X.mg X.base k x ps Φ)(hr:iR j X.A)(hx:Passes (CX1 X.prog X.w) X E)(ha:FAE X E (e::es) fs)(hk:k<=j:=by decide)(hg:Gl X x:=by rfl)
  (hdb:(x == ("__debug__" : Str))=false:=by decide) (he:starEach (e::es) X.env=(false,eval e X.env)::starEach es X.env:=by rfl) (hpl:(backTo pos (starEach es X.env)).any (·.1)=false:=by rfl):
  FN X E (.Call (.Name x p) (e::es) [] pos) (aaf Φ fs):=by
 obtain ⟨f,fd,G,b,kp,m⟩:=Fh.ex
 refine bJ (Gi G (hr.mono hk) hg m kp b .nil hx ha hdb he hpl) λσ H Q hE=>xq5 hE λO0 M0 H0 ow m R q=>⟨O0,M0,H0,ow,m,R,q.bind.imp (aL.refl _) λds q vs H1 g1 hv=>?_⟩
 show spF _ _ (vs++[]) _ _ _
 rw [List.append_nil]
 refine ⟨_,ds,(R.mono g1).mutk,hv,q.bind.imp g1 λr q v H' g2 hv' fr=>?_⟩
 obtain ⟨hf,q⟩:=Hh q
 obtain ⟨p,rfl,n,o⟩:=fr hf
 exact q p H' (g1.trans g2) (g1.free n) o
end
open PySem PySem.Spec PyProof.Rows L2 Hd
noncomputable def Bg (i:Int):Prop:=i.natAbs<2 ^ 4000
noncomputable instance (i:Int):Decidable (Bg i):=inferInstanceAs (Decidable (_<_))
noncomputable def dvI (i j:Int):Int:=if 0<j then i / j else i.fdiv j
noncomputable def mdI (i j:Int):Int:=if 0<j then i % j else i.fmod j
noncomputable def cF:D->D->Option D
 | .int i,.int j=>some (.int (i+j))
 | .str a,.str b=>if a.length+b.length<=sizeLine then some (.str (a++b)) else none
 | .lst a,.lst b=>if a.length+b.length<=sizeLine then some (.lst (a++b)) else none
 | .tup a,.tup b=>if a.length+b.length<=sizeLine then some (.tup (a++b)) else none
 |_,_=>none
noncomputable def gC:D->D->Option D
 | .int i,.int j=>some (.int (i - j))
 |_,_=>none
noncomputable def lM:D->D->Option D
 | .int i,.int j=>if Bg i/\Bg j then some (.int (i * j)) else none
 |_,_=>none
noncomputable def eQ:D->D->Option D
 | .int i,.int j=>if j≠0/\Bg j then some (.int (dvI i j)) else none
 |_,_=>none
noncomputable def bO:D->D->Option D
 | .int i,.int j=>if j≠0 then some (.int (mdI i j)) else none
 |_,_=>none
noncomputable def uc:D->Option D
 | .int i=>some (.int (-i))
 |_=>none
section
variable {X:Cx}
theorem oif {c:Prop}[Decidable c]{α:Type}{a r:α}(h:(if c then some a else none)=some r):c/\a=r:=by
 by_cases z:c
 ·rw [if_pos z] at h; exact ⟨z,Option.some.inj h⟩
 ·rw [if_neg z] at h; cases h
theorem Mx {pins:List (Addr×Obj)}{σ:L2.St}{H:Hp}{s:Shared}{Q:VK}{O:Addr->Prop}{i:Str}{t:Tok}{tk:Nat}(I:Inv X pins σ H s)(q:∀v H',aL H H'->DV (gx X) O H' v (.str i)->Q v H'):EP X pins σ Q (.str i t) { s with toks:=tk }:=
 ⟨.str i,H,I.tok _,⟨t,rfl⟩,q _ _ (aL.refl _) (.str i)⟩
theorem U7 {pins:List (Addr×Obj)}{σ:L2.St}{H:Hp}{s:Shared}{Q:VK}{O:Addr->Prop}{xs:List V}{ds:List D}{its:List Value}{h':Heap}{tk:Nat}(I:Inv X pins σ H s)(m:∀b,O b->gY (H b))(hd:DVs (gx X) O H xs ds)(r:Vals xs its)(hz:xs.length<=sizeLine)
  (kp:∀b o,s.heap.get? b=some o->h'.get? b=some o) (e:∃n,h'.get? s.heap.objs.size=some { cls:=.type "list",data:=.seq its.toArray n }) (q:∀p H',aL H H'->H p=none->OV (gx X) (Op O p) H' p (.lst ds)->Q (.ref p) H'):EP X pins σ Q (.ref s.heap.objs.size) { s with heap:=h',toks:=tk }:=by
 have hf:H s.heap.objs.size=none:=I.hok.fresh (Nat.le_refl _)
 obtain ⟨n,e⟩:=e
 refine ⟨.ref s.heap.objs.size,upd H s.heap.objs.size (.lst xs),I.laid kp (Nat.le_refl _) ⟨hz,its,n,r,e⟩,rfl,q _ _ (bQ hf _) hf ⟨xs,bA,?_⟩⟩
 exact (hd.cu λb z=>z.elim .inl λe=>.inr (by rw [e]; exact hf)).mono (bQ hf _)
theorem RT {G:Gx}{O:Addr->Prop}{H:Hp}{r:D}{Q:VK}(m:∀b,O b->gY (H b))(q:∀v H',aL H H'->DV G O H' v r->Q v H'):∀p H',aL H H'->H p=none->OV G (Op O p) H' p r->Q (.ref p) H':=λp H' g n o=>
 q _ H' g ((o.cu λb z=>.inl (.inl z)).dv λz=>by
  have:=m p z
  rw [n] at this
  rcases this with ⟨_,e⟩ | ⟨_,e⟩ | ⟨_,e⟩ <;> cases e)
noncomputable def abP (G:Gx):R2:=λx y H Q=>∃O ds es,(∀b,O b->gY (H b))/\DW G O H x (.lst ds)/\DW G O H y (.lst es)/\ds.length+es.length<=sizeLine/\∀p H',aL H H'->H p=none->OV G (Op O p) H' p (.lst (ds++es))->Q (.ref p) H'
theorem Wt:OpR X (binaryOp .Add) (abP (gx X)):=by
 intro pins s σ H x y v u Q I rx ry h
 obtain ⟨O,ds,es,m,hx,hy,hz,q⟩:=h
 obtain ⟨a,xs,rfl,ha,hd⟩:=jB hx
 obtain ⟨b,ys,rfl,hb,he⟩:=jB hy
 cases rx
 cases ry
 obtain ⟨its,r1,p1,_⟩:=I.list ha
 obtain ⟨its2,r2,p2,_⟩:=I.list hb
 have l1:=bU hd
 have l2:=bU he
 have k1:=r1.length
 have k2:=r2.length
 obtain ⟨⟨cls,dd,data,sl⟩,ho,hc,n,hdt⟩:=id p1.isList
 obtain ⟨⟨cls2,dd2,data2,sl2⟩,ho2,hc2,n2,hd2⟩:=id p2.isList
 simp only at hc hdt hc2 hd2
 subst hc hdt hc2 hd2
 refine concat_meets ⟨_,ho,rfl⟩ ⟨_,ho2,rfl⟩ noFill_list_add seq_list_add PySem.F.slot_list_add PySem.F.entry_list_add (PySem.F.args_list_add_2 _ _) (list_addW a b its.toArray its2.toArray n n2 dd dd2 sl sl2 (by simp; omega)) ⟨ho,ho2,?_⟩
 rw [show its.toArray++its2.toArray=(its++its2).toArray by simp]
 exact U7 (tk:=s.toks) I m (jR hd he) (r1.append r2) (by rw [List.length_append]; omega) (λb o e=>Heap.get?_push_of_some _ e) ⟨0,Heap.get?_push_size _ rfl⟩ q
theorem Qq:OpR X (binaryOp .Add) (λx y H Q=>∃O ds es,DW (gx X) O H x (.tup ds)/\DW (gx X) O H y (.tup es)/\ds.length+es.length<=sizeLine/\∀v H',aL H H'->DV (gx X) O H' v (.tup (ds++es))->Q v H'):=by
 intro pins s σ H x y v u Q I rx ry h
 obtain ⟨O,ds,es,hx,hy,hz,q⟩:=h
 obtain ⟨a,xs,rfl,ha,hd⟩:=yV hx
 obtain ⟨b,ys,rfl,hb,he⟩:=yV hy
 have l1:=bU hd
 have l2:=bU he
 by_cases hx0:xs=[]
 ·subst hx0
  cases hd
  cases rx
  cases ry
  obtain ⟨its,r1,p1,_⟩:=I.tuple ha.sq
  obtain ⟨its2,r2,p2,_⟩:=I.tuple hb.sq
  cases r1
  obtain ⟨⟨cls,dd,data,sl⟩,ho,hc,n,hdt⟩:=id p1
  obtain ⟨⟨cls2,dd2,data2,sl2⟩,ho2,hc2,n2,hd2⟩:=id p2
  simp only at hc hdt hc2 hd2
  subst hc hdt hc2 hd2
  exact concat_meets ⟨_,ho,rfl⟩ ⟨_,ho2,rfl⟩ noFill_tuple_add seq_tuple_add PySem.F.slot_tuple_add PySem.F.entry_tuple_add (PySem.F.args_tuple_add_2 _ _)
   (tuple_addW0 a b ([]:List Value).toArray its2.toArray n n2 dd dd2 sl sl2 (by rfl)) ⟨ho,ho2,⟨.ref b,H,I,rfl,q _ _ (aL.refl _) (.tup hb he)⟩⟩
 ·refine Vt pins s σ H _ _ v u Q I rx ry ⟨a,b,xs,ys,rfl,rfl,ha.sq,hb.sq,hx0,by omega,λz=>?_,λz p hp=>?_⟩
  ·subst z
   cases he
   exact q _ _ (aL.refl _) (by rw [List.append_nil]; exact .tup ha hd)
  ·exact q _ _ (bQ hp _) (.tup (SqU.of bA) ((jR hd he).mono (bQ hp _)))
theorem bV:OpR X (binaryOp .Add) (rG (gx X) cF):=by
 intro pins s σ H x y v u Q I rx ry h
 obtain ⟨O,d,e,r,m,hx,hy,hr,q⟩:=h
 match d,e,hr with
 | .int i,.int j,hr=>
  cases hr
  exact Z2 pins s σ H x y v u Q I rx ry ⟨i,j,cG hx,cG hy,q _ _ (aL.refl _) (.int _)⟩
 | .str i,.str j,hr=>
  obtain ⟨z,rfl⟩:=oif hr
  exact Ke pins s σ H x y v u Q I rx ry ⟨i,j,jA hx,jA hy,z,q _ _ (aL.refl _) (.str _)⟩
 | .lst ds,.lst es,hr=>
  obtain ⟨z,rfl⟩:=oif hr
  exact Wt pins s σ H x y v u Q I rx ry ⟨O,ds,es,m,hx,hy,z,RT m q⟩
 | .tup ds,.tup es,hr=>
  obtain ⟨z,rfl⟩:=oif hr
  exact Qq pins s σ H x y v u Q I rx ry ⟨O,ds,es,hx,hy,z,q⟩
theorem fM:OpR X (binaryOp .Sub) (rG (gx X) gC):=by
 intro pins s σ H x y v u Q I rx ry h
 obtain ⟨O,d,e,r,m,hx,hy,hr,q⟩:=h
 match d,e,hr with
 | .int i,.int j,hr=>
  cases hr
  exact Y5 pins s σ H x y v u Q I rx ry ⟨i,j,cG hx,cG hy,q _ _ (aL.refl _) (.int _)⟩
theorem gD:OpR X (binaryOp .Mult) (rG (gx X) lM):=by
 intro pins s σ H x y v u Q I rx ry h
 obtain ⟨O,d,e,r,m,hx,hy,hr,q⟩:=h
 match d,e,hr with
 | .int i,.int j,hr=>
  obtain ⟨z,rfl⟩:=oif hr
  exact Xd pins s σ H x y v u Q I rx ry ⟨i,j,cG hx,cG hy,z,q _ _ (aL.refl _) (.int _)⟩
theorem dh:OpR X (binaryOp .FloorDiv) (rG (gx X) eQ):=by
 intro pins s σ H x y v u Q I rx ry h
 obtain ⟨O,d,e,r,m,hx,hy,hr,q⟩:=h
 match d,e,hr with
 | .int i,.int j,hr=>
  obtain ⟨z,rfl⟩:=oif hr
  refine QH pins s σ H x y v u Q I rx ry ⟨i,j,cG hx,cG hy,z,?_⟩
  have e:i.fdiv j=dvI i j:=by
   unfold dvI
   split
   ·rw [Int.fdiv_eq_ediv_of_nonneg i (by omega)]
   ·rfl
  show Q (.int (i.fdiv j)) H
  rw [e]
  exact q _ _ (aL.refl _) (.int _)
theorem bK:OpR X (binaryOp .Mod) (rG (gx X) bO):=by
 intro pins s σ H x y v u Q I rx ry h
 obtain ⟨O,d,e,r,m,hx,hy,hr,q⟩:=h
 match d,e,hr with
 | .int i,.int j,hr=>
  obtain ⟨z,rfl⟩:=oif hr
  refine Vi pins s σ H x y v u Q I rx ry ⟨i,j,cG hx,cG hy,z,?_⟩
  have e:i.fmod j=mdI i j:=by
   unfold mdI
   split
   ·rw [Int.fmod_eq_emod_of_nonneg i (by omega)]
   ·rfl
  show Q (.int (i.fmod j)) H
  rw [e]
  exact q _ _ (aL.refl _) (.int _)
theorem t6:UnR X (unaryOp .USub) (rG1 (gx X) uc):=by
 intro pins s σ H x v Q I rx h
 obtain ⟨O,d,r,m,hx,hr,q⟩:=h
 match d,hr with
 | .int i,hr=>
  cases hr
  exact aad pins s σ H x v Q I rx ⟨i,cG hx,q _ _ (aL.refl _) (.int _)⟩
mutual
noncomputable def toPy:D->Option PyData
 | .non=>some .none
 | .bl b=>some (.bool b)
 | .int i=>some (.int i)
 | .str x=>some (.str x)
 | .tup xs=>(ye xs).map .tuple
 | .lst xs=>(ye xs).map .list
 | .exc _=>none
 | .dct _ _=>none
 | .dcu _ _=>none
 | .adr _=>none
 | .dcf _ _=>none
noncomputable def ye:List D->Option (List PyData)
 |[]=>some []
 |d::ds=>(toPy d).bind λp=>(ye ds).map λps=>p::ps
end
mutual
theorem M3 {G:Gx}{O:Addr->Prop}{H:Hp}:∀{v:V} {d:D} {p:PyData},DV G O H v d->toPy d=some p->Hd.DV G.K H v p
 |_,_,_,.non,e=>by cases e; exact .non
 |_,_,_,.bl b,e=>by cases e; exact .bl b
 |_,_,_,.int i,e=>by cases e; exact .int i
 |_,_,_,.str x,e=>by cases e; exact .str x
 |_,_,_,.exc _ _,e=>by cases e
 |_,_,_,.tup h hs,e=>by
  obtain ⟨ps,e1,rfl⟩:=omap (by simpa [toPy] using e)
  exact .tup h.sq (zH hs e1)
 |_,_,_,.lst h hs,e=>by
  obtain ⟨ps,e1,rfl⟩:=omap (by simpa [toPy] using e)
  exact .lst h.sq (zH hs e1)
 |_,_,_,.dct _ _ _ _ _,e=>by cases e
 |_,_,_,.dcu _ _ _ _ _,e=>by cases e
 |_,_,_,.adr _,e=>by cases e
 |_,_,_,.dcf _ _ _ _,e=>by cases e
theorem zH {G:Gx}{O:Addr->Prop}{H:Hp}:∀{vs:List V} {ds:List D} {ps:List PyData},DVs G O H vs ds->ye ds=some ps->Hd.DVs G.K H vs ps
 |_,_,_,.nil,e=>by cases e; exact .nil
 |_,_,_,.cons (d:=d) (ds:=ds) h hs,e=>by
  unfold ye at e
  cases e1:toPy d with
  |none=>rw [e1] at e; cases e
  |some p=>
   rw [e1] at e
   obtain ⟨ps,e2,rfl⟩:=omap e
   exact .cons (M3 h e1) (zH hs e2)
end
theorem yR {G:Gx}{O:Addr->Prop}{H:Hp}{v:V}{d:D}{p:PyData}(h:DW G O H v d)(e:toPy d=some p):Hd.DV G.K H v p:=M3 h.any e
noncomputable def xr (d e:D):Option Bool:=match toPy d,toPy e with
 |some p,some q=>if SeqAt.shaped p=true/\SeqAt.shaped q=true then some (PyData.eqv p q) else none
 |_,_=>none
noncomputable def gEq:D->D->Option Bool
 | .int i,.int j=>some (decide (i=j))
 | .str i,.str j=>some (decide (i=j))
 | .bl i,.bl j=>some (decide (i=j))
 | .non,.non=>some true
 |d,e=>xr d e
noncomputable def gNe (d e:D):Option Bool:=(gEq d e).map (!·)
theorem BX {d e:D}{b:Bool}(h:xr d e=some b):∃p q,toPy d=some p/\toPy e=some q/\SeqAt.shaped p=true/\SeqAt.shaped q=true/\PyData.eqv p q=b:=by
 unfold xr at h
 cases e1:toPy d with
 |none=>rw [e1] at h; cases h
 |some p=>
  cases e2:toPy e with
  |none=>rw [e1,e2] at h; cases h
  |some q=>
   rw [e1,e2] at h
   obtain ⟨⟨z1,z2⟩,rfl⟩:=oif h
   exact ⟨p,q,rfl,rfl,z1,z2,rfl⟩
theorem Ci {d e:D}{b:Bool}(h:gEq d e=some b):(∃i j,d=.int i/\e=.int j/\b=decide (i=j))\/(∃i j,d=.str i/\e=.str j/\b=decide (i=j))\/(∃i j,d=.bl i/\e=.bl j/\b=decide (i=j))\/(d=.non/\e=.non/\b=true)\/xr d e=some b:=by
 unfold gEq at h
 split at h
 ·cases h; exact .inl ⟨_,_,rfl,rfl,rfl⟩
 ·cases h; exact .inr (.inl ⟨_,_,rfl,rfl,rfl⟩)
 ·cases h; exact .inr (.inr (.inl ⟨_,_,rfl,rfl,rfl⟩))
 ·cases h; exact .inr (.inr (.inr (.inl ⟨rfl,rfl,rfl⟩)))
 ·exact .inr (.inr (.inr (.inr h)))
theorem fj (hu:X.A.units+64<cLine):OpR X (compareOp .Eq) (rGB (gx X) gEq):=by
 intro pins s σ H x y v u Q I rx ry h
 obtain ⟨O,d,e,r,m,hx,hy,hr,q⟩:=h
 rcases Ci hr with ⟨i,j,rfl,rfl,rfl⟩ | ⟨i,j,rfl,rfl,rfl⟩ | ⟨i,j,rfl,rfl,rfl⟩ | ⟨rfl,rfl,rfl⟩ | h
 ·cases cG hx; cases cG hy
  exact N5 pins s σ H _ _ v u Q I rx ry ⟨rfl,by simpa using q⟩
 ·cases jA hx; cases jA hy
  exact N5 pins s σ H _ _ v u Q I rx ry ⟨rfl,by simpa using q⟩
 ·cases Hz hx; cases Hz hy
  exact N5 pins s σ H _ _ v u Q I rx ry ⟨rfl,by simpa using q⟩
 ·cases zu hx; cases zu hy
  exact N5 pins s σ H _ _ v u Q I rx ry ⟨rfl,by simpa using q⟩
 ·obtain ⟨p,p',e1,e2,z1,z2,rfl⟩:=BX h
  exact YJ hu pins s σ H x y v u Q I rx ry ⟨p,p',yR hx e1,yR hy e2,z1,z2,q⟩
theorem o5 (hu:X.A.units+64<cLine):OpR X (compareOp .NotEq) (rGB (gx X) gNe):=by
 intro pins s σ H x y v u Q I rx ry h
 obtain ⟨O,d,e,r,m,hx,hy,hr,q⟩:=h
 obtain ⟨c,hc,rfl⟩:=omap hr
 rcases Ci hc with ⟨i,j,rfl,rfl,rfl⟩ | ⟨i,j,rfl,rfl,rfl⟩ | ⟨i,j,rfl,rfl,rfl⟩ | ⟨rfl,rfl,rfl⟩ | h
 ·cases cG hx; cases cG hy
  exact MP pins s σ H _ _ v u Q I rx ry ⟨rfl,by simpa using q⟩
 ·cases jA hx; cases jA hy
  exact MP pins s σ H _ _ v u Q I rx ry ⟨rfl,by simpa using q⟩
 ·cases Hz hx; cases Hz hy
  exact MP pins s σ H _ _ v u Q I rx ry ⟨rfl,by simpa using q⟩
 ·cases zu hx; cases zu hy
  exact MP pins s σ H _ _ v u Q I rx ry ⟨rfl,by simpa using q⟩
 ·obtain ⟨p,p',e1,e2,z1,z2,rfl⟩:=BX h
  exact Z7 hu pins s σ H x y v u Q I rx ry ⟨p,p',yR hx e1,yR hy e2,z1,z2,q⟩
noncomputable def wk:List D->Option (List Int)
 |[]=>some []
 | .int i::ds=>(wk ds).map (i::·)
 |_::_=>none
theorem yI {G:Gx}{O:Addr->Prop}{H:Hp}:∀{vs:List V} {ds:List D} {ns:List Int},DVs G O H vs ds->wk ds=some ns->vs=ns.map V.int
 |_,_,_,.nil,e=>by cases e; rfl
 |_,_,_,.cons (d:=d) h hs,e=>by
  cases d with
  |int i=>
   obtain ⟨ns,e1,rfl⟩:=omap (by simpa [wk] using e)
   cases h
   rw [yI hs e1]
   rfl
  |_=>cases e
noncomputable def gLt:D->D->Option Bool
 | .int i,.int j=>some (decide (i<j))
 | .tup a,.tup b=>match wk a,wk b with
  |some ns,some ms=>some (HT.lexLt ns ms)
  |_,_=>none
 |_,_=>none
noncomputable def gGt:D->D->Option Bool
 | .int i,.int j=>some (decide (j<i))
 |_,_=>none
noncomputable def gGe:D->D->Option Bool
 | .int i,.int j=>some (decide (j<=i))
 |_,_=>none
theorem Er (hu:X.A.units+64<cLine):OpR X (compareOp .Lt) (rGB (gx X) gLt):=by
 intro pins s σ H x y v u Q I rx ry h
 obtain ⟨O,d,e,r,m,hx,hy,hr,q⟩:=h
 match d,e,hr with
 | .int i,.int j,hr=>cases hr; exact abF pins s σ H x y v u Q I rx ry ⟨i,j,cG hx,cG hy,q⟩
 | .tup a,.tup b,hr=>
  unfold gLt at hr
  cases e1:wk a with
  |none=>simp only [e1] at hr; cases hr
  |some ns=>
   cases e2:wk b with
   |none=>simp only [e1,e2] at hr; cases hr
   |some ms=>
    simp only [e1,e2] at hr
    cases hr
    obtain ⟨p,xs,rfl,hp,hd⟩:=sY hx
    obtain ⟨p',ys,rfl,hp',hd'⟩:=sY hy
    exact aas (by omega) pins s σ H _ _ v u Q I rx ry ⟨p,p',ns,ms,rfl,rfl,by rw [← yI hd e1]; exact hp,by rw [← yI hd' e2]; exact hp',q⟩
theorem qL:OpR X (compareOp .Gt) (rGB (gx X) gGt):=by
 intro pins s σ H x y v u Q I rx ry h
 obtain ⟨O,d,e,r,m,hx,hy,hr,q⟩:=h
 match d,e,hr with
 | .int i,.int j,hr=>cases hr; exact aa2 pins s σ H x y v u Q I rx ry ⟨i,j,cG hx,cG hy,q⟩
theorem RJ:OpR X (compareOp .GtE) (rGB (gx X) gGe):=by
 intro pins s σ H x y v u Q I rx ry h
 obtain ⟨O,d,e,r,m,hx,hy,hr,q⟩:=h
 match d,e,hr with
 | .int i,.int j,hr=>cases hr; exact abM pins s σ H x y v u Q I rx ry ⟨i,j,cG hx,cG hy,q⟩
end
open PySem PySem.Spec PyProof.Rows L2 Hd
section
variable {X:Cx}{E:XK}{e a b:Expr}{es:List Expr}{f fa:Me->Res D}{fs:Me->Res (List D)}{pos p:Pos}
noncomputable def gIx:D->D->Option D
 | .lst ds,.int i=>atI ds i
 | .tup ds,.int i=>atI ds i
 | .str z,.int i=>if z.length<=sizeLine then (atI z.cps.toList i).map λc=>.str ⟨#[c]⟩ else none
 |_,_=>none
theorem Lb {G:Gx}{O:Addr->Prop}{H:Hp}{xs:List V}{ds:List D}{i:Int}{d:D}(h:DVs G O H xs ds)(e:atI ds i=some d):∃x,atI xs i=some x/\DV G O H x d:=by
 unfold atI at e ⊢
 rw [bU h]
 cases q:ixN ds.length i with
 |none=>rw [q] at e; cases e
 |some j=>rw [q] at e; exact uI h e
theorem nQ:IxR X (rG (gx X) gIx):=by
 intro value slice pins s σ H x y v u Q I rx ry h hs
 obtain ⟨O,d,e,r,m,hx,hy,hr,q⟩:=h
 match d,e,hr with
 | .lst ds,.int i,hr=>
  cases cG hy
  obtain ⟨p,xs,rfl,hp,hd⟩:=jB hx
  obtain ⟨z,hz,dz⟩:=Lb hd hr
  exact VD value slice pins s σ H _ _ v u Q I rx ry ⟨p,xs,i,z,rfl,rfl,hp,hz,q _ _ (aL.refl _) dz⟩ hs
 | .tup ds,.int i,hr=>
  cases cG hy
  obtain ⟨p,xs,rfl,hp,hd⟩:=sY hx
  obtain ⟨z,hz,dz⟩:=Lb hd hr
  exact Zo value slice pins s σ H _ _ v u Q I rx ry ⟨p,xs,i,z,rfl,rfl,hp,hz,q _ _ (aL.refl _) dz⟩ hs
 | .str z,.int i,hr=>
  cases cG hy
  cases jA hx
  have hr':(if z.length<=sizeLine then (atI z.cps.toList i).map λc=>D.str ⟨#[c]⟩ else none)=some r:=hr
  by_cases hz:z.length<=sizeLine
  ·rw [if_pos hz] at hr'
   obtain ⟨c,hc,rfl⟩:=omap hr'
   exact Zw value slice pins s σ H _ _ v u Q I rx ry ⟨z,i,c,rfl,rfl,hz,hc,q _ _ (aL.refl _) (.str _)⟩ hs
  ·rw [if_neg hz] at hr'; cases hr'
noncomputable def tO (G:Gx)(E:XK)(f:Me->Res (Option Int)):TO:=λσ H Q=>∃O0 M0 H0 ow m,Rel G O0 M0 H0 ow σ H m/\Pu G E (f m) H λo=>∀H',aL H H'->Q o H'
noncomputable abbrev FO (X:Cx)(E:XK)(e:Option Expr)(f:Me->Res (Option Int)):Prop:=PO X e (tO (gx X) E f)
theorem Nu {e:Option Expr}{T T':TO}(h:PO X e T)(k:∀σ H Q,T' σ H Q->T σ H Q):PO X e T':=λpins s σ H Q I q=>h pins s σ H Q I (k σ H Q q)
noncomputable def fO0:Me->Res (Option Int):=λ_=>.ok none
noncomputable def fO1 (f:Me->Res D):Me->Res (Option Int):=λm=>(f m).bind λd=>match d with
 | .int i=>.ok (some i)
 |_=>.stuck
theorem Ef:FO X E none fO0:=Nu W6 λσ H Q hE=>xq5 hE λO0 M0 H0 ow m R q=>q H (aL.refl _)
theorem vP (h:FB X E e f):FO X E (some e) (fO1 f):=Nu (Vf h) λσ H Q hE=>xq5 hE λO0 M0 H0 ow m R q=>⟨O0,M0,H0,ow,m,R,q.bind.imp (aL.refl _) λd q v H' g hv=>by
 cases d with
 |int i=>cases cG hv; exact ⟨i,rfl,q H' g⟩
 |_=>exact q.elim⟩
noncomputable def cut {α:Type}(xs:List α)(lo hi:Option Int):List α:=(xs.drop (HT.sIx xs.length 0 lo)).take (HT.sIx xs.length xs.length hi - HT.sIx xs.length 0 lo)
noncomputable def gSl:D->Option Int->Option Int->Option D
 | .lst ds,lo,hi=>some (.lst (cut ds lo hi))
 | .tup ds,lo,hi=>if HT.sIx ds.length 0 lo=0/\HT.sIx ds.length ds.length hi=ds.length then none else some (.tup (cut ds lo hi))
 | .str z,lo,hi=>if z.length<=sizeLine then some (.str (Txt.slice z lo hi)) else none
 |_,_,_=>none
noncomputable def rSl (G:Gx):V->Option Int->Option Int->Hp->VK->Prop:=λx lo hi H Q=>∃O d r,(∀b,O b->gY (H b))/\DW G O H x d/\gSl d lo hi=some r/\∀v H',aL H H'->DV G O H' v r->Q v H'
noncomputable def ab7:D->Option Int->Option Int->Option D
 | .lst ds,lo,hi=>some (.lst (cut ds lo hi))
 |_,_,_=>none
noncomputable def ab0 (G:Gx):V->Option Int->Option Int->Hp->VK->Prop:=λx lo hi H Q=>∃O d r,(∀b,O b->gY (H b))/\DW G O H x d/\ab7 d lo hi=some r/\∀p H',aL H H'->H p=none->OV G (Op O p) H' p r->Q (.ref p) H'
theorem Nj {G:Gx}{O:Addr->Prop}{H:Hp}{xs:List V}{ds:List D}{lo hi:Option Int}(h:DVs G O H xs ds):DVs G O H (Jb xs lo hi) (cut ds lo hi):=by
 unfold Jb cut
 rw [bU h]
 exact Az _ (HH _ h)
theorem aaA:SlR X (ab0 (gx X)):=by
 intro pins s σ H x v vl vu lo hi sl Q I rx hs pl pu h
 obtain ⟨O,d,r,m,hx,hr,q⟩:=h
 match d,hr with
 | .lst ds,hr=>
  cases hr
  obtain ⟨p,xs,rfl,hp,hd⟩:=jB hx
  exact WW pins s σ H _ v vl vu lo hi sl Q I rx hs pl pu ⟨p,xs,rfl,hp,λp hp'=>q p _ (bQ hp' _) hp' ⟨_,bA,((Nj hd).cu λb z=>z.elim .inl λe=>.inr (by rw [e]; exact hp')).mono (bQ hp' _)⟩⟩
theorem Rz {u:Value}{o:Option Int}(h:IsPart u o):∃l:Option (Int×Tok),u=partValue l/\l.map (·.1)=o:=by
 cases h with
 |none=>exact ⟨none,rfl,rfl⟩
 |int i t=>exact ⟨some (i,t),rfl,rfl⟩
theorem ach:SlR X (rSl (gx X)):=by
 intro pins s σ H x v vl vu lo hi sl Q I rx hs pl pu h
 obtain ⟨O,d,r,m,hx,hr,q⟩:=h
 match d,hr with
 | .lst ds,hr=>exact aaA pins s σ H x v vl vu lo hi sl Q I rx hs pl pu ⟨O,.lst ds,r,m,hx,hr,RT m q⟩
 | .tup ds,hr=>
  obtain ⟨p,xs,rfl,hp,hd⟩:=sY hx
  have hr':(if HT.sIx ds.length 0 lo=0/\HT.sIx ds.length ds.length hi=ds.length then none else some (D.tup (cut ds lo hi)))=some r:=hr
  by_cases z:HT.sIx ds.length 0 lo=0/\HT.sIx ds.length ds.length hi=ds.length
  ·rw [if_pos z] at hr'; cases hr'
  ·rw [if_neg z] at hr'
   cases hr'
   exact ZV pins s σ H _ v vl vu lo hi sl Q I rx hs pl pu ⟨p,xs,rfl,hp,by rw [bU hd]; exact z,λp hp'=>q _ _ (bQ hp' _) (.tup (SqU.of bA) ((Nj hd).mono (bQ hp' _)))⟩
 | .str z,hr=>
  cases jA hx
  obtain ⟨t,rfl⟩:=rx
  obtain ⟨hz,rfl⟩:=oif hr
  obtain ⟨l,rfl,rfl⟩:=Rz pl
  obtain ⟨u,rfl,rfl⟩:=Rz pu
  refine ⟨"str",_,PySem.F.slot_str_getitem.lookup,typeIs_str _ _ _,wpAny_getItem_str_slice (l:=l) (u:=u) (st:=none) hs rfl (post_val_or_str ⟨Nat.le_trans (Txt.slice_le z _ _) hz,λt' k=>Mx (tk:=k) I q⟩)⟩
noncomputable def fSl (f:Me->Res D)(lo hi:Me->Res (Option Int)):Me->Res D:=λm=>(f m).bind λd=>(lo m).bind λl=>(hi m).bind λu=>ofO (gSl d l u)
variable {lo hi:Option Expr}{fl fh:Me->Res (Option Int)}{p2:Pos}
theorem vN (he:FB X E e f)(hl:FO X E lo fl)(hu:FO X E hi fh):FE X E (.Subscript e (.Slice lo hi none p2) pos) (fSl f fl fh):=
 bJ (QC ach he hl hu) λσ H Q hE=>xq5 hE λO0 M0 H0 ow m R q=>⟨O0,M0,H0,ow,m,R,q.bind.imp (aL.refl _) λd q v H1 g1 hv=>⟨O0,M0,H0,ow,m,R.mono g1,q.bind.imp g1 λl q H2 g2=>⟨O0,M0,H0,ow,m,R.mono (g1.trans g2),q.bind.imp (g1.trans g2) λu q H3 g3=>by
  obtain ⟨r,hr,k⟩:=q.ofO
  exact ⟨_,d,r,(R.mono ((g1.trans g2).trans g3)).mutk,hv.mono (g2.trans g3),hr,λv H' g d=>k v H' (((g1.trans g2).trans g3).trans g) d⟩⟩⟩⟩
noncomputable def iU:List D->Option D
 |[.lst ds]=>some (.int ds.length)
 |[.tup ds]=>some (.int ds.length)
 |[.str z]=>if z.length<=sizeLine then some (.int z.length) else none
 |[.dct ks _]=>some (.int ks.length)
 |_=>none
theorem v8 {G:Gx}{O:Addr->Prop}{H:Hp}{vs:List V}{d:D}(h:DWs G O H vs [d]):∃v,vs=[v]/\DW G O H v d:=by
 match h with
 | .cons a .nil=>exact ⟨_,rfl,a⟩
theorem eU:kJ X (.builtin "len") (rGC (gx X) iU):=by
 intro pins s σ H xs us Q I r h
 obtain ⟨O,ds,d,m,hx,hr,q⟩:=h
 match ds,hr with
 |[.lst ds],hr=>
  cases hr
  obtain ⟨v,rfl,hv⟩:=v8 hx
  obtain ⟨p,xs,rfl,hp,hd⟩:=jB hv
  exact wA pins s σ H _ us Q I r ⟨p,xs,rfl,.inl hp,by rw [bU hd]; exact q _ _ (aL.refl _) (.int _)⟩
 |[.tup ds],hr=>
  cases hr
  obtain ⟨v,rfl,hv⟩:=v8 hx
  obtain ⟨p,xs,rfl,hp,hd⟩:=sY hv
  exact wA pins s σ H _ us Q I r ⟨p,xs,rfl,.inr hp,by rw [bU hd]; exact q _ _ (aL.refl _) (.int _)⟩
 |[.str z],hr=>
  obtain ⟨hz,rfl⟩:=oif hr
  obtain ⟨v,rfl,hv⟩:=v8 hx
  cases jA hv
  exact Ej pins s σ H _ us Q I r ⟨z,rfl,hz,q _ _ (aL.refl _) (.int _)⟩
 |[.dct ks vs],hr=>
  cases hr
  obtain ⟨v,rfl,hv⟩:=v8 hx
  obtain ⟨p,kvs,ws,rfl,hp,e1,e2,hd⟩:=JC hv
  exact OJ pins s σ H _ us Q I r ⟨p,kvs,rfl,hp,by rw [show kvs.length=ks.length by rw [← e1,List.length_map]]; exact q _ _ (aL.refl _) (.int _)⟩
noncomputable def Ho:List D->Option D
 |[.int i]=>some (.int (if i<0 then -i else i))
 |_=>none
theorem tZ:kJ X (.builtin "abs") (rGC (gx X) Ho):=by
 intro pins s σ H xs us Q I r h
 obtain ⟨O,ds,d,m,hx,hr,q⟩:=h
 match ds,hr with
 |[.int i],hr=>
  cases hr
  obtain ⟨v,rfl,hv⟩:=v8 hx
  cases cG hv
  exact Uy pins s σ H _ us Q I r ⟨i,rfl,q _ _ (aL.refl _) (.int _)⟩
noncomputable def gP:List D->Option D
 |[.lst ds]=>some (.tup ds)
 |[.tup ds]=>some (.tup ds)
 |_=>none
theorem gf:kJ X (.type "tuple") (rGC (gx X) gP):=by
 intro pins s σ H xs us Q I r h
 obtain ⟨O,ds,d,m,hx,hr,q⟩:=h
 match ds,hr with
 |[.lst ds],hr=>
  cases hr
  obtain ⟨v,rfl,hv⟩:=v8 hx
  obtain ⟨p,xs,rfl,hp,hd⟩:=jB hv
  exact uq pins s σ H _ us Q I r ⟨p,xs,rfl,.inl ⟨hp,λl hl=>q _ _ (bQ hl _) (.tup (SqU.of bA) (hd.mono (bQ hl _)))⟩⟩
 |[.tup ds],hr=>
  cases hr
  obtain ⟨v,rfl,hv⟩:=v8 hx
  obtain ⟨p,xs,rfl,hp,hd⟩:=yV hv
  exact uq pins s σ H _ us Q I r ⟨p,xs,rfl,.inr ⟨hp.sq,q _ _ (aL.refl _) (.tup hp hd)⟩⟩
noncomputable def yj:List D->Option D
 |[.lst ds]=>some (.lst ds)
 |[.tup ds]=>some (.lst ds)
 |_=>none
theorem uT:kJ X (.type "list") (Yt (gx X) yj):=by
 intro pins s σ H xs us Q I r h
 obtain ⟨O,ds,d,m,hx,hr,q⟩:=h
 have go:∀{p:Addr} {ys:List V} {ds:List D},(SqL X.K H p ys\/SqT X.K H p ys)->DVs (gx X) O H ys ds->(∀p H',aL H H'->H p=none->OV (gx X) (Op O p) H' p (.lst ds)->Q (.ref p) H')->Vals [V.ref p] us->wpAny (model X.prog X.w) X.A (call (.type "list") us) (EP X pins σ Q) X.xe s:=
  λhp hd q r=>Gn pins s σ H _ us Q I r ⟨_,_,rfl,hp,λl hl=>q _ _ (bQ hl _) hl ⟨_,bA,(hd.cu λb z=>z.elim .inl λe=>.inr (by rw [e]; exact hl)).mono (bQ hl _)⟩⟩
 match ds,hr with
 |[.lst ds],hr=>
  cases hr
  obtain ⟨v,rfl,hv⟩:=v8 hx
  obtain ⟨p,xs,rfl,hp,hd⟩:=jB hv
  exact go (.inl hp) hd q r
 |[.tup ds],hr=>
  cases hr
  obtain ⟨v,rfl,hv⟩:=v8 hx
  obtain ⟨p,xs,rfl,hp,hd⟩:=sY hv
  exact go (.inr hp) hd q r
noncomputable def lZ:D->String
 | .non=>"NoneType"
 | .bl _=>"bool"
 | .int _=>"int"
 | .str _=>"str"
 | .tup _=>"tuple"
 | .lst _=>"list"
 | .dct _ _=>"dict"
 | .dcu _ _=>"dict"
 | .exc _=>""
 | .dcf _ _=>""
 | .adr _=>""
noncomputable def O7 (t T:String):Bool:=t == T || (t == "bool" && T == "int")
noncomputable def kinds:List String:=["NoneType", "bool", "int", "str", "tuple", "list", "dict"]
theorem Wa {K:W.Frag}{t:String}:PySem.W.kitOne K (.type t) (.type t)=some true:=by unfold PySem.W.kitOne; rw [if_pos (by simp)]
theorem W0 {K:W.Frag}:∀t∈kinds,∀T∈kinds,PySem.W.kitOne K (.type t) (.type T)=some (O7 t T):=by
 intro t ht T hT
 simp only [kinds,List.mem_cons,List.not_mem_nil,or_false] at ht hT
 rcases ht with rfl | rfl | rfl | rfl | rfl | rfl | rfl <;> rcases hT with rfl | rfl | rfl | rfl | rfl | rfl | rfl <;> first | exact Wa | kernel_rfl
theorem SJ {G:Gx}{O:Addr->Prop}{H:Hp}{v:V}{d:D}(h:DW G O H v d)(n:lZ d≠""):lZ d∈kinds/\TyK G.K H v (.type (lZ d)):=by
 have z:=h.any
 cases z with
 |non=>exact ⟨by simp [lZ,kinds],.of .non⟩
 |bl b=>exact ⟨by simp [lZ,kinds],.of (.bl b)⟩
 |int b=>exact ⟨by simp [lZ,kinds],.of (.int b)⟩
 |str b=>exact ⟨by simp [lZ,kinds],.of (.str b)⟩
 |exc _ _=>exact absurd rfl n
 |dcf _ _ _ _=>exact absurd rfl n
 |adr _=>exact absurd rfl n
 |tup hq _=>exact ⟨by simp [lZ,kinds],.tup hq.sq⟩
 |lst hq _=>exact ⟨by simp [lZ,kinds],.lst hq.sq⟩
 |dct _ e _ _ _=>exact ⟨by simp [lZ,kinds],.of (.dK e)⟩
 |dcu _ e _ _ _=>exact ⟨by simp [lZ,kinds],.of (.dT e)⟩
noncomputable def xm (T:String)(f:Me->Res D):Me->Res D:=λm=>(f m).bind λd=>if lZ d = "" then .stuck else .ok (.bl (O7 (lZ d) T))
theorem sV {x y:Str}{py:Pos}{T:String}(ha:FB X E a fa)(hg:Gl X "isinstance")(hm:X.mg "isinstance" = none)(hv:bootBuiltins "isinstance" = some (.builtin "isinstance"))(hgy:Gl X y)(hmy:X.mg y=none)(hvy:bootBuiltins y=some (.type T))(hT:T∈kinds:=by decide)
  (hny:y≠"__name__":=by decide) (hdy:(y == ("__debug__" : Str))=false:=by decide)
  (he:starEach [a,.Name y py] X.env=(false,eval a X.env)::starEach [.Name y py] X.env:=by rfl) (he2:starEach [.Name y py] X.env=(false,eval (.Name y py) X.env)::starEach [] X.env:=by rfl) (hpl:(backTo pos (starEach [.Name y py] X.env)).any (·.1)=false:=by rfl):
  FE X E (.Call (.Name "isinstance" p) [a,.Name y py] [] pos) (xm T fa):=
 bJ (Ip PQ hg hm hv (jQ ha (jQ (W4 (v:=.ty T) hgy hmy hvy rfl hny hdy) rA he2) he) (by decide) (by decide) he hpl) λσ H Q hE=>xq5 hE λO0 M0 H0 ow m R q=>⟨O0,M0,H0,ow,m,R,q.bind.imp (aL.refl _) λd q v H' g hv=>by
  by_cases n:lZ d = ""
  ·rw [if_pos n] at q; exact q.elim
  ·rw [if_neg n] at q
   obtain ⟨k1,k2⟩:=SJ hv n
   exact ⟨v,.ty T,_,_,_,rfl,rfl,k2,W0 _ k1 T hT,q _ _ g (.bl _)⟩⟩
end
open PySem PySem.Spec PyProof.Rows L2 Hd
section
variable {G:Gx}{O0 M0:Addr->Prop}{H0 H H':Hp}{ow:Os}{σ:L2.St}{m:Me}
theorem du.chg {i:Nat}{a:Addr}{d d':D}{s':Sl}(R:du G O0 M0 H0 ow σ H m)(ho:ow i=some a)(g:Kp (· = a) H H')(h:OV G (Ow O0 ow) H' a d')
  (hs:(m[i]? = some (.ow d)/\s'=.ow d')\/(m[i]? = some (.io d)/\s'=.io d')):du G O0 M0 H0 ow σ H' (m.set i s'):=by
 have oa:Ow O0 ow a:=.inr ⟨i,ho⟩
 have kp:Kp (Ow O0 ow) H H':=λb u e n=>g b u e λz=>n (z ▸ oa)
 have hi:i<m.length:=by rcases hs with ⟨e,_⟩ | ⟨e,_⟩ <;> exact tD e
 have ne:∀b o,H b=some o->b≠a->H' b=H b:=λb o e n=>by rw [e]; exact g b o e n
 refine ⟨⟨by simp [R.len],λb u e n=>?_,λb z=>?_,λb z=>?_,R.no0,R.inj,λj hj=>R.out j (by simpa using hj),λj s e=>?_⟩,Ah R.nb λ_ z=>by rcases hs with ⟨_,w⟩ | ⟨_,w⟩ <;> (rw [w] at z; cases z)⟩
 ·refine g b u (R.keep b u e n) λz=>?_
  subst z
  rcases hs with ⟨q,_⟩ | ⟨q,_⟩
  ·obtain ⟨a',e1,e2,_⟩:=R.slot i _ q
   rw [ho] at e1; cases e1
   rw [e2] at e; cases e
  ·obtain ⟨a',e1,e2,_⟩:=R.slot i _ q
   rw [ho] at e1; cases e1
   exact n e2
 ·by_cases q:b=a
  ·rw [q]
   have:=h.mut
   intro w
   rw [w] at this
   rcases this with ⟨_,e⟩ | ⟨_,e⟩ | ⟨_,e⟩ <;> cases e
  ·cases w:H b with
   |none=>exact absurd w (R.m0 b z)
   |some o=>rw [g b o w q]; simp
 ·by_cases q:b=a
  ·rw [q]; exact h.mut
  ·have:=R.mutk b z
   rcases this with ⟨_,e⟩ | ⟨_,e⟩ | ⟨_,e⟩
   ·rw [ne b _ e q]; exact .inl ⟨_,e⟩
   ·rw [ne b _ e q]; exact .inr (.inl ⟨_,e⟩)
   ·rw [ne b _ e q]; exact .inr (.inr ⟨_,e⟩)
 ·by_cases q:j=i
  ·subst q
   rw [List.getElem?_set_self hi] at e
   cases e
   rcases hs with ⟨q,rfl⟩ | ⟨q,rfl⟩
   ·obtain ⟨a',e1,e2,e3,_⟩:=R.slot j _ q
    rw [ho] at e1; cases e1
    exact ⟨a,ho,e2,e3,h⟩
   ·obtain ⟨a',e1,e2,e3,_⟩:=R.slot j _ q
    rw [ho] at e1; cases e1
    exact ⟨a,ho,e2,e3,h⟩
  ·rw [List.getElem?_set_ne (Ne.symm q)] at e
   have z:=R.slot j s e
   have other:∀{b:Addr} {d:D},ow j=some b->OV G (Ow O0 ow) H b d->OV G (Ow O0 ow) H' b d:=λ{b d} e1 h1=>by
    have nb:b≠a:=λw=>q (R.inj j i b e1 (w ▸ ho))
    rcases h1.mut with ⟨_,e⟩ | ⟨_,e⟩ | ⟨_,e⟩ <;> exact h1.kp R.mutk kp (ne b _ e nb)
   cases s with
   |un=>exact z
   |fz d=>obtain ⟨b,x,e,q⟩:=z; exact ⟨b,x,e,q.kp R.mutk kp⟩
   |ow d=>obtain ⟨b,x,e,f,q'⟩:=z; exact ⟨b,x,e,f,other x q'⟩
   |io d=>obtain ⟨b,x,e,f,q'⟩:=z; exact ⟨b,x,e,f,other x q'⟩
   |bw d=>exact (R.nb j d e).elim
   |hd w b d=>obtain ⟨x,e,f,q'⟩:=z; exact ⟨x,e,f,other x q'⟩
theorem Go.chg {i:Nat}{a:Addr}{d:D}(ho:ow i=some a)(g:Kp (· = a) H H')(h:OV G (Ow O0 ow) H' a d):Go O0 ow H ow H':=
 ⟨λb u e n=>g b u e λz=>n (z ▸ .inr ⟨i,ho⟩),λj b e=>.inl (.inr ⟨j,e⟩),λb n=>by
  by_cases q:b=a
  ·rw [q]
   have:=h.mut
   intro w
   rw [w] at this
   rcases this with ⟨_,e⟩ | ⟨_,e⟩ | ⟨_,e⟩ <;> cases e
  ·cases w:H b with
   |none=>exact absurd w n
   |some o=>rw [g b o w q]; simp⟩
theorem o6 {a:Addr}{o:HO}:Kp (· = a) H (L2.upd H a o):=λb u e n=>by rw [L2.cO n]; exact e
noncomputable def pU (m:Me)(i:Nat):Option (Bool×List D):=match m[i]? with
 |some (.ow (.lst ds))=>some (true,ds)
 |some (.io (.lst ds))=>some (false,ds)
 |_=>none
noncomputable def putL (m:Me)(i:Nat)(k:Bool)(ds:List D):Me:=m.set i (if k then .ow (.lst ds) else .io (.lst ds))
theorem qz (R:Rel G O0 M0 H0 ow σ H m){i:Nat}{k:Bool}{ds:List D}(e:pU m i=some (k,ds)):∃a xs,ow i=some a/\σ[i]? = some (some (.ref a))/\H a=some (.lst xs)/\DVs G (Ow O0 ow) H xs ds/\((m[i]? = some (.ow (.lst ds))/\k=true)\/(m[i]? = some (.io (.lst ds))/\k=false)):=by
 unfold pU at e
 split at e
 ·rename_i q
  cases e
  obtain ⟨a,e1,e2,e3,xs,e4,e5⟩:=R.slot i _ q
  exact ⟨a,xs,e1,e3,e4,e5,.inl ⟨q,rfl⟩⟩
 ·rename_i q
  cases e
  obtain ⟨a,e1,e2,e3,xs,e4,e5⟩:=R.slot i _ q
  exact ⟨a,xs,e1,e3,e4,e5,.inr ⟨q,rfl⟩⟩
 ·cases e
theorem du.put {i:Nat}{k:Bool}{a:Addr}{ds es:List D}{ys:List V}(R:du G O0 M0 H0 ow σ H m)(ho:ow i=some a)(hm:(m[i]? = some (.ow (.lst ds))/\k=true)\/(m[i]? = some (.io (.lst ds))/\k=false))(hd:DVs G (Ow O0 ow) H ys es):
  du G O0 M0 H0 ow σ (L2.upd H a (.lst ys)) (putL m i k es)/\Go O0 ow H ow (L2.upd H a (.lst ys)):=by
 have oa:Ow O0 ow a:=.inr ⟨i,ho⟩
 have kp:Kp (Ow O0 ow) H (L2.upd H a (.lst ys)):=λb u e n=>o6 b u e λz=>n (z ▸ oa)
 have ov:OV G (Ow O0 ow) (L2.upd H a (.lst ys)) a (.lst es):=⟨ys,L2.bA,hd.kp R.mutk kp⟩
 refine ⟨R.chg (d:=.lst ds) (d':=.lst es) ho o6 ov ?_,Go.chg ho o6 ov⟩
 rcases hm with ⟨e,rfl⟩ | ⟨e,rfl⟩
 ·exact .inl ⟨e,rfl⟩
 ·exact .inr ⟨e,rfl⟩
end
section
variable {X:Cx}{E:XK}{e:Expr}{es:List Expr}{f:Me->Res D}{fs:Me->Res (List D)}{pos apos cpos np:Pos}{i j:Nat}{x y:Str}
noncomputable def iQ (i:Nat)(f:Me->Res D):Me->Res (Fl×Me):=λm=>(ofO (pU m i)).bind λo=>(f m).bind λd=>if o.2.length<sizeLine then .ok (.nx,putL m i o.1 (o.2++[d])) else .stuck
theorem oU (i:Nat)(he:FE X E e f)(hN:X.N[i]? = some x:=by rfl)(hv:Vis X.env.scope x:=by first | exact Or.inl rfl | exact Or.inr (Or.inl rfl) | exact Or.inr (Or.inr rfl))(hd:(x == ("__debug__" : Str))=false:=by decide)(hcd:(x == ("__classdict__" : Str))=false:=by decide)
  (hbase:attributeBase (.Name x np) "append" X.env (eval (.Name x np) X.env)=eval (.Name x np) X.env:=by rfl)
  (hfew:((backTo cpos (starEach [e] X.env)).all (λx=>!x.1) && (backToKw cpos (keywordEach [] X.env)).all (λx=>x.1.isSome) && decide ([e].length+([]:List Keyword).length+(if ([]:List Keyword).isEmpty then 0 else 1)<30))=true:=by rfl)
  (hline:(apos.endLine == cpos.line)=true:=by rfl) (hs:starEach [e] X.env=(false,eval e X.env)::starEach [] X.env:=by rfl) (hplain:(backTo cpos (starEach [] X.env)).any (·.1)=false:=by rfl)
  (hsw:swapsWith (.Call (.Attribute (.Name x np) "append" apos) [e] [] cpos) none pos.line X.env=pure false:=by rfl):
  FS X E (.Expr (.Call (.Attribute (.Name x np) "append" apos) [e] [] cpos) pos) (iQ i f):=
 cM (vW (Hv PySem.F.plainAttrs_list PySem.F.slot_list_append PySem.F.type_list_append wX (jC hN hv hd hcd) (jQ he rA hs) hbase hfew hline hs hplain) hsw) λW σ H hE=>xq5 hE λO0 M0 H0 ow m R q=>by
  obtain ⟨o,ho,q⟩:=Ss.ofO q
  obtain ⟨k,ds⟩:=o
  obtain ⟨a,xs,e1,e2,e3,e4,e5⟩:=qz R.toRel ho
  refine ⟨_,e2,.inl ⟨rfl,xs,SqL.of e3⟩,O0,M0,H0,ow,m,R.toRel,(Ss.pu R.toRel q).imp (aL.refl _) λd q v H1 g1 hv=>?_⟩
  have R1:=R.mono g1
  by_cases hz:ds.length<sizeLine
  ·rw [if_pos hz] at q
   obtain ⟨R2,g2⟩:=R1.put (es:=ds++[d]) (ys:=xs++[v]) e1 e5 (jR (e4.mono g1) (.cons hv .nil))
   exact ⟨a,xs,v,rfl,rfl,g1 _ _ e3,by rw [bU e4]; exact hz,q _ _ _ R2 ((Go.refl g1).trans g2)⟩
  ·rw [if_neg hz] at q; exact q.elim
noncomputable def Gb (i:Nat)(f:Me->Res D):Me->Res (Fl×Me):=λm=>(ofO (pU m i)).bind λo=>(f m).bind λd=>match d with
 | .lst es=>if o.2.length+es.length<=sizeLine then .ok (.nx,putL m i o.1 (o.2++es)) else .stuck
 |_=>.stuck
theorem Ot (i:Nat)(he:FN X E e f)(hN:X.N[i]? = some x:=by rfl)(hv:Vis X.env.scope x:=by first | exact Or.inl rfl | exact Or.inr (Or.inl rfl) | exact Or.inr (Or.inr rfl))(hd:(x == ("__debug__" : Str))=false:=by decide)(hcd:(x == ("__classdict__" : Str))=false:=by decide)
  (hbase:attributeBase (.Name x np) "extend" X.env (eval (.Name x np) X.env)=eval (.Name x np) X.env:=by rfl)
  (hfew:((backTo cpos (starEach [e] X.env)).all (λx=>!x.1) && (backToKw cpos (keywordEach [] X.env)).all (λx=>x.1.isSome) && decide ([e].length+([]:List Keyword).length+(if ([]:List Keyword).isEmpty then 0 else 1)<30))=true:=by rfl)
  (hline:(apos.endLine == cpos.line)=true:=by rfl) (hs:starEach [e] X.env=(false,eval e X.env)::starEach [] X.env:=by rfl) (hplain:(backTo cpos (starEach [] X.env)).any (·.1)=false:=by rfl)
  (hsw:swapsWith (.Call (.Attribute (.Name x np) "extend" apos) [e] [] cpos) none pos.line X.env=pure false:=by rfl):
  FS X E (.Expr (.Call (.Attribute (.Name x np) "extend" apos) [e] [] cpos) pos) (Gb i f):=
 cM (vW (Hv PySem.F.plainAttrs_list PySem.F.slot_list_extend PySem.F.type_list_extend Py (jC hN hv hd hcd) (jQ he rA hs) hbase hfew hline hs hplain) hsw) λW σ H hE=>xq5 hE λO0 M0 H0 ow m R q=>by
  obtain ⟨o,ho,q⟩:=Ss.ofO q
  obtain ⟨k,ds⟩:=o
  obtain ⟨a,xs,e1,e2,e3,e4,e5⟩:=qz R.toRel ho
  refine ⟨_,e2,.inl ⟨rfl,xs,SqL.of e3⟩,O0,M0,H0,ow,m,R.toRel,(Ss.pu R.toRel q).imp (aL.refl _) λd q p H1 g1 n hv=>?_⟩
  have R1:=R.mono g1
  cases d with
  |lst es=>
   have q:Ss (gx X) E O0 M0 H0 ow H W (if ds.length+es.length<=sizeLine then .ok (.nx,putL m i k (ds++es)) else .stuck):=q
   obtain ⟨zs,h1,h2⟩:=hv
   by_cases hz:ds.length+es.length<=sizeLine
   ·rw [if_pos hz] at q
    have h2':DVs (gx X) (Ow O0 ow) H1 zs es:=h2.cu λb z=>.inl (.inl z)
    obtain ⟨R2,g2⟩:=R1.put (es:=ds++es) (ys:=xs++zs) e1 e5 (jR (e4.mono g1) h2')
    exact ⟨a,p,xs,zs,rfl,rfl,g1 _ _ e3,h1,by rw [bU e4,bU h2]; exact hz,q _ _ _ R2 ((Go.refl g1).trans g2)⟩
   ·rw [if_neg hz] at q; exact q.elim
  |_=>exact q.elim
noncomputable def Ek (j i:Nat):Me->Res (Fl×Me):=λm=>(ofO (pU m i)).bind λo=>(ofO (o.2[o.2.length - 1]?)).bind λd=>.ok (.nx,(putL m i o.1 o.2.dropLast).set j (.fz d))
theorem DK {G:Gx}{O:Addr->Prop}{H:Hp}{xs:List V}{ds:List D}(h:DVs G O H xs ds):DVs G O H xs.dropLast ds.dropLast:=by
 rw [List.dropLast_eq_take,List.dropLast_eq_take,bU h]
 exact Az _ h
theorem Qd (j i:Nat)(hnd:X.N.Nodup)(hj:X.N[j]? = some y)(hy:Loc X.env.scope y)(hN:X.N[i]? = some x:=by rfl)(hv:Vis X.env.scope x:=by first | exact Or.inl rfl | exact Or.inr (Or.inl rfl) | exact Or.inr (Or.inr rfl))(hd:(x == ("__debug__" : Str))=false:=by decide)(hcd:(x == ("__classdict__" : Str))=false:=by decide)
  (hbase:attributeBase (.Name x np) "pop" X.env (eval (.Name x np) X.env)=eval (.Name x np) X.env:=by rfl) (hline:(apos.endLine == cpos.line)=true:=by rfl) {yp:Pos}
  (hsw:swapsWith (.Call (.Attribute (.Name x np) "pop" apos) [] [] cpos) (some (.Name y yp)) pos.line X.env=pure false:=by rfl) (hf:X.fn y=true\/X.env.scope.names.lookup y=some .local:=by first | exact .inl rfl | exact .inr rfl | assumption):
  FS X E (.Assign [.Name y yp] (.Call (.Attribute (.Name x np) "pop" apos) [] [] cpos) pos) (Ek j i):=
 cM (zM hnd hj hy (TJ PySem.F.plainAttrs_list PySem.F.slot_list_pop PySem.F.type_list_pop Ze (jC hN hv hd hcd) hbase hline) hsw hf) λW σ H hE=>xq5 hE λO0 M0 H0 ow m R q=>by
  obtain ⟨o,ho,q⟩:=Ss.ofO q
  obtain ⟨k,ds⟩:=o
  obtain ⟨d,hd',q⟩:=Ss.ofO q
  obtain ⟨a,xs,e1,e2,e3,e4,e5⟩:=qz R.toRel ho
  obtain ⟨v,hv,dv⟩:=uI e4 hd'
  obtain ⟨R2,g2⟩:=R.put (es:=ds.dropLast) (ys:=xs.dropLast) e1 e5 (DK e4)
  have dv2:=dv.go R.mutk g2.ev
  exact ⟨_,e2,.inl ⟨rfl,xs,SqL.of e3⟩,a,xs,v,rfl,rfl,e3,by rw [bU e4]; exact hv,q _ _ _ (R2.set dv2) (g2.trans Go.set)⟩
noncomputable def FJ (i:Nat)(fk fv:Me->Res D):Me->Res (Fl×Me):=λm=>(fv m).bind λd=>(ofO (pU m i)).bind λo=>(fk m).bind λk=>match k with
 | .int n=>(ofO (ixN o.2.length n)).bind λj=>.ok (.nx,putL m i o.1 (o.2.set j d))
 |_=>.stuck
end
open PySem PySem.Spec PyProof.Rows L2 Hd
noncomputable def Xs (G:Gx)(E:XK){α:Type}(O0 M0:Addr->Prop)(H0:Hp)(ow:Os)(σ:L2.St)(H:Hp)(r:Res (α×Me))(k:α->Hp->Prop):Prop:=match r with
 | .ok (a,m')=>∀H',du G O0 M0 H0 ow σ H' m'->Go O0 ow H ow H'->k a H'
 | .exc c=>∀C H',G.mg c=some (.ref C)->Kp M0 H0 H'->E (.ref C) none H'
 | .stuck=>False
noncomputable def tX (G:Gx)(E:XK)(f:Me->Res (D×Me)):TE:=λσ H Q=>∃O0 M0 H0 ow m,du G O0 M0 H0 ow σ H m/\Xs G E O0 M0 H0 ow σ H (f m) λd H'=>∀v,DV G (Ow O0 ow) H' v d->Q v H'
noncomputable def tXA (G:Gx)(E:XK)(f:Me->Res (List D×Me)):TA:=λσ H Q=>∃O0 M0 H0 ow m,du G O0 M0 H0 ow σ H m/\Xs G E O0 M0 H0 ow σ H (f m) λds H'=>∀vs,DVs G (Ow O0 ow) H' vs ds->Q vs H'
noncomputable abbrev FX (X:Cx)(E:XK)(e:Expr)(f:Me->Res (D×Me)):Prop:=PE X e (tX (gx X) E f)
noncomputable abbrev FXA (X:Cx)(E:XK)(es:List Expr)(f:Me->Res (List D×Me)):Prop:=PA X es (tXA (gx X) E f)
section
variable {G:Gx}{E:XK}{O0 M0:Addr->Prop}{H0 H H1:Hp}{ow:Os}{σ:L2.St}{m:Me}
theorem Xs.imp {α:Type}{r:Res (α×Me)}{k k':α->Hp->Prop}(h:Xs G E O0 M0 H0 ow σ H r k)(g:Go O0 ow H ow H1)(hk:∀a H' m',du G O0 M0 H0 ow σ H' m'->Go O0 ow H1 ow H'->r=.ok (a,m')->k a H'->k' a H'):Xs G E O0 M0 H0 ow σ H1 r k':=by
 cases r with
 |ok a=>obtain ⟨a,m'⟩:=a; exact λH' R g'=>hk a H' m' R g' rfl (h H' R (g.trans g'))
 |exc c=>exact h
 |stuck=>exact h
theorem Xs.bind {α β:Type}{r:Res (α×Me)}{f:α->Me->Res (β×Me)}{k:β->Hp->Prop}(h:Xs G E O0 M0 H0 ow σ H (r.bind λp=>f p.1 p.2) k):
  Xs G E O0 M0 H0 ow σ H r λa H'=>∀m',r=.ok (a,m')->du G O0 M0 H0 ow σ H' m'->Xs G E O0 M0 H0 ow σ H' (f a m') k:=by
 cases r with
 |ok a=>
  obtain ⟨a,m1⟩:=a
  intro H' R g m' e R'
  cases e
  have h:Xs G E O0 M0 H0 ow σ H (f a m1) k:=h
  cases z:f a m1 with
  |ok b=>obtain ⟨b,m2⟩:=b; rw [z] at h; exact λH2 R2 g2=>h H2 R2 (g.trans g2)
  |exc c=>rw [z] at h; exact h
  |stuck=>rw [z] at h; exact h
 |exc c=>exact h
 |stuck=>exact h
theorem Xs.pu {α β:Type}{r:Res α}{f:α->Res (β×Me)}{k:β->Hp->Prop}(R:Rel G O0 M0 H0 ow σ H m)(h:Xs G E O0 M0 H0 ow σ H (r.bind f) k):Pu G E r H λa=>Xs G E O0 M0 H0 ow σ H (f a) k:=by
 cases r with
 |ok a=>exact h
 |exc c=>exact λC H' e g=>h C H' e λb o e n=>g b o (R.keep b o e n)
 |stuck=>exact h
end
noncomputable def fX (f:Me->Res D):Me->Res (D×Me):=λm=>(f m).bind λd=>.ok (d,m)
noncomputable def Cr:Me->Res (List D×Me):=λm=>.ok ([],m)
noncomputable def sX (fa:Me->Res (D×Me))(fs:Me->Res (List D×Me)):Me->Res (List D×Me):=λm=>(fa m).bind λp=>(fs p.2).bind λq=>.ok (p.1::q.1,q.2)
noncomputable def CP (fs:Me->Res (List D×Me)):Me->Res (D×Me):=λm=>(fs m).bind λq=>if q.1.length<=sizeLine then .ok (.tup q.1,q.2) else .stuck
section
variable {X:Cx}{E:XK}{e:Expr}{es:List Expr}{f:Me->Res D}{fa:Me->Res (D×Me)}{fs:Me->Res (List D×Me)}{pos:Pos}{i:Nat}{x:Str}
theorem X5 (h:FE X E e f):FX X E e (fX f):=bJ h λσ H Q hE=>xq5 hE λO0 M0 H0 ow m R q=>⟨O0,M0,H0,ow,m,R.toRel,(Xs.pu R.toRel q).imp (aL.refl _) λd q v H' g hv=>q H' (R.mono g) (Go.refl g) v hv⟩
theorem Lg:FXA X E [] Cr:=pJ rA λσ H Q hE=>xq5 hE λO0 M0 H0 ow m R q=>q H R (Go.refl (aL.refl _)) [] .nil
theorem vM (ha:FX X E e fa)(hr:FXA X E es fs)(hs:starEach (e::es) X.env=(false,eval e X.env)::starEach es X.env:=by rfl):FXA X E (e::es) (sX fa fs):=
 pJ (jQ ha hr hs) λσ H Q hE=>xq5 hE λO0 M0 H0 ow m R q=>⟨O0,M0,H0,ow,m,R,(Xs.bind (f:=λd m1=>(fs m1).bind λq=>.ok (d::q.1,q.2)) q).imp (Go.refl (aL.refl _)) λd H1 m1 R1 g1 e1 q v hv=>⟨O0,M0,H0,ow,m1,R1,?_⟩⟩
where finally
 refine (Xs.bind (f:=λds m2=>.ok (d::ds,m2)) (q m1 e1 R1)).imp (Go.refl (aL.refl _)) λds H2 m2 R2 g2 e2 q vs hvs=>?_
 exact q m2 e2 R2 H2 R2 (Go.refl (aL.refl _)) (v::vs) (.cons (hv.go R1.mutk g2.ev) hvs)
theorem Uh {x1}(h:FXA X E es fs):FX X E (.Tuple es x1 pos) (CP fs):=bJ (N7 h) λσ H Q hE=>xq5 hE λO0 M0 H0 ow m R q=>by
 refine ⟨O0,M0,H0,ow,m,R,(Xs.bind (f:=λds m'=>if ds.length<=sizeLine then .ok (D.tup ds,m') else .stuck) q).imp (Go.refl (aL.refl _)) λds H1 m1 R1 g1 e1 q vs hv=>?_⟩
 have q:=q m1 e1 R1
 by_cases hz:ds.length<=sizeLine
 ·rw [if_pos hz] at q
  exact ⟨by rw [bU hv]; exact hz,λp H' g e=>q H' (R1.mono g) (Go.refl g) _ (.tup (SqU.of e) (hv.mono g))⟩
 ·rw [if_neg hz] at q; exact q.elim
noncomputable def zx (i:Nat)(f:Me->Res (D×Me)):Me->Res (Fl×Me):=λm=>(f m).bind λp=>.ok (.nx,p.2.set i (.fz p.1))
theorem Xs.ss {G:Gx}{O0 M0:Addr->Prop}{H0 H:Hp}{ow:Os}{σ:L2.St}{W:Ends}{r:Res (D×Me)}{k:D->Me->Res (Fl×Me)}(h:Ss G E O0 M0 H0 ow H W (r.bind λp=>k p.1 p.2)):
  Xs G E O0 M0 H0 ow σ H r λd H'=>∀m',r=.ok (d,m')->du G O0 M0 H0 ow σ H' m'->Ss G E O0 M0 H0 ow H' W (k d m'):=by
 cases r with
 |ok a=>
  obtain ⟨d,m1⟩:=a
  intro H' R g m' e R'
  cases e
  exact Ss.go h g
 |exc c=>exact h
 |stuck=>exact h
theorem K5 {pos':Pos}(hN:X.N.Nodup)(hi:X.N[i]? = some x)(hx:Loc X.env.scope x)(he:FX X E e fa)(hs:swapsWith e (some (.Name x pos')) pos.line X.env=pure false:=by rfl)
  (hf:X.fn x=true\/X.env.scope.names.lookup x=some .local:=by first | exact .inl rfl | exact .inr rfl | assumption):FS X E (.Assign [.Name x pos'] e pos) (zx i fa):=cM (zM hN hi hx he hs hf) λW σ H hE=>xq5 hE λO0 M0 H0 ow m R q=>by
 refine ⟨O0,M0,H0,ow,m,R,(Xs.ss (k:=λd m'=>.ok (.nx,m'.set i (.fz d))) q).imp (Go.refl (aL.refl _)) λd H1 m1 R1 g1 e1 q v hv=>?_⟩
 exact q m1 e1 R1 _ _ _ (R1.set hv) Go.set
end
section
variable {P:Program}{w:World}{K:W.Frag}{mg:Str->Option Value}{base:Heap}
end
open PySem PySem.Spec PyProof.Rows L2 Hd
noncomputable def Sl.cap:Sl->Sl
 | .ow d=>.io d
 | .hd _ a d=>.hd false a d
 |s=>s
section
variable {G:Gx}{O0 M0:Addr->Prop}{H0 H H':Hp}{ow:Os}{σ:L2.St}{m:Me}
end
section
variable {G:Gx}{O0 M0:Addr->Prop}{H0 H H':Hp}{ow:Os}{σ:L2.St}{m:Me}{k:Nat}{cap:List Nat}
end
open PySem PySem.Spec PyProof.Rows L2 Hd
section
variable {X:Cx}{E:XK}{k:Nat}{cap:List Nat}{fi:Me->Res (List D)}{h:D->Me->Option Me}{fe:Me->Res (D×Me)}
theorem Qw {O0:Addr->Prop}{ow:Os}{l b:Addr}(z:Ow (Op O0 l) ow b):Ow O0 ow b\/b=l:=z.elim (λy=>y.elim (λw=>.inl (.inl w)) .inr) λy=>.inl (.inr y)
end
noncomputable def tM (G:Gx)(E:XK)(f:Me->Res Unit):TE:=λσ H Q=>∃O0 M0 H0 ow m,Rel G O0 M0 H0 ow σ H m/\Pu G E (f m) H λ_=>∀v H',aL H H'->Q v H'
noncomputable abbrev FM (X:Cx)(E:XK)(e:Expr)(f:Me->Res Unit):Prop:=PE X e (tM (gx X) E f)
section
variable {X:Cx}{E:XK}{e:Expr}{f:Me->Res D}{fu:Me->Res Unit}{x:Str}{np cpos pos:Pos}{C:Addr}{bmB:List Value}{B newId initId:String}
end
section
variable {X:Cx}{j k:Nat}{x y:Str}{ps:List Str}{Φ:List D->Res (Bool×D)}{p pos cpos pos':Pos}{e:Expr}{es:List Expr}{fs:Me->Res (List D)}{i:Nat}
end
theorem Rel.more {G:Gx}{O0 M0:Addr->Prop}{H0 H H1:Hp}{ow:Os}{σ:L2.St}{m:Me}{l:Addr}(R:Rel G O0 M0 H0 ow σ H m)(g:aL H H1)(hl:H l=none)(ho:gY (H1 l)):Rel G (Op O0 l) M0 H0 ow σ H1 m:=by
 have nl:=R.Ib hl
 have sub':∀b,Ow (Op O0 l) ow b->Ow O0 ow b\/H b=none:=λb z=>(Qw z).elim .inl λe=>.inr (by rw [e]; exact hl)
 have R':=R.mono g
 refine ⟨R.len,R'.keep,R'.m0,λb z=>?_,λi a e z=>?_,R.inj,R.out,λi s e=>?_⟩
 ·rcases Qw z with z | z
  ·exact R'.mutk b z
  ·rw [z]; exact ho
 ·rcases z with z | z
  ·exact R.no0 i a e z
  ·exact nl (z ▸ .inr ⟨i,e⟩)
 ·exact ((R.slot i s e).cu sub' λ_ _ b _=>Classical.em _).mono g
open PySem PySem.Spec PyProof.Rows L2 Hd
section
variable {X:Cx}
noncomputable def EY:List D->Option (List Str)
 |[]=>some []
 | .str x::ds=>(EY ds).map (x::·)
 |_::_=>none
theorem Lf {G:Gx}{O:Addr->Prop}{H:Hp}:∀{vs:List V} {ds:List D} {zs:List Str},DVs G O H vs ds->EY ds=some zs->vs=zs.map V.str
 |_,_,_,.nil,e=>by cases e; rfl
 |_,_,_,.cons (d:=d) h hs,e=>by
  cases d with
  |str i=>
   obtain ⟨ns,e1,rfl⟩:=omap (by simpa [EY] using e)
   cases h
   rw [Lf hs e1]
   rfl
  |_=>cases e
noncomputable def HY:D->List D->Option D
 | .str z,[.lst es]=>match EY es with
  |some zs=>if JoinOk z zs=true then some (.str (Txt.join z zs)) else none
  |none=>none
 |_,_=>none
theorem Tj:MtR X "str.join" (rGM (gx X) HY):=by
 intro pins s σ H x vs v us Q I rx rv h
 obtain ⟨O,d,ds,r,m,hx,hy,hr,q⟩:=h
 match d,ds,hr with
 | .str z,[.lst es],hr=>
  cases jA hx
  obtain ⟨y,rfl,hy2⟩:=v8 hy
  obtain ⟨p,xs,rfl,hp,hd⟩:=jB hy2
  have hr:(match EY es with | some zs=>if JoinOk z zs=true then some (D.str (Txt.join z zs)) else none | none=>none)=some r:=hr
  cases e1:EY es with
  |none=>rw [e1] at hr; cases hr
  |some zs=>
   rw [e1] at hr
   obtain ⟨ok,rfl⟩:=oif hr
   have:=Lf hd e1
   subst this
   exact Vy X.K rfl pins s σ H _ _ v us Q I rx rv ⟨z,p,zs,rfl,rfl,hp,ok,q _ _ (aL.refl _) (.str _)⟩
end
noncomputable def LQ (K:W.Frag):Sp:=λvs H Q _=>∃(a:Addr) (ns:List Int),vs=[.ref a]/\SqL K H a (ns.map V.int)/\ns.length<=63/\∀H',Q (.bl true) H'
theorem Im {G:Gx}{O:Addr->Prop}{H:Hp}:∀ns:List Int,DVs G O H (ns.map V.int) (ns.map D.int)
 |[]=>.nil
 |n::ns=>.cons (.int n) (Im ns)
theorem Wd {P:Program}{w:World}{K:W.Frag}{mg:Str->Option Value}{base:Heap}{CX:CXT}{k:Nat}{f:Addr}{fd:FuncData}{ps:List Str}{Φ:List D->Res (Bool×D)}(h:∀ns:List Int,ns.length<=63->∃fr,Φ [.lst (ns.map D.int)]=.ok (fr,.bl true))
  (F:cL P w K mg base CX k f fd ps (spF ⟨K,mg⟩ Φ)):cL P w K mg base CX k f fd ps (LQ K):=F.imp λvs H Q E ⟨a,ns,e,hS,hl,q⟩=>by
 subst e
 obtain ⟨fr,e⟩:=h ns hl
 refine ⟨λ_=>False,[.lst (ns.map D.int)],λ_ z=>z.elim,.cons (.lst (hS.elim (λz=>.inl ⟨id,z⟩) .inr) (Im ns)) .nil,?_⟩
 rw [e]
 intro v H' _ hv _
 cases hv
 exact q H'
open PySem PySem.Spec PyProof.Rows L2 Hd
section
variable {X:Cx}{E:XK}{e a:Expr}{f fa:Me->Res D}{fu:Me->Res Unit}{x y:Str}{np cpos pos p py:Pos}{i:Nat}
end
section
variable {X:Cx}
noncomputable def vOf:D->V
 | .bl b=>.bl b
 | .int i=>.int i
 | .str x=>.str x
 |_=>.non
theorem SM {G:Gx}{O:Addr->Prop}{H:Hp}{v:V}{d:D}(f:flat d=true)(h:DW G O H v d):v=vOf d:=by
 cases d with
 |non=>exact zu h
 |bl b=>exact Hz h
 |int i=>exact cG h
 |str x=>exact jA h
 |_=>cases f
theorem HW {d:D}(f:flat d=true):uy (vOf d)=true:=by cases d <;> first | rfl | cases f
theorem Ms {G:Gx}{O:Addr->Prop}{H:Hp}:∀{vs:List V} {ds:List D},DVs G O H vs ds->ds.all flat=true->vs=ds.map vOf
 |_,_,.nil,_=>rfl
 |_,_,.cons (d:=d) (ds:=ds) h hs,f=>by
  have f':flat d=true/\ds.all flat=true:=by simpa using f
  rw [SM f'.1 (.inl h),Ms hs f'.2]
  rfl
noncomputable def inD (x:D)(ds:List D):Option Bool:=if flat x=true/\ds.all flat=true then some (inV (vOf x) (ds.map vOf)) else none
noncomputable def gIn:D->D->Option Bool
 | .str i,.str j=>some (!(Builtin.Str.occurrences j i 0 j.length 1).isEmpty)
 |x,.lst ds=>inD x ds
 |x,.tup ds=>inD x ds
 |_,_=>none
noncomputable def Ob (d e:D):Option Bool:=(gIn d e).map (!·)
theorem Um (ds:List D):ds.all flat=true->(ds.map vOf).all uy=true:=by
 induction ds with
 |nil=>intro; rfl
 |cons d ds ih=>
  intro h
  have h':flat d=true/\ds.all flat=true:=by simpa using h
  rw [List.map_cons,List.all_cons,HW h'.1,ih h'.2]
  rfl
theorem Sq {O:Addr->Prop}{H:Hp}{x y:V}{d:D}{b:Bool}{ds:List D}{neg:Bool}{Q:VK}(hx:DW (gx X) O H x d)(hy:(∃p xs,y=.ref p/\(SqL X.K H p xs\/SqT X.K H p xs)/\DVs (gx X) O H xs ds))(h:inD d ds=some b)(q:Q (.bl (if neg then !b else b)) H):rIn X.K neg x y H Q:=by
 obtain ⟨p,xs,rfl,hp,hd⟩:=hy
 obtain ⟨⟨f1,f2⟩,rfl⟩:=oif h
 rw [SM f1 hx]
 have:=Ms hd f2
 subst this
 exact ⟨p,_,rfl,hp,HW f1,Um _ f2,q⟩
theorem WN:OpR X (compareOp .NotIn) (rGB (gx X) Ob):=by
 intro pins s σ H x y v u Q I rx ry h
 obtain ⟨O,d,e,r,m,hx,hy,hr,q⟩:=h
 obtain ⟨c,hc,rfl⟩:=omap hr
 unfold gIn at hc
 split at hc
 ·cases hc
  exact Dv pins s σ H x y v u Q I rx ry ⟨_,_,jA hx,jA hy,q⟩
 ·obtain ⟨p,xs,rfl,hp,hd⟩:=jB hy
  exact wD pins s σ H x _ v u Q I rx ry (Sq (neg:=true) hx ⟨p,xs,rfl,.inl hp,hd⟩ hc q)
 ·obtain ⟨p,xs,rfl,hp,hd⟩:=sY hy
  exact wD pins s σ H x _ v u Q I rx ry (Sq (neg:=true) hx ⟨p,xs,rfl,.inr hp,hd⟩ hc q)
 ·cases hc
noncomputable def vm:List D->Option (List Bool)
 |[]=>some []
 | .bl b::ds=>(vm ds).map (b::·)
 |_::_=>none
theorem zp {G:Gx}{O:Addr->Prop}{H:Hp}:∀{vs:List V} {ds:List D} {bs:List Bool},DVs G O H vs ds->vm ds=some bs->vs=bs.map V.bl
 |_,_,_,.nil,e=>by cases e; rfl
 |_,_,_,.cons (d:=d) h hs,e=>by
  cases d with
  |bl b=>
   obtain ⟨bs,e1,rfl⟩:=omap (by simpa [vm] using e)
   cases h
   rw [zp hs e1]
   rfl
  |_=>cases e
noncomputable def VF:List D->Option D
 |[.lst ds]=>(vm ds).map λbs=>.bl (bs.all id)
 |_=>none
noncomputable def Wf:List D->Option D
 |[.lst ds]=>(vm ds).map λbs=>.bl (bs.any id)
 |_=>none
end
open PySem PySem.Spec PyProof.Rows L2 Hd
section
variable {X:Cx}
theorem za:∀{bs:List Bool} {us:List Value},Vals (bs.map V.bl) us->LSm.BoolsAre us bs
 |[],_,.nil=>.nil
 |b::bs,_,.cons r t=>by cases r; exact .cons b (za t)
theorem BV (hc:X.calm=true):kJ X (.builtin "all") (rGC (gx X) VF):=by
 intro pins s σ H xs us Q I r h
 obtain ⟨O,ds,d,m,hx,hr,q⟩:=h
 match ds,hr with
 |[.lst ds],hr=>
  obtain ⟨bs,e1,rfl⟩:=omap hr
  obtain ⟨v,rfl,hv⟩:=v8 hx
  obtain ⟨p,xs,rfl,hp,hd⟩:=jB hv
  have:=zp hd e1
  subst this
  obtain ⟨u,rfl,rx⟩:=vals1 r
  cases rx
  obtain ⟨wa,r',pl,hz⟩:=I.list hp
  have ba:=za r'
  have li:=pl.isList
  have lt1:p<s.heap.objs.size:=by obtain ⟨_,e,_⟩:=li; exact Heap.lt_size e
  refine call_all_walk (wpAny_pyIter_list li ?_)
  refine ⟨s.heap.objs.size,[s.heap.objs.size,p],[s.heap.objs.size],wa.toArray.size,_,_,λi=>(bs[i]?).getD true,rfl,Walks.list (A:=X.A.in1) (I.ok.hd hc) _ p (Nat.ne_of_lt lt1) wa.toArray,
   ⟨⟨_,Heap.get?_push_size _ rfl,rfl,rfl⟩,li.push _⟩,λi v sn Qn En pv qv=>?_,λh' tk kp=>?_⟩
  ·obtain ⟨b,e,rfl⟩:=ba.get i v (by simpa using pv)
   simp only [e,Option.getD_some] at qv
   exact wpAny_truthy_bool qv
  ·have e:((List.range wa.toArray.size).all λi=>(bs[i]?).getD true)=bs.all id:=by
    rw [List.size_toArray,ba.length]; exact LSm.range_all bs
   rw [e]
   exact ⟨.bl _,H,I.kept (LSm.kept_iter kp),rfl,q _ _ (aL.refl _) (.bl _)⟩
theorem Cj (hc:X.calm=true):kJ X (.builtin "any") (rGC (gx X) Wf):=by
 intro pins s σ H xs us Q I r h
 obtain ⟨O,ds,d,m,hx,hr,q⟩:=h
 match ds,hr with
 |[.lst ds],hr=>
  obtain ⟨bs,e1,rfl⟩:=omap hr
  obtain ⟨v,rfl,hv⟩:=v8 hx
  obtain ⟨p,xs,rfl,hp,hd⟩:=jB hv
  have:=zp hd e1
  subst this
  obtain ⟨u,rfl,rx⟩:=vals1 r
  cases rx
  obtain ⟨wa,r',pl,hz⟩:=I.list hp
  have ba:=za r'
  have li:=pl.isList
  have lt1:p<s.heap.objs.size:=by obtain ⟨_,e,_⟩:=li; exact Heap.lt_size e
  refine call_any_walk (wpAny_pyIter_list li ?_)
  refine ⟨s.heap.objs.size,[s.heap.objs.size,p],[s.heap.objs.size],wa.toArray.size,_,_,λi=>(bs[i]?).getD false,rfl,Walks.list (A:=X.A.in1) (I.ok.hd hc) _ p (Nat.ne_of_lt lt1) wa.toArray,
   ⟨⟨_,Heap.get?_push_size _ rfl,rfl,rfl⟩,li.push _⟩,λi v sn Qn En pv qv=>?_,λh' tk kp=>?_⟩
  ·obtain ⟨b,e,rfl⟩:=ba.get i v (by simpa using pv)
   simp only [e,Option.getD_some] at qv
   exact wpAny_truthy_bool qv
  ·have e:((List.range wa.toArray.size).any λi=>(bs[i]?).getD false)=bs.any id:=by
    rw [List.size_toArray,ba.length]; exact LSm.range_any bs
   rw [e]
   exact ⟨.bl _,H,I.kept (LSm.kept_iter kp),rfl,q _ _ (aL.refl _) (.bl _)⟩
end
open PySem PySem.Spec PyProof.Rows L2 Hd
noncomputable def Ite (K:W.Frag)(a:Addr):It:=
 ⟨λi H=>∃xs x,SqL K H a xs/\xs[i]? = some x,λi H x H'=>∃y l,(∀xs,SqL K H a xs->xs[i]? = some y)/\x=.ref l/\H l=none/\H'=upd H l (.tup [.int i,y]),λi H=>∃xs,SqL K H a xs/\xs.length<=i⟩
theorem JH {X:Cx}{pins:List (Addr×Obj)}{σ:L2.St}{H:Hp}{s:Shared}{e it:Addr}{h':Heap}{oe oi:Obj}(I:Inv X pins σ H s)(fe:wL X pins H e)(fi:wL X pins H it)(hne:e≠it)
  (he:∃o,s.heap.get? e=some o) (hi:∃o,s.heap.get? it=some o) (he':h'.get? e=some oe) (hi':h'.get? it=some oi) (de:oe.isFreed=false) (di:oi.isFreed=false)
  (k:∀b o,b≠e->b≠it->s.heap.get? b=some o->h'.get? b=some o):∃h1,Inv X pins σ H { s with heap:=h1 }/\h1.objs.size=s.heap.objs.size/\∀b u,h1.get? b=some u->h'.get? b=some u:=by
 obtain ⟨o1,he⟩:=he
 obtain ⟨o2,hi⟩:=hi
 obtain ⟨f0,f1,f2,f3,f4,f5⟩:=fe
 obtain ⟨g0,g1,g2,g3,g4,g5⟩:=fi
 have I1:Inv X pins σ H { s with heap:=s.heap.update e λ_=>oe }:=I.turned (t':=s.toks) (λb o hb x=>(Heap.get?_update_other _ _ (Ne.symm hb)).trans x) f0 f1 f3 f4 f5
 have I2:Inv X pins σ H { s with heap:=(s.heap.update e λ_=>oe).update it λ_=>oi }:=I1.turned (t':=s.toks) (λb o hb x=>(Heap.get?_update_other _ _ (Ne.symm hb)).trans x) g0 g1 g3 g4 g5
 refine ⟨_,I2,?_,λb u x=>?_⟩
 ·rw [(Heap.SameBut.update _ _ _).1,(Heap.SameBut.update _ _ _).1]
 ·by_cases z:b=it
  ·subst z
   rw [Heap.get?_update_self (λ_=>oi) ((Heap.get?_update_other _ _ hne).trans hi) di] at x
   cases x
   exact hi'
  ·rw [Heap.get?_update_other _ _ (Ne.symm z)] at x
   by_cases y:b=e
   ·subst y
    rw [Heap.get?_update_self (λ_=>oe) he de] at x
    cases x
    exact he'
   ·rw [Heap.get?_update_other _ _ (Ne.symm y)] at x
    exact k b u y z x
theorem Sw {o:Obj}{vs:Array Value}(d:o.data=.fields vs):o.isFreed=false:=by
 obtain ⟨c,dd,da,sl⟩:=o
 cases (show da=.fields vs from d)
 rfl
theorem Ol {P:Program}{w:World}{K:W.Frag}{elts:List Expr}{x1}{pos:Pos}(a e it:Addr)(hne:e≠it):
  Turn P w K (.Tuple elts x1 pos) (Ite K a) [e,it] e (λi h=>(∃old,IsEnum h e it i old)/\h.IsListIter it a i) where
 mem:=by simp
 obj:=λi h st b hb=>by
  obtain ⟨⟨old,q1⟩,q2⟩:=st
  have eb:b=e\/b=it:=by simpa using hb
  rcases eb with rfl | rfl
  ·exact ⟨_,q1,λv z=>by cases (show Data.fields _=Data.cell v from z)⟩
  ·obtain ⟨o,e',c,d⟩:=q2
   exact ⟨o,e',λv z=>by rw [d] at z; cases z⟩
 keep:=λi h h' st k=>by
  obtain ⟨⟨old,q1⟩,q2⟩:=st
  exact ⟨⟨old,k e (by simp) _ q1⟩,q2.at λo x=>k it (by simp) o x⟩
 item:=by
  intro X hP hw hK hc i pins s σ H E I hf st hg
  subst hP hw hK
  obtain ⟨xs,x,hq,hx⟩:=hg
  obtain ⟨⟨old,q1⟩,q2⟩:=st
  obtain ⟨its,rv,p,hz⟩:=I.list hq
  obtain ⟨u,hu,ru⟩:=rv.get hx
  have fe:=hf e (by simp)
  have fi:=hf it (by simp)
  refine wpAny_pyNext_enum_item q1 q2 p.isList (x:=u) (by simpa using hu) hne λh' eo il ht hsz k=>?_
  obtain ⟨oi,ei,ci,di⟩:=id il
  obtain ⟨oj,ej,cj,dj⟩:=id q2
  obtain ⟨h1,I1,z1,k1⟩:=JH I fe fi hne ⟨_,q1⟩ ⟨_,ej⟩ eo ei rfl (Sw di) k
  have I2:Inv X pins σ (upd H s.heap.objs.size (.tup [.int i,x])) { s with heap:=h',toks:=s.toks+1 }:=
   I1.laid (t':=s.toks+1) k1 (Nat.le_of_eq z1) (show eE X.prog X.w _ _ _ (.tup [.int i,x]) from ⟨(show 2<=sizeLine by decide),[.int i s.toks,u],.cons ⟨s.toks,rfl⟩ (.cons ru .nil),⟨_,ht,rfl,_,rfl⟩⟩)
  have fr:H s.heap.objs.size=none:=I.hok.fresh (Nat.le_refl _)
  have ne1:e≠s.heap.objs.size:=Nat.ne_of_lt (Heap.lt_size q1)
  have ne2:it≠s.heap.objs.size:=Nat.ne_of_lt (Heap.lt_size ej)
  have nn:∀b,b≠s.heap.objs.size->H b=none->upd H s.heap.objs.size (.tup [.int i,x]) b=none:=λb z y=>by rw [cO z]; exact y
  refine ⟨_,rfl,wpAny_letOwnedTupleGo_enum eo λh2 e2 sb=>?_⟩
  obtain ⟨f0,f1,f2,f3,f4,f5⟩:=fe
  refine ⟨.ref s.heap.objs.size,_,I2.turned (t':=s.toks+1) (λb o hb y=>(sb.2 b hb).trans y) (nn e ne1 f0) f1 f3 f4 f5,rfl,⟨x,_,λys hy=>by rw [I.G9 hy hq]; exact hx,rfl,fr,rfl⟩,⟨⟨_,e2⟩,il.at λo y=>(sb.2 it (Ne.symm hne)).trans y⟩,λb hb=>?_⟩
  have eb:b=e\/b=it:=by simpa using hb
  rcases eb with rfl | rfl
  ·exact nn _ ne1 f0
  ·exact nn _ ne2 fi.1
 done:=by
  intro X hP hw hK hc i pins s σ H E I hf st hg
  subst hP hw hK
  obtain ⟨xs,hq,hx⟩:=hg
  obtain ⟨⟨old,q1⟩,q2⟩:=st
  obtain ⟨its,rv,p,hz⟩:=I.list hq
  obtain ⟨f0,f1,f2,f3,f4,f5⟩:=hf it (by simp)
  have hl:=rv.length
  exact wpAny_pyNext_enum_end (I.ok.hd hc) q1 q2 p.isList (by simp; omega) λh' eb=>⟨rfl,I.turned (t':=s.toks) (λb o hb y=>eb b o hb y) f0 f1 f3 f4 f5⟩
 self:=λ_ _ _ _ _ st h=>by
  obtain ⟨⟨old,q1⟩,q2⟩:=st
  exact wpAny_pyIter_enum q1 h
section
variable {X:Cx}{tg:Expr}
noncomputable def abx (K:W.Frag)(ta:TA):TI:=λσ H R=>ta σ H λvs H1=>∃p,vs=[.ref p]/\(∃xs,SqL K H1 p xs)/\R (Ite K p) H1
theorem XC {elts:List Expr}{x1}{pt:Pos}{a:Expr}{ta:TA}{p pos:Pos}(hg:Gl X "enumerate")(hm:X.mg "enumerate" = none)(ha:PA X [a] ta)(hs:starEach [a] X.env=[(false,eval a X.env)]:=by rfl):PI X (.Tuple elts x1 pt) (.Call (.Name "enumerate" p) [a] [] pos) (abx X.K ta):=by
 intro pins s σ H R I h
 refine Call_ (tH I hg hm boot_enumerate (PyProof.Rows.callWith_type1 (thn (ha pos pins s σ H _ I h) λus s1 hE=>xq2 hE λvs H1 I1 r1 q1=>?_) hs rfl))
 obtain ⟨l,e,⟨xs,hq⟩,q⟩:=q1
 subst e
 obtain ⟨u,rfl,rx⟩:=vals1 r1
 cases rx
 obtain ⟨its,rv,pl,hz⟩:=I1.list hq
 refine call_enumerate_list pl.isList λh' e1 e2 sz k=>?_
 have I2:Inv X pins σ H1 { s1 with heap:=h' }:=I1.kept (t':=s1.toks) k
 refine wpAny_pyIter_enum (s:={ s1 with heap:=h' }) e1 ?_
 refine ⟨_,[s1.heap.objs.size+1,s1.heap.objs.size],_,_,H1,rfl,I2,Ol l _ _ (Nat.succ_ne_self _),⟨⟨_,e1⟩,e2⟩,λb hb=>?_,q⟩
 have eb:b=s1.heap.objs.size+1\/b=s1.heap.objs.size:=by simpa using hb
 have hb':s1.heap.objs.size<=b:=eb.elim (λz=>by rw [z]; exact Nat.le_succ _) λz=>Nat.le_of_eq z.symm
 exact I1.WR hb' (I1.hok.fresh hb')
noncomputable def Ae (ds:List D):List D:=ds.mapIdx λi d=>.tup [.int i,d]
theorem CJ (ds:List D):(Ae ds).length=ds.length:=by simp [Ae]
theorem V5 {G:Gx}{H:Hp}{a:Addr}{ds:List D}{P:(Addr->Prop)->Hp->Prop}(h:∀O' H2,P O' H2->∃xs,SqL G.K H2 a xs/\DVs G O' H2 xs ds):Bo G (Ite G.K a) (Ae ds) P:=by
 intro O' H2 ev
 obtain ⟨xs,hq,hd⟩:=h O' H2 ev
 have hlen:=bU hd
 refine ⟨λi hi=>⟨xs,xs[i]'(by rw [CJ] at hi; omega),hq,by simp⟩,λi x H' hi y=>?_,xs,hq,by rw [CJ]; omega⟩
 obtain ⟨y,l,h1,rfl,fr,rfl⟩:=y
 obtain ⟨d,e1,e2⟩:=vp hd (h1 xs hq)
 exact ⟨bQ fr _,.tup [.int i,d],by simp [Ae,List.getElem?_mapIdx,e1],.tup (SqU.of bA) (.cons (.int _) (.cons (e2.mono (bQ fr _)) .nil))⟩
noncomputable def aaw (f:Me->Res (List D)):Me->Res (List D):=λm=>(f m).bind λd=>match d with
 |[.lst ds]=>.ok (Ae ds)
 |_=>.stuck
theorem SQ {E:XK}{fs:Me->Res (List D)}{elts:List Expr}{x1}{pt:Pos}{a:Expr}{p pos:Pos}(hg:Gl X "enumerate")(hm:X.mg "enumerate" = none)(ha:FAB X E [a] fs)(hs:starEach [a] X.env=[(false,eval a X.env)]:=by rfl):FIw X E (.Tuple elts x1 pt) (.Call (.Name "enumerate" p) [a] [] pos) (aaw fs):=
 qC (XC hg hm ha hs) λσ H R hE=>xq5 hE λO0 M0 H0 ow m Re q=>⟨O0,M0,H0,ow,m,Re,q.bind.imp (aL.refl _) λds q vs H' g hv=>by
  match ds,vs,hv,q with
  |[.lst ds],_,.cons h1 .nil,q=>
   obtain ⟨l,xs,rfl,hl,hd⟩:=jB h1
   exact ⟨_,rfl,⟨_,hl⟩,q _ H' g (V5 (H:=H') λO' H2 ⟨sub,g2⟩=>⟨_,Iw hl g2,hd.go (Re.mono g).mutk ⟨sub,.of g2⟩⟩)⟩⟩
end
open PySem PySem.Spec PyProof.Rows L2 Hd
theorem RV:typeLookup (.type "list_reverseiterator") "__len__" = pure none:=by rw [typeLookup_type,builtinLookup_eq_fast]; kernel_rfl
theorem Vj:typeLookup (.type "list_reverseiterator") "__length_hint__" = pure (some (.builtin "list_reverseiterator.__length_hint__")):=by rw [typeLookup_type,builtinLookup_eq_fast]; kernel_rfl
section
variable {pr:Program}{wo:World}{A:Around}{s:Shared}{R:Result->Shared->Prop}
variable {St:Nat->Shared->Prop}{P:Nat->Value->Prop}{n:Nat}{I:Addr}{fp wr:List Addr}{G:Array GenState->Array GenState->Prop}
theorem VG (W:WalksS pr wo A.in1 I fp wr G n P St)(ty:∀i s,St i s->s.TypeIs (.ref I) "list_reverseiterator")(S:Addr)(res:Value)(c:Nat)(st:St 0 s)(nf:S∉fp)(mi:I∈fp)
  (oS:s.heap.get? S=some { cls:=.type "list",data:=.seq #[] c })
  (fin:∀s' ac c',Moved (S::wr) G s s'->s'.heap.get? S=some { cls:=.type "list",dict:=none,data:=.seq ac c',slots:=#[] }->ItemsOf P ac n->R (.ok (.ret res)) s') (hn:n<=sizeLine):
  wpAny (model pr wo) A.in1 (Builtin.List.listExtendWith (.ref S) (.ref I) res)
   (λf t=>match f with | .done f=>R (.ok f) t | .again c'=>c'.quiet=true/\codeAny (model pr wo) A c' R t) (λe t=>R (.error e) t) s:=by
 have ne:S≠I:=λe=>nf (e ▸ mi)
 have sr:Builtin.List.listSameRef (.ref S) (.ref I)=false:=by simp [Builtin.List.listSameRef,ne]
 unfold Builtin.List.listExtendWith; refine wpAny_bind (wpAny_typeOf (ty 0 _ st) ?_)
 rw [if_neg (by rw [sr]; decide)]
 refine wpAny_bind (W.self 0 _ _ _ st (wpAny_bind (wpAny_holding ?_)))
 unfold Builtin.List.listLengthHint; refine wpAny_bind (wpAny_specialOf (ty 0 _ st) RV ?_)
 show wpAny (model pr wo) A.in1 (specialOf (Value.ref I) (Str.ofString "__length_hint__") >>= _) _ _ _
 refine wpAny_bind (wpAny_specialOf (ty 0 _ st) Vj ?_)
 generalize hid:("list_reverseiterator.__length_hint__" : String)=id0
 wp_delta
 rw [show splitId id0=some ("list_reverseiterator", "__length_hint__") from by subst hid; decide +kernel]
 subst hid
 refine wpAny_bind (wpAny_isInstance (b:=true) (ty 0 _ st) (by rw [isSubtype_type]; kernel_rfl) (wpAny_pure ?_))
 rw [if_neg (by decide)]
 exact wpAny_pure ⟨plainId_quiet F.plain_extend_loop _,codeAny_extend_loopS W hn _ nf _ n 0 _ _ _ rfl (Nat.zero_le _) st oS (ItemsOf.nil P) fin⟩
end
section
variable {pr:Program}{wo:World}{A:Around}{E:Value->Shared->Prop}{s:Shared}
theorem Om {items:Array Value}{ac:Array Value}(h:ItemsOf (λi v=>items[items.size - 1 - i]? = some v) ac items.size):ac=items.reverse:=by
 obtain ⟨z,h⟩:=h
 refine Array.ext (by simp [z]) λi h1 h2=>?_
 have:=h i ac[i] (by simp)
 rw [Array.getElem_reverse]
 obtain ⟨_,e⟩:=Array.getElem?_eq_some_iff.mp this
 exact e.symm
theorem Bj {I l:Addr}{items:Array Value}{Q:Value->Shared->Prop}(hh:A.handled=none)(li:s.heap.IsList l items)(ri:s.heap.IsRevIter I l ((items.size:Int) - 1))(ne:l≠I)(hn:items.size<=sizeLine)
  (fin:∀t tk c,(∀b o,b≠I->s.heap.get? b=some o->t.get? b=some o)->t.get? s.heap.objs.size=some { cls:=.type "list",dict:=none,data:=.seq items.reverse c,slots:=#[] }->Q (.ref s.heap.objs.size) { s with heap:=t,toks:=tk }):
  wpAny (model pr wo) A (call (.type "list") [.ref I]) Q E s:=by
 obtain ⟨oi,ei,ci,di⟩:=id ri
 obtain ⟨ol,el,cl⟩:=id li
 have ltI:I<s.heap.objs.size:=Heap.lt_size ei
 have ltl:l<s.heap.objs.size:=Heap.lt_size el
 have nf:s.heap.objs.size∉[I,l]:=λhm=>by
  rcases List.mem_cons.mp hm with z | z
  ·exact Nat.ne_of_gt ltI z
  ·exact Nat.ne_of_gt ltl (List.mem_singleton.mp z)
 have W:=(Walks.listRev (prog:=pr) (w:=wo) (A:=A.in1.in1) hh I l ne items).toS
 refine callType_codes (Q₁:=λo t=>o=.ref s.heap.objs.size/\t={ s with heap:=s.heap.push { cls:=.type "list",data:=.seq #[] } }) F.called_list (F.typeCall_list_1 _) F.entry_list_init (code_list_new _ ⟨rfl,rfl⟩) λo t ht=>?_
 obtain ⟨rfl,rfl⟩:=ht
 have oS:(s.heap.push { cls:=.type "list",data:=.seq #[] }).get? s.heap.objs.size=some { cls:=.type "list",data:=.seq #[] }:=Heap.get?_push_size _ rfl
 refine ⟨⟨_,oS,rfl⟩,F.args_list_init_2 _ _,?_⟩
 show wpAny (model pr wo) A.in1.in1 (do let old ← Builtin.List.listItems (.ref s.heap.objs.size); Builtin.List.listUpdate (.ref s.heap.objs.size) (λ_=>#[]); letGo old.toList.reverse; Builtin.List.listExtendWith (.ref s.heap.objs.size) (.ref I) .none) _ _ _
 refine wpAny_bind ?_
 unfold Builtin.List.listItems
 refine wpAny_bind (wpAny_seqItems oS rfl (wpAny_pure ?_))
 refine wpAny_bind (m:=updateSeq s.heap.objs.size (λ_=>#[])) (wpAny_updateSeq oS rfl ?_)
 have oS2:=Heap.get?_update_self (Obj.mapSeq (λ_=>(#[]:Array Value))) oS rfl
 refine wpAny_bind (wpAny_letGo ?_)
 have kp:∀b o,b≠s.heap.objs.size->s.heap.get? b=some o->((s.heap.push { cls:=.type "list",data:=.seq #[] }).update s.heap.objs.size (Obj.mapSeq (λ_=>(#[]:Array Value)))).get? b=some o:=
  λb o hb e=>(Heap.get?_update_other _ _ (Ne.symm hb)).trans (Heap.get?_push_of_some _ e)
 have st0:(0:Nat)<=items.size/\s.heap.IsRevIter I l ((items.size:Int) - 1 - ((0:Nat):Int))/\s.heap.IsList l items:=⟨Nat.zero_le _,by simpa using ri,li⟩
 refine VG W (λi t x=>x.2.1.typeIs) _ .none _ ⟨st0.1,st0.2.1.at λo e=>kp I o (Nat.ne_of_lt ltI) e,st0.2.2.at λo e=>kp l o (Nat.ne_of_lt ltl) e⟩ nf (by simp) oS2 (λt ac c mv oS3 it=>?_) hn
 refine ⟨rfl,?_⟩
 rw [Moved.eq_with mv]
 rw [Om it] at oS3
 exact fin _ _ c (λb o hb e=>mv.heap b o (λhm=>by
  rcases List.mem_cons.mp hm with z | hm
  ·exact Nat.lt_irrefl _ (z ▸ Heap.lt_size e)
  ·exact hb (List.mem_singleton.mp hm)) (kp b o (Nat.ne_of_lt (Heap.lt_size e)) e)) oS3
end
section
variable {X:Cx}
theorem qO:bootBuiltins "list" = some (.type "list"):=by decide +kernel
theorem YH:bootBuiltins "reversed" = some (.type "reversed"):=by decide +kernel
noncomputable def abK (K:W.Frag):List V->Hp->VK->Prop:=λxs H Q=>∃p ys,xs=[.ref p]/\SqL K H p ys/\∀l,H l=none->Q (.ref l) (upd H l (.lst ys.reverse))
theorem Wu {e:Expr}{p p' pos pos':Pos}{ta:TA}(hc:X.calm=true)(hg:Gl X "list")(hm:X.mg "list" = none)(hg':Gl X "reversed")(hm':X.mg "reversed" = none)(ha:PA X [e] ta)
  (hs:starEach [e] X.env=[(false,eval e X.env)]:=by rfl) (hs':starEach [.Call (.Name "reversed" p') [e] [] pos'] X.env=[(false,eval (.Call (.Name "reversed" p') [e] [] pos') X.env)]:=by rfl):
  PE X (.Call (.Name "list" p) [.Call (.Name "reversed" p') [e] [] pos'] [] pos) (tCB (abK X.K) ta):=by
 intro pins s σ H Q I h
 refine wpAny_Call_Name_kw (tH I hg hm qO (PyProof.Rows.callWith_type1 ?_ hs' rfl))
 rw [hs']
 refine Calls.spliced_cons (wpAny_Call_Name_kw (tH I hg' hm' YH (PyProof.Rows.callWith_type1 (thn (ha pos' pins s σ H _ I h) λus s1 hE=>xq2 hE λvs H1 I1 r1 q1=>?_) hs rfl)))
 obtain ⟨l,ys,rfl,hq,q⟩:=q1
 obtain ⟨u,rfl,rx⟩:=vals1 r1
 cases rx
 obtain ⟨its,rv,pl,hz⟩:=I1.list hq
 have hlen:=rv.length
 refine call_reversed_list pl.isList (Calls.spliced_nil ?_)
 have el:l<s1.heap.objs.size:=by obtain ⟨_,e,_⟩:=pl.isList; exact Heap.lt_size e
 refine Bj (s:={ s1 with heap:=s1.heap.push (revObj l ((its.toArray.size:Int) - 1)) }) (I1.ok.hd hc) (pl.isList.push _) ⟨_,Heap.get?_push_size _ rfl,rfl,rfl⟩ (Nat.ne_of_lt el) (by simp only [List.size_toArray] <;> omega) λt tk c kp oS=>?_
 have sz:s1.heap.objs.size<=(s1.heap.push (revObj l ((its.toArray.size:Int) - 1))).objs.size:=by rw [Heap.size_push]; exact Nat.le_succ _
 refine ⟨.ref _,_,I1.laid (t':=tk) (λb o e=>kp b o (Nat.ne_of_lt (Heap.lt_size e)) (Heap.get?_push_of_some _ e)) sz (show eE X.prog X.w _ t _ (.lst ys.reverse) from ⟨by simp; omega,its.reverse,c,rv.reverse,by simpa using oS⟩),rfl,q _ (I1.hok.fresh sz)⟩
noncomputable def Sx:List D->Option D
 |[.lst ds]=>some (.lst ds.reverse)
 |_=>none
theorem Xi {E:XK}{e:Expr}{p p' pos pos':Pos}{fs:Me->Res (List D)}(hc:X.calm=true)(hg:Gl X "list")(hm:X.mg "list" = none)(hg':Gl X "reversed")(hm':X.mg "reversed" = none)(ha:FAB X E [e] fs)
  (hs:starEach [e] X.env=[(false,eval e X.env)]:=by rfl) (hs':starEach [.Call (.Name "reversed" p') [e] [] pos'] X.env=[(false,eval (.Call (.Name "reversed" p') [e] [] pos') X.env)]:=by rfl):
  FN X E (.Call (.Name "list" p) [.Call (.Name "reversed" p') [e] [] pos'] [] pos) (aW Sx fs):=
 bJ (Wu hc hg hm hg' hm' ha hs hs') λσ H Q h=>by
  obtain ⟨O0,M0,H0,ow,m,R,q⟩:=h
  refine ⟨O0,M0,H0,ow,m,R,q.bind.imp (aL.refl _) λds q vs H1 g1 hv=>?_⟩
  obtain ⟨r,hr,k⟩:=q.ofO
  match ds,hr with
  |[.lst ds],hr=>
   cases hr
   obtain ⟨v,rfl,hw⟩:=v8 hv
   obtain ⟨l,xs,rfl,hp,hd⟩:=jB hw
   exact ⟨l,xs,rfl,hp,λb hb=>k b _ (g1.trans (bQ hb _)) (g1.free hb) ⟨_,bA,((Ln hd).cu λc z=>z.elim .inl λe=>.inr (by rw [e]; exact hb)).mono (bQ hb _)⟩⟩
end
open PySem PySem.Spec PyProof.Rows L2 Hd
section
variable {X:Cx}{tg:Expr}
end
open PySem PySem.Spec PyProof.Rows L2 Hd
theorem ints_of:∀{ns:List Int} {us:List Value},Vals (ns.map V.int) us->∃xs:Array (Int×Tok),us.toArray=intItems xs/\xs.toList.map (·.1)=ns
 |[],_,.nil=>⟨#[],by simp [intItems],rfl⟩
 |n::ns,_,.cons r t=>by
  obtain ⟨xs,e1,e2⟩:=ints_of t
  obtain ⟨k,rfl⟩:=r
  refine ⟨#[(n,k)]++xs,?_,by simp [e2]⟩
  have e3:=congrArg Array.toList e1
  apply Array.toList_inj.mp
  simp [intItems] at e3 ⊢
  exact e3
noncomputable def RK:List D->Option D
 |[.lst ds]=>(wk ds).map λns=>.int ns.sum
 |_=>none
section
variable {X:Cx}
theorem Cg (hc:X.calm=true):kJ X (.builtin "sum") (rGC (gx X) RK):=by
 intro pins s σ H xs us Q I r h
 obtain ⟨O,ds,d,m,hx,hr,q⟩:=h
 match ds,hr with
 |[.lst ds],hr=>
  obtain ⟨ns,e1,rfl⟩:=omap hr
  obtain ⟨v,rfl,hv⟩:=v8 hx
  obtain ⟨p,xs,rfl,hp,hd⟩:=jB hv
  have:=yI hd e1
  subst this
  obtain ⟨u,rfl,rx⟩:=vals1 r
  cases rx
  obtain ⟨its,r',pl,hz⟩:=I.list hp
  obtain ⟨ys,e2,e3⟩:=ints_of r'
  refine sum_intListG (I.ok.hd hc) (xs:=ys) (e2 ▸ pl.isList) λh' tk t' kp=>?_
  have e4:preSum (numAt ys) ys.size=ns.sum:=by rw [preSum_eq,List.take_of_length_le (by simp),e3]
  rw [e4]
  exact ⟨.int _,H,I.kept kp,⟨t',rfl⟩,q _ _ (aL.refl _) (.int _)⟩
end
open PySem PySem.Spec PyProof.Rows L2 Hd
theorem wV {G:Gx}{O:Addr->Prop}{H:Hp}{v:V}{d:D}(h:DV G O H v d):∀{vs:List V} {ds:List D} (j:Nat),DVs G O H vs ds->DVs G O H (vs.set j v) (ds.set j d)
 |_,_,_,.nil=>.nil
 |_,_,0,.cons _ t=>.cons h t
 |_,_,j+1,.cons a t=>.cons a (wV h j t)
section
variable {X:Cx}{E:XK}{e ke:Expr}{f fk:Me->Res D}{pos spos np:Pos}{x:Str}
theorem Tt (i:Nat)(he:FE X E e f)(hk:FE X E ke fk)(hN:X.N[i]? = some x:=by rfl)(hv:Vis X.env.scope x:=by first | exact Or.inl rfl | exact Or.inr (Or.inl rfl) | exact Or.inr (Or.inr rfl))(hd:(x == ("__debug__" : Str))=false:=by decide)(hcd:(x == ("__classdict__" : Str))=false:=by decide)
  (ha:∀v,assign (.Subscript (.Name x np) ke spos) X.env v=(do
   let ov ← holding [v] (eval (.Name x np) X.env)
   let iv ← holding [v,ov] (eval ke X.env)
   standAt spos
   holding [v,ov,iv] (setItem ov iv v)
   release [v,ov,iv] []):=by intro _; rfl)
  (hs:swapsWithSole [.Subscript (.Name x np) ke spos] e pos.line X.env=pure false:=by rfl) (hw:swappedStores [.Subscript (.Name x np) ke spos] e X.env=pure none:=by rfl)
  (h1:(assignEach [.Subscript (.Name x np) ke spos] X.env).map (·.2)=[assign (.Subscript (.Name x np) ke spos) X.env]:=by rfl):FS X E (.Assign [.Subscript (.Name x np) ke spos] e pos) (FJ i fk f):=
 cM (JB he (Tq (jC hN hv hd hcd) hk set_list ha) hs hw h1) λW σ H hE=>xq5 hE λO0 M0 H0 ow m R q=>
  ⟨O0,M0,H0,ow,m,R.toRel,(Ss.pu R.toRel q).imp (aL.refl _) λd q v H1 g1 hv=>by
   obtain ⟨o,ho,q⟩:=Ss.ofO q
   obtain ⟨k,ds⟩:=o
   have R1:=R.mono g1
   obtain ⟨a,xs,e1,e2,e3,e4,e5⟩:=qz R1.toRel ho
   refine ⟨_,e2,O0,M0,H0,ow,m,R1.toRel,(Ss.pu R1.toRel (q.go (Go.refl g1))).imp (aL.refl _) λdk q vk H2 g2 hvk=>?_⟩
   cases dk with
   |int n=>
    cases hvk
    obtain ⟨j,hj,q⟩:=Ss.ofO q
    have R2:=R1.mono g2
    obtain ⟨R3,g3⟩:=R2.put (es:=ds.set j d) (ys:=xs.set j v) e1 e5 (wV (hv.mono g2) j (e4.mono g2))
    exact ⟨a,xs,n,j,rfl,rfl,g2 _ _ e3,by rw [bU e4]; exact hj,q _ _ _ R3 ((Go.refl g2).trans g3)⟩
   |_=>exact q.elim⟩
end
open PySem PySem.Spec PyProof.Rows L2 Hd
noncomputable def qN:D->Option Key
 | .int i=>some (.inl i)
 | .str z=>some (.inr z)
 |_=>none
noncomputable def uK:List Key->List D->Key->Option D
 |k'::ks,d::ds,k=>if k'=k then some d else uK ks ds k
 |_,_,_=>none
noncomputable def BP:List Key->List D->Key->D->List D
 |k'::ks,d'::ds,k,d=>(if k'=k then d else d')::BP ks ds k d
 |_,_,_,_=>[]
noncomputable def putD (ks:List Key)(ds:List D)(k:Key)(d:D):List Key×List D:=if ks.any (λx=>decide (x=k))=true then (ks,BP ks ds k d) else (ks++[k],ds++[d])
theorem Fo {G:Gx}{O:Addr->Prop}{H:Hp}{v:V}{d:D}{k:Key}(h:DW G O H v d)(e:qN d=some k):v=kV k:=by
 cases d with
 |int i=>cases e; cases cG h; rfl
 |str z=>cases e; cases jA h; rfl
 |_=>cases e
theorem K9 {G:Gx}{O:Addr->Prop}{H:Hp}{k:Key}:∀{kvs:List (Key×V)} {ds:List D},DVs G O H (kvs.map (·.2)) ds->
  (∃v d,pY kvs k=some v/\uK (kvs.map (·.1)) ds k=some d/\DV G O H v d)\/(pY kvs k=none/\uK (kvs.map (·.1)) ds k=none)
 |[],_,.nil=>.inr ⟨rfl,rfl⟩
 |(k',v)::kvs,_,.cons (d:=d) h hs=>by
  by_cases q:k'=k
  ·exact .inl ⟨v,d,sG q,by simp [uK,q],h⟩
  ·rw [sU (p:=(k',v)) q]
   simp only [List.map_cons,uK,if_neg q]
   exact K9 hs
section
variable {X:Cx}{E:XK}
noncomputable def bR:D->D->Option D
 | .dct ks ds,k=>(qN k).bind (uK ks ds)
 |_,_=>none
theorem jF {j:Nat}{A:Around}(r:iR j A):A.units+16<cLine:=by have:=r.un; omega
variable {a b:Expr}{fa fb:Me->Res D}{pos:Pos}
theorem dm {j:Nat}(hr:iR j X.A)(ha:FB X E a fa)(hb:FB X E b fb)(hs:Xo b):FE X E (.Subscript a b pos) (au bR fa fb):=
 bJ (Ld (jF hr) ha hb hs) λσ H Q hE=>xq5 hE λO0 M0 H0 ow m R q=>two (r:=λx y H Q=>∃a v,x=.ref a/\Em X.K H a y (some v)/\Q v H) R (K:=λz H=>∀v H',aL H H'->DV (gx X) (Ow O0 ow) H' v z->Q v H') q (λ_ _ k g v H' g' d=>k v H' (g.trans g') d) λx y d e H' g hx hy q' R'=>by
  obtain ⟨r,hr,k⟩:=q'.ofO
  match d,hr with
  | .dct ks ds,hr=>
   obtain ⟨p,kvs,ws,rfl,hp,rfl,rfl,hd⟩:=JC hx
   obtain ⟨ky,e2,e3⟩:=Option.bind_eq_some_iff.mp hr
   cases Fo hy e2
   rcases K9 (k:=ky) hd with ⟨v,d,a,b,c⟩ | ⟨a,b⟩
   ·rw [b] at e3
    cases e3
    exact ⟨p,v,rfl,a ▸ Em.k hp,k _ _ (aL.refl _) c⟩
   ·rw [b] at e3; cases e3
noncomputable def TF:Me->Res D:=λ_=>.ok (.dct [] [])
theorem V9:FN X E (.Dict [] [] pos) TF:=bJ Ri λσ H Q ⟨O0,M0,H0,ow,m,R,q⟩ p hp=>q p _ (bQ hp _) hp ⟨[],[],bA,rfl,rfl,.nil⟩
end
theorem Cp (k:Key)(v:V):∀kvs:List (Key×V),(kvs.map λkv=>if kv.1=k then (kv.1,v) else kv).map (·.1)=kvs.map (·.1)
 |[]=>rfl
 |p::kvs=>by
  rw [List.map_cons,List.map_cons,List.map_cons,Cp k v kvs]
  split <;> rfl
theorem wU {G:Gx}{O:Addr->Prop}{H:Hp}{k:Key}{v:V}{d:D}(h:DV G O H v d):∀{kvs:List (Key×V)} {ds:List D},DVs G O H (kvs.map (·.2)) ds->DVs G O H ((kvs.map λkv=>if kv.1=k then (kv.1,v) else kv).map (·.2)) (BP (kvs.map (·.1)) ds k d)
 |[],_,.nil=>.nil
 |(k',v')::kvs,_,.cons h1 hs=>by
  simp only [List.map_cons,BP]
  split
  ·exact .cons h (wU h hs)
  ·exact .cons h1 (wU h hs)
theorem Gf {G:Gx}{O:Addr->Prop}{H:Hp}{k:Key}{v:V}{d:D}{kvs:List (Key×V)}{ds:List D}(h:DV G O H v d)(hs:DVs G O H (kvs.map (·.2)) ds):
  (putK kvs k v).map (·.1)=(putD (kvs.map (·.1)) ds k d).1/\DVs G O H ((putK kvs k v).map (·.2)) (putD (kvs.map (·.1)) ds k d).2:=by
 have e:(kvs.any λkv=>decide (kv.1=k))=(kvs.map (·.1)).any λx=>decide (x=k):=by rw [List.any_map]; rfl
 unfold putK putD
 rw [e]
 split
 ·exact ⟨Cp k v kvs,wU h hs⟩
 ·exact ⟨by simp,by rw [List.map_append]; exact jR hs (.cons h .nil)⟩
open PySem PySem.Spec PyProof.Rows L2 Hd
noncomputable def yx (m:Me)(i:Nat):Option (Bool×List Key×List D):=match m[i]? with
 |some (.ow (.dct ks ds))=>some (true,ks,ds)
 |some (.io (.dct ks ds))=>some (false,ks,ds)
 |_=>none
noncomputable def yo (m:Me)(i:Nat)(k:Bool)(ks:List Key)(ds:List D):Me:=m.set i (if k then .ow (.dct ks ds) else .io (.dct ks ds))
section
variable {G:Gx}{O0 M0:Addr->Prop}{H0:Hp}{ow:Os}{σ:L2.St}{H:Hp}{m:Me}
theorem M7 (R:Rel G O0 M0 H0 ow σ H m){i:Nat}{k:Bool}{ks:List Key}{ds:List D}(e:yx m i=some (k,ks,ds)):∃a kvs,ow i=some a/\σ[i]? = some (some (.ref a))/\H a=some (.dK kvs)/\kvs.map (·.1)=ks/\DVs G (Ow O0 ow) H (kvs.map (·.2)) ds/\((m[i]? = some (.ow (.dct ks ds))/\k=true)\/(m[i]? = some (.io (.dct ks ds))/\k=false)):=by
 unfold yx at e
 split at e
 ·rename_i q
  cases e
  obtain ⟨a,e1,e2,e3,kvs,vs,e4,e5,rfl,e6⟩:=R.slot i _ q
  exact ⟨a,kvs,e1,e3,e4,e5,e6,.inl ⟨q,rfl⟩⟩
 ·rename_i q
  cases e
  obtain ⟨a,e1,e2,e3,kvs,vs,e4,e5,rfl,e6⟩:=R.slot i _ q
  exact ⟨a,kvs,e1,e3,e4,e5,e6,.inr ⟨q,rfl⟩⟩
 ·cases e
theorem du.yo {i:Nat}{k:Bool}{a:Addr}{ks ls:List Key}{ds es:List D}{kvs:List (Key×V)}(R:du G O0 M0 H0 ow σ H m)(ho:ow i=some a)(hm:(m[i]? = some (.ow (.dct ks ds))/\k=true)\/(m[i]? = some (.io (.dct ks ds))/\k=false))
  (hk:kvs.map (·.1)=ls) (hd:DVs G (Ow O0 ow) H (kvs.map (·.2)) es):du G O0 M0 H0 ow σ (L2.upd H a (.dK kvs)) (F.yo m i k ls es)/\Go O0 ow H ow (L2.upd H a (.dK kvs)):=by
 have oa:Ow O0 ow a:=.inr ⟨i,ho⟩
 have kp:Kp (Ow O0 ow) H (L2.upd H a (.dK kvs)):=λb u e n=>o6 b u e λz=>n (z ▸ oa)
 have ov:OV G (Ow O0 ow) (L2.upd H a (.dK kvs)) a (.dct ls es):=⟨kvs,_,L2.bA,hk,rfl,hd.kp R.mutk kp⟩
 refine ⟨R.chg (d:=.dct ks ds) (d':=.dct ls es) ho o6 ov ?_,Go.chg ho o6 ov⟩
 rcases hm with ⟨e,rfl⟩ | ⟨e,rfl⟩
 ·exact .inl ⟨e,rfl⟩
 ·exact .inr ⟨e,rfl⟩
end
noncomputable def lL (i:Nat)(fk fv:Me->Res D):Me->Res (Fl×Me):=λm=>(fv m).bind λd=>(ofO (yx m i)).bind λo=>(fk m).bind λk=>(ofO (qN k)).bind λk=>
 if o.2.1.length<sizeLine then .ok (.nx,yo m i o.1 (putD o.2.1 o.2.2 k d).1 (putD o.2.1 o.2.2 k d).2) else .stuck
section
variable {X:Cx}{E:XK}{e ke:Expr}{f fk:Me->Res D}{pos spos np:Pos}{x:Str}
theorem vY {jj:Nat}(i:Nat)(hr:iR jj X.A)(he:FE X E e f)(hk:FE X E ke fk)(hN:X.N[i]? = some x:=by rfl)(hv:Vis X.env.scope x:=by first | exact Or.inl rfl | exact Or.inr (Or.inl rfl) | exact Or.inr (Or.inr rfl))(hd:(x == ("__debug__" : Str))=false:=by decide)(hcd:(x == ("__classdict__" : Str))=false:=by decide)
  (hs:swapsWith e (some (.Subscript (.Name x np) ke spos)) pos.line X.env=pure false:=by rfl):FS X E (.Assign [.Subscript (.Name x np) ke spos] e pos) (lL i fk f):=
 cM (yS (jF hr) (jC hN hv hd hcd) hk he hs) λW σ H hE=>xq5 hE λO0 M0 H0 ow m R q=>
  ⟨O0,M0,H0,ow,m,R.toRel,(Ss.pu R.toRel q).imp (aL.refl _) λd q v H1 g1 hv=>by
   obtain ⟨o,ho,q⟩:=Ss.ofO q
   obtain ⟨k,ks,ds⟩:=o
   have R1:=R.mono g1
   obtain ⟨a,kvs,e1,e2,e3,e4,e5,e6⟩:=M7 R1.toRel ho
   refine ⟨_,e2,O0,M0,H0,ow,m,R1.toRel,(Ss.pu R1.toRel (q.go (Go.refl g1))).imp (aL.refl _) λdk q vk H2 g2 hvk=>?_⟩
   obtain ⟨ky,h1,q⟩:=Ss.ofO q
   cases Fo (.inl hvk) h1
   by_cases hz:ks.length<sizeLine
   ·rw [if_pos hz] at q
    have R2:=R1.mono g2
    obtain ⟨p1,p2⟩:=Gf (k:=ky) (hv.mono g2) (e5.mono g2)
    rw [e4] at p1 p2
    obtain ⟨R3,g3⟩:=R2.yo e1 e6 p1 p2
    exact ⟨a,_,rfl,Bs.k (g2 _ _ e3) (by rw [← List.length_map (f:=(·.1)),e4]; exact hz),q _ _ _ R3 ((Go.refl g2).trans g3)⟩
   ·rw [if_neg hz] at q; exact q.elim⟩
end
open PySem PySem.Spec PyProof.Rows L2 Hd
section
variable {X:Cx}{E:XK}{e v₁ v₂:Expr}{es:List Expr}{f:Me->Res D}{pos:Pos}
end
open PySem PySem.Spec PyProof.Rows L2 Hd
section
variable {X:Cx}
end
open PySem PySem.Spec PyProof.Rows L2 Hd
section
variable {X:Cx}{E:XK}{e:Expr}
end
open PySem PySem.Spec PyProof.Rows L2 Hd
section
variable {X:Cx}{E:XK}{e:Expr}{f:Me->Res D}{pos:Pos}
theorem mulOk_of {z:Str}{n:Int}(h0:0<=n)(h1:n<=1000)(hz:z.length<=1000):MulOk z n:=by
 refine ⟨by simp; omega,λp _=>?_,λp _=>?_⟩
 ·have:(1000:Int)<=(2 ^ 63 - 1) / n:=by
   rw [Int.le_ediv_iff_mul_le (by omega)]
   omega
  omega
 ·have:z.length * n.toNat<=1000 * 1000:=Nat.mul_le_mul hz (by omega)
  have e:sizeLine=16777216:=by decide
  simp [Builtin.Str.tooLong,e]
  omega
end
open PySem PySem.Spec PyProof.Rows L2 Hd
noncomputable def nu (f:D->Option Kt):List D->Option (List Kt)
 |[]=>some []
 |d::ds=>(f d).bind λk=>(nu f ds).map λks=>k::ks
noncomputable def ktD:Nat->D->Option Kt
 |_,.int i=>some (.k (.inl i))
 |_,.str x=>some (.k (.inr x))
 |n+1,.tup ds=>(nu (ktD n) ds).map .t
 |_,_=>none
noncomputable def ug:D->Option (List Kt)
 | .tup ds=>nu (ktD 7) ds
 |_=>none
noncomputable def cQ:List (List Kt)->List D->List Kt->Option D
 |k'::ks,d::ds,k=>if k'=k then some d else cQ ks ds k
 |_,_,_=>none
noncomputable def ur:List (List Kt)->List D->List Kt->D->List D
 |k'::ks,d'::ds,k,d=>(if k'=k then d else d')::ur ks ds k d
 |_,_,_,_=>[]
noncomputable def lA (ks:List (List Kt))(ds:List D)(k:List Kt)(d:D):List (List Kt)×List D:=if ks.any (λx=>decide (x=k))=true then (ks,ur ks ds k d) else (ks++[k],ds++[d])
theorem FP {G:Gx}{O:Addr->Prop}{H:Hp}{n:Nat}{f:D->Option Kt}(hf:∀{v d k},DV G O H v d->f d=some k->yD (KTp G.K) H n v k):∀{vs:List V} {ds:List D} {ks:List Kt},DVs G O H vs ds->nu f ds=some ks->rM (KTp G.K) H n vs ks
 |_,_,_,.nil,e=>by cases e; exact .nil
 |_,_,_,.cons (d:=d) (ds:=ds) h hs,e=>by
  have e:(f d).bind (λk=>(nu f ds).map λks=>k::ks)=some _:=e
  obtain ⟨k,e1,e2⟩:=Option.bind_eq_some_iff.mp e
  obtain ⟨ks,e3,rfl⟩:=omap e2
  exact .cons (hf h e1) (FP hf hs e3)
theorem X7 {G:Gx}{O:Addr->Prop}{H:Hp}:∀(n:Nat) {v:V} {d:D} {k:Kt},DV G O H v d->ktD n d=some k->yD (KTp G.K) H n v k
 |n,_,_,k,.int i,e=>by
  have:k=.k (.inl i):=by cases n <;> (rw [ktD] at e; exact (Option.some.inj e).symm)
  subst this; exact yD.k (x:=.inl i)
 |n,_,_,k,.str x,e=>by
  have:k=.k (.inr x):=by cases n <;> (rw [ktD] at e; exact (Option.some.inj e).symm)
  subst this; exact yD.k (x:=.inr x)
 |n+1,_,_,k,.tup h hs,e=>by
  rw [ktD] at e
  obtain ⟨ks,e3,rfl⟩:=omap e
  exact .t h (FP (λh e=>X7 n h e) hs e3)
 |0,_,_,k,.tup h hs,e=>by simp [ktD] at e
 |n,_,_,k,.non,e=>by cases n <;> simp [ktD] at e
 |n,_,_,k,.bl _,e=>by cases n <;> simp [ktD] at e
 |n,_,_,k,.adr _,e=>by cases n <;> simp [ktD] at e
 |n,_,_,k,.exc _ _,e=>by cases n <;> simp [ktD] at e
 |n,_,_,k,.lst _ _,e=>by cases n <;> simp [ktD] at e
 |n,_,_,k,.dct _ _ _ _ _,e=>by cases n <;> simp [ktD] at e
 |n,_,_,k,.dcu _ _ _ _ _,e=>by cases n <;> simp [ktD] at e
 |n,_,_,k,.dcf _ _ _ _,e=>by cases n <;> simp [ktD] at e
theorem qY {G:Gx}{O:Addr->Prop}{H:Hp}{v:V}{d:D}{k:List Kt}(h:DW G O H v d)(e:ug d=some k):∃b,v=.ref b/\TrT (KTp G.K) H b k:=by
 cases d with
 |tup ds=>
  obtain ⟨b,xs,rfl,hq,hd⟩:=yV h
  exact ⟨b,rfl,xs,hq,FP (λh e=>X7 7 h e) hd e⟩
 |_=>cases e
theorem yO {G:Gx}{O:Addr->Prop}{H:Hp}{k:List Kt}:∀{kvs:List (List Kt×V)} {ds:List D},DVs G O H (kvs.map (·.2)) ds->
  (∃v d,pY kvs k=some v/\cQ (kvs.map (·.1)) ds k=some d/\DV G O H v d)\/(pY kvs k=none/\cQ (kvs.map (·.1)) ds k=none)
 |[],_,.nil=>.inr ⟨rfl,rfl⟩
 |(k',v)::kvs,_,.cons (d:=d) h hs=>by
  by_cases q:k'=k
  ·exact .inl ⟨v,d,sG q,by simp [cQ,q],h⟩
  ·rw [sU (p:=(k',v)) q]
   simp only [List.map_cons,cQ,if_neg q]
   exact yO hs
noncomputable def dcK:D->Option (List (List Kt)×List D)
 | .dcu ks ds=>some (ks,ds)
 | .dcf ks ds=>some (ks,ds)
 |_=>none
theorem Ro {G:Gx}{O:Addr->Prop}{H:Hp}{v:V}{d:D}{ks:List (List Kt)}{ds:List D}(h:DW G O H v d)(e:dcK d=some (ks,ds)):∃a kvs,v=.ref a/\Rd H a (.dT (KTp G.K) kvs)/\kvs.map (·.1)=ks/\DVs G O H (kvs.map (·.2)) ds:=by
 cases d with
 |dcu ks' ds'=>
  cases e
  obtain ⟨p,kvs,ws,rfl,hp,e1,rfl,hd⟩:=UL h
  exact ⟨p,kvs,rfl,.inl hp,e1,hd⟩
 |dcf ks' ds'=>
  cases e
  rcases h with h | ⟨_,_,_,h⟩
  ·cases h with
   |dcf e1 e2 e3 hs=>subst e3; exact ⟨_,_,rfl,.inr ⟨_,e1⟩,e2,hs⟩
  ·exact h.elim
 |_=>cases e
section
variable {X:Cx}{E:XK}
noncomputable def vQ (d k:D):Option D:=(dcK d).bind λc=>(ug k).bind (cQ c.1 c.2)
noncomputable def W5 (k d:D):Option Bool:=(dcK d).bind λc=>(ug k).map λk=>(cQ c.1 c.2 k).isSome
noncomputable def Jc (d e:D):Option Bool:=(W5 d e).map (!·)
theorem Mv {G:Gx}{O:Addr->Prop}{H:Hp}{k:List Kt}{kvs:List (List Kt×V)}{ds:List D}(hd:DVs G O H (kvs.map (·.2)) ds):(pY kvs k).isSome=(cQ (kvs.map (·.1)) ds k).isSome:=by
 rcases yO (k:=k) hd with ⟨_,_,a,b,_⟩ | ⟨a,b⟩ <;> simp [a,b]
theorem Vq {j:Nat}(hr:iR j X.A):OpR X (compareOp .NotIn) (rGB (gx X) Jc):=by
 intro pins s σ H x y v u Q I rx ry h
 obtain ⟨O,d,e,r,m,hx,hy,e1,q⟩:=h
 obtain ⟨c,e0,rfl⟩:=omap e1
 obtain ⟨⟨ks,ds⟩,ec,e3⟩:=Option.bind_eq_some_iff.mp e0
 obtain ⟨k,e2,rfl⟩:=omap e3
 obtain ⟨p,kvs,rfl,hp,rfl,hd⟩:=Ro hy ec
 obtain ⟨b,rfl,hb⟩:=qY hx e2
 cases ry
 refine WL (jF hr) I (.inr ⟨kvs,k,b,hp,rfl,hb,rfl⟩) rx λs' I'=>⟨.bl _,H,I',rfl,?_⟩
 rw [Mv hd]
 exact q
variable {a b:Expr}{fa fb:Me->Res D}{pos:Pos}
theorem Fe {j:Nat}(hr:iR j X.A)(ha:FB X E a fa)(hb:FB X E b fb)(hs:Xo b):FE X E (.Subscript a b pos) (au vQ fa fb):=
 bJ (Ld (jF hr) ha hb hs) λσ H Q hE=>xq5 hE λO0 M0 H0 ow m R q=>two (r:=λx y H Q=>∃a v,x=.ref a/\Em X.K H a y (some v)/\Q v H) R (K:=λz H=>∀v H',aL H H'->DV (gx X) (Ow O0 ow) H' v z->Q v H') q (λ_ _ k g v H' g' d=>k v H' (g.trans g') d) λx y d e H' g hx hy q' R'=>by
  obtain ⟨r,hr,k⟩:=q'.ofO
  obtain ⟨⟨ks,ds⟩,ec,hr⟩:=Option.bind_eq_some_iff.mp hr
  obtain ⟨ky,e2,e3⟩:=Option.bind_eq_some_iff.mp hr
  obtain ⟨p,kvs,rfl,hp,rfl,hd⟩:=Ro hx ec
  obtain ⟨b,rfl,hb⟩:=qY hy e2
  rcases yO (k:=ky) hd with ⟨v,d,a,c,dv⟩ | ⟨a,c⟩
  ·have e3:cQ (kvs.map (·.1)) ds ky=some r:=e3
   rw [c] at e3
   cases e3
   exact ⟨p,v,rfl,.inr ⟨kvs,ky,b,hp,rfl,hb,a.symm⟩,k _ _ (aL.refl _) dv⟩
  ·have e3:cQ (kvs.map (·.1)) ds ky=some r:=e3
   rw [c] at e3; cases e3
noncomputable def BK:Me->Res D:=λ_=>.ok (.dcu [] [])
theorem FZ:FN X E (.Dict [] [] pos) BK:=bJ T6 λσ H Q ⟨O0,M0,H0,ow,m,R,q⟩ p hp=>q p _ (bQ hp _) hp ⟨[],[],bA,rfl,rfl,.nil⟩
end
theorem zY (k:List Kt)(v:V):∀kvs:List (List Kt×V),(kvs.map λkv=>if kv.1=k then (kv.1,v) else kv).map (·.1)=kvs.map (·.1)
 |[]=>rfl
 |p::kvs=>by
  rw [List.map_cons,List.map_cons,List.map_cons,zY k v kvs]
  split <;> rfl
theorem uW {G:Gx}{O:Addr->Prop}{H:Hp}{k:List Kt}{v:V}{d:D}(h:DV G O H v d):∀{kvs:List (List Kt×V)} {ds:List D},DVs G O H (kvs.map (·.2)) ds->DVs G O H ((kvs.map λkv=>if kv.1=k then (kv.1,v) else kv).map (·.2)) (ur (kvs.map (·.1)) ds k d)
 |[],_,.nil=>.nil
 |(k',v')::kvs,_,.cons h1 hs=>by
  simp only [List.map_cons,ur]
  split
  ·exact .cons h (uW h hs)
  ·exact .cons h1 (uW h hs)
theorem Lq {G:Gx}{O:Addr->Prop}{H:Hp}{k:List Kt}{v:V}{d:D}{kvs:List (List Kt×V)}{ds:List D}(h:DV G O H v d)(hs:DVs G O H (kvs.map (·.2)) ds):
  (putK kvs k v).map (·.1)=(lA (kvs.map (·.1)) ds k d).1/\DVs G O H ((putK kvs k v).map (·.2)) (lA (kvs.map (·.1)) ds k d).2:=by
 have e:(kvs.any λkv=>decide (kv.1=k))=(kvs.map (·.1)).any λx=>decide (x=k):=by rw [List.any_map]; rfl
 unfold putK lA
 rw [e]
 split
 ·exact ⟨zY k v kvs,uW h hs⟩
 ·exact ⟨by simp,by rw [List.map_append]; exact jR hs (.cons h .nil)⟩
noncomputable def Bk (m:Me)(i:Nat):Option (Bool×List (List Kt)×List D):=match m[i]? with
 |some (.ow (.dcu ks ds))=>some (true,ks,ds)
 |some (.io (.dcu ks ds))=>some (false,ks,ds)
 |_=>none
noncomputable def rO (m:Me)(i:Nat)(k:Bool)(ks:List (List Kt))(ds:List D):Me:=m.set i (if k then .ow (.dcu ks ds) else .io (.dcu ks ds))
section
variable {G:Gx}{O0 M0:Addr->Prop}{H0:Hp}{ow:Os}{σ:L2.St}{H:Hp}{m:Me}
theorem Fb (R:Rel G O0 M0 H0 ow σ H m){i:Nat}{k:Bool}{ks:List (List Kt)}{ds:List D}(e:Bk m i=some (k,ks,ds)):∃a kvs,ow i=some a/\σ[i]? = some (some (.ref a))/\H a=some (.dT (KTp G.K) kvs)/\kvs.map (·.1)=ks/\DVs G (Ow O0 ow) H (kvs.map (·.2)) ds/\((m[i]? = some (.ow (.dcu ks ds))/\k=true)\/(m[i]? = some (.io (.dcu ks ds))/\k=false)):=by
 unfold Bk at e
 split at e
 ·rename_i q
  cases e
  obtain ⟨a,e1,e2,e3,kvs,vs,e4,e5,rfl,e6⟩:=R.slot i _ q
  exact ⟨a,kvs,e1,e3,e4,e5,e6,.inl ⟨q,rfl⟩⟩
 ·rename_i q
  cases e
  obtain ⟨a,e1,e2,e3,kvs,vs,e4,e5,rfl,e6⟩:=R.slot i _ q
  exact ⟨a,kvs,e1,e3,e4,e5,e6,.inr ⟨q,rfl⟩⟩
 ·cases e
theorem du.rO {i:Nat}{k:Bool}{a:Addr}{ks ls:List (List Kt)}{ds es:List D}{kvs:List (List Kt×V)}(R:du G O0 M0 H0 ow σ H m)(ho:ow i=some a)(hm:(m[i]? = some (.ow (.dcu ks ds))/\k=true)\/(m[i]? = some (.io (.dcu ks ds))/\k=false))
  (hk:kvs.map (·.1)=ls) (hd:DVs G (Ow O0 ow) H (kvs.map (·.2)) es):du G O0 M0 H0 ow σ (L2.upd H a (.dT (KTp G.K) kvs)) (F.rO m i k ls es)/\Go O0 ow H ow (L2.upd H a (.dT (KTp G.K) kvs)):=by
 have oa:Ow O0 ow a:=.inr ⟨i,ho⟩
 have kp:Kp (Ow O0 ow) H (L2.upd H a (.dT (KTp G.K) kvs)):=λb u e n=>o6 b u e λz=>n (z ▸ oa)
 have ov:OV G (Ow O0 ow) (L2.upd H a (.dT (KTp G.K) kvs)) a (.dcu ls es):=⟨kvs,_,L2.bA,hk,rfl,hd.kp R.mutk kp⟩
 refine ⟨R.chg (d:=.dcu ks ds) (d':=.dcu ls es) ho o6 ov ?_,Go.chg ho o6 ov⟩
 rcases hm with ⟨e,rfl⟩ | ⟨e,rfl⟩
 ·exact .inl ⟨e,rfl⟩
 ·exact .inr ⟨e,rfl⟩
end
noncomputable def Uc (i:Nat)(fk fv:Me->Res D):Me->Res (Fl×Me):=λm=>(fv m).bind λd=>(ofO (Bk m i)).bind λo=>(fk m).bind λk=>(ofO (ug k)).bind λk=>
 if o.2.1.length<sizeLine then .ok (.nx,rO m i o.1 (lA o.2.1 o.2.2 k d).1 (lA o.2.1 o.2.2 k d).2) else .stuck
section
variable {X:Cx}{E:XK}{e ke:Expr}{f fk:Me->Res D}{pos spos np:Pos}{x:Str}
theorem VP {jj:Nat}(i:Nat)(hr:iR jj X.A)(he:FE X E e f)(hk:FE X E ke fk)(hN:X.N[i]? = some x:=by rfl)(hv:Vis X.env.scope x:=by first | exact Or.inl rfl | exact Or.inr (Or.inl rfl) | exact Or.inr (Or.inr rfl))(hd:(x == ("__debug__" : Str))=false:=by decide)(hcd:(x == ("__classdict__" : Str))=false:=by decide)
  (hs:swapsWith e (some (.Subscript (.Name x np) ke spos)) pos.line X.env=pure false:=by rfl):FS X E (.Assign [.Subscript (.Name x np) ke spos] e pos) (Uc i fk f):=
 cM (yS (jF hr) (jC hN hv hd hcd) hk he hs) λW σ H hE=>xq5 hE λO0 M0 H0 ow m R q=>
  ⟨O0,M0,H0,ow,m,R.toRel,(Ss.pu R.toRel q).imp (aL.refl _) λd q v H1 g1 hv=>by
   obtain ⟨o,ho,q⟩:=Ss.ofO q
   obtain ⟨k,ks,ds⟩:=o
   have R1:=R.mono g1
   obtain ⟨a,kvs,e1,e2,e3,e4,e5,e6⟩:=Fb R1.toRel ho
   refine ⟨_,e2,O0,M0,H0,ow,m,R1.toRel,(Ss.pu R1.toRel (q.go (Go.refl g1))).imp (aL.refl _) λdk q vk H2 g2 hvk=>?_⟩
   obtain ⟨ky,h1,q⟩:=Ss.ofO q
   obtain ⟨b,rfl,hb⟩:=qY (.inl hvk) h1
   by_cases hz:ks.length<sizeLine
   ·rw [if_pos hz] at q
    have R2:=R1.mono g2
    obtain ⟨p1,p2⟩:=Lq (k:=ky) (hv.mono g2) (e5.mono g2)
    rw [e4] at p1 p2
    obtain ⟨R3,g3⟩:=R2.rO e1 e6 p1 p2
    exact ⟨a,_,rfl,Bs.t (g2 _ _ e3) hb (by rw [← List.length_map (f:=(·.1)),e4]; exact hz),q _ _ _ R3 ((Go.refl g2).trans g3)⟩
   ·rw [if_neg hz] at q; exact q.elim⟩
end
open PySem PySem.Spec PyProof.Rows L2 Hd
section
variable {X:Cx}{E:XK}{e:Expr}{f:Me->Res D}{pos:Pos}
end
open PySem PySem.Spec PyProof.Rows L2 Hd
section
variable {prog:Program}{w:World}{A:Around}{E:Value->Shared->Prop}{s:Shared}{d it:Addr}{es:Array DictEntry}{ep i:Nat}{o oi:Obj}
end
open PySem PySem.Spec PyProof.Rows L2 Hd
section
variable {X:Cx}{E:XK}{rest:List Stmt}{k:Me->Res (Fl×Me)}
end
section
variable {X:Cx}{tg:Expr}
end
open PySem PySem.Spec PyProof.Rows L2 Hd
section
variable {X:Cx}
end
noncomputable def met (f:Nat->Str):Nat->List Str
 |0=>[]
 |i+1=>if (met f i).any (· == f i) then met f i else met f i++[f i]
section
variable {pr:Program}{wo:World}{A:Around}{R:Result->Shared->Prop}{I:Addr}{fp wr:List Addr}{G:Array GenState->Array GenState->Prop}{n:Nat}{P:Nat->Value->Prop}{St:Nat->Shared->Prop}
end
section
variable {pr:Program}{wo:World}{A:Around}{E:Value->Shared->Prop}{s:Shared}
end
open PySem PySem.Spec PyProof.Rows L2 Hd
section
variable {X:Cx}
end
open PySem PySem.Spec PyProof.Rows L2 Hd
structure Wr (p:Prop):Prop where
 out:p
section
variable {X:Cx}{E:XK}{e a b c ke:Expr}{es:List Expr}{st:Stmt}{rest sa sb:List Stmt}{f fa fb fk:Me->Res D}{fs:Me->Res (List D)}{ft:Me->Res Bool}{gg k ga gb:Me->Res (Fl×Me)}{pos pos' apos cpos np spos p:Pos}{i:Nat}{x:Str}
theorem Kz (h1:Wr (FS X E st gg))(h2:Wr (FSs X E rest k)):Wr (FSs X E (st::rest) (aK gg k)):=⟨aB h1.out h2.out⟩
theorem abR (h1:Wr (FS X E st gg)):Wr (FSs X E [st] gg):=⟨aF h1.out⟩
theorem Yh (hN:X.N.Nodup)(hi:X.N[i]? = some x)(hx:Loc X.env.scope x)(he:Wr (FN X E e f))(hs:swapsWith e (some (.Name x pos')) pos.line X.env=pure false:=by rfl)
  (hf:X.fn x=true\/X.env.scope.names.lookup x=some .local:=by first | exact .inl rfl | exact .inr rfl | assumption):Wr (FS X E (.Assign [.Name x pos'] e pos) (jE i f)):=⟨kZ hN hi hx he.out hs hf⟩
theorem abh (h:Wr (FAE X E es fs)):Wr (FN X E (.List es pos) (gM fs)):=⟨gQ h.out⟩
end
open PySem PySem.Spec PyProof.Rows L2 Hd
section
variable {pr:Program}{wo:World}{A:Around}{E:Value->Shared->Prop}{s:Shared}{κ:Type}[DecidableEq κ]{kn:HeapKind pr wo κ}
theorem Vu {d a:Addr}{xs:List (κ×Addr×Value)}{k:κ}{v:Value}{Q:Value->Shared->Prop}(hu:kn.room A)(hk:kn.is s.heap k a)(hm:s.heap.DictOfH kn d xs)(hz:xs.length<=sizeLine)
  (old:∀p,atKey xs k=some p->Q p.2 { s with toks:=s.toks+kn.draws k })
  (new:atKey xs k=none->∀h',h'.DictOfH kn d (xs++[(k,a,v)])->Heap.SameBut d s.heap h'->Q v { s with heap:=h',toks:=s.toks+kn.draws k }):
  wpAny (model pr wo) A (dictSetDefault d (.ref a) v) Q E s:=by
 obtain ⟨o,es,ep,ho,hc,hd,he,hi,hn⟩:=id hm
 unfold dictSetDefault
 refine wpAny_holding (wpAny_bind (kn.pyHash hu hk (wpAny_bind (wpAny_dictFind_heap (s:={ s with toks:=s.toks+kn.draws k }) hu hk ho hd he hi hn (λno=>?_) λj p hj=>?_))))
 ·have h0:=atKey_none_of_get no
  have nk:=not_mem_keys_of_get no
  have es1:=size_of_entries he
  refine wpAny_bind (wpAny_rule (wpAny_bind (wpAny_updateDictKeys (hz:=by omega) (s:={ s with toks:=s.toks+kn.draws k }) ho hd (wpAny_pure (new h0 _ ⟨_,_,ep+1,Heap.get?_update_self _ ho (Obj.isFreed_of_dict (Obj.data_mapDictKeys hd _)),hc.mapDictKeys _,Obj.data_mapDictKeys hd _,?_,λy hy=>?_,?_⟩ (Heap.SameBut.update ..))))))
  ·simp [he,entryOfKey]
  ·rcases List.mem_append.mp hy with z | z
   ·exact kn.keeps (hi y z) ho hd (Heap.SameBut.update ..)
   ·rw [List.mem_singleton.mp z]
    exact kn.keeps hk ho hd (Heap.SameBut.update ..)
  ·rw [List.map_append,List.nodup_append]
   refine ⟨hn,by simp,λy hy z hz' e=>nk ?_⟩
   have e2:z=k:=List.mem_singleton.mp hz'
   rw [← e2,← e]
   exact hy
 ·refine wpAny_bind (wpAny_dictEntries (s:={ s with toks:=s.toks+kn.draws k }) ho hd ?_)
  rw [entry_at he j,hj]
  exact wpAny_bind (wpAny_rule (wpAny_pure (old p (atKey_of_get hn hj))))
theorem Rw {d a:Addr}{xs:List (κ×Addr×Value)}{k:κ}{v:Value}{Q:Value->Shared->Prop}(hu:kn.room A.in1)(hk:kn.is s.heap k a)(hm:s.heap.DictOfH kn d xs)(hz:xs.length<=sizeLine)(hd:(d == sysModules)=false)
  (old:∀p,atKey xs k=some p->Q p.2 { s with toks:=s.toks+kn.draws k })
  (new:atKey xs k=none->∀h',h'.DictOfH kn d (xs++[(k,a,v)])->Heap.SameBut d s.heap h'->Q v { s with heap:=h',toks:=s.toks+kn.draws k }):
  wpAny (model pr wo) A (call (.builtin "dict.setdefault") [.ref d,.ref a,v]) Q E s:=by
 refine wpAny_call_entry PySem.F.slot_dict_setdefault hm.typeIs PySem.F.entry_dict_setdefault ?_ (PySem.F.args_dict_setdefault_3 _ _ _)
 unfold Builtin.«dict.setdefault»
 refine wpAny_bind ?_
 unfold Builtin.Dict.keyAndDefault
 refine wpAny_bind (wpAny_notOrdered_dict hm.typeIs ?_)
 show wpAny _ _ (pure (d,Value.ref a,some v)) _ _ s
 refine wpAny_pure ?_
 show wpAny _ _ (if (d == sysModules)=true then _ else (dictSetDefault d (.ref a) v >>= _)) _ _ s
 rw [if_neg (by rw [hd]; exact Bool.false_ne_true)]
 exact wpAny_bind (Vu hu hk hm hz (λp e=>wpAny_pure ⟨p.2,rfl,old p e⟩) λe h' x y=>wpAny_pure ⟨v,rfl,new e h' x y⟩)
end
noncomputable def acH (K:W.Frag)(td ty tx:TE):TE:=λσ H Q=>td σ H λx H1=>∃a,x=.ref a/\IsD K H1 a/\ty σ H1 λy H2=>tx σ H2 λz H3=>∃kvs k b,H3 a=some (.dT (KTp K) kvs)/\y=.ref b/\TrT (KTp K) H3 b k/\kvs.length<sizeLine/\
 (∀v,pY kvs k=some v->Q v H3)/\(pY kvs k=none->Q z (upd H3 a (.dT (KTp K) (kvs++[(k,z)]))))
section
variable {X:Cx}{o e f:Expr}{apos cpos:Pos}{td ty tx:TE}
theorem UT (hu:X.A.units+16<cLine)(ho:PE X o td)(he:PE X e ty)(hf:PE X f tx)(m:M2 X o "setdefault" apos e f cpos):PE X (.Call (.Attribute o "setdefault" apos) [e,f] [] cpos) (acH X.K td ty tx):=by
 intro pins s σ H Q I h
 refine wpAny_Call_method m.base m.few m.line PySem.F.plainAttrs_dict PySem.F.slot_dict_setdefault PySem.F.type_dict_setdefault (thn (ho pins s σ H _ I h) λu s1 ⟨x,H1,I1,rx,a,ex,d,q1⟩=>?_)
 subst ex
 cases (show u=Value.ref a from rx)
 obtain ⟨t1,t2,_⟩:=ZK I1 d
 refine ⟨t1,t2,?_⟩
 rw [m.trees]
 refine Calls.callWith_builtin rfl (Calls.evalArgs_plain (Calls.spliced_cons (thn (he pins s1 σ H1 _ I1 q1) λiv s2 hE=>xq2 hE λy H2 I2 ry q2=>
  Calls.spliced_cons (thn (hf pins s2 σ H2 _ I2 q2) λfv s3 ⟨z,H3,I3,rz,kvs,k,b,e3,ey,eb,l,q3,q4⟩=>Calls.spliced_nil ?_))))
 subst ey
 cases (show iv=Value.ref b from ry)
 obtain ⟨sz,hd,xs,rel,dd⟩:=RG (Ac I3) I3.hok e3
 have hz:xs.length<=sizeLine:=by rw [← Paired.length rel]; exact sz
 have rv:=rel.val k
 refine Rw (tU hu) (xM I3 eb) dd hz hd (λp hp=>?_) λhn h' dd' hs=>?_
 ·rw [hp] at rv
  cases ev:pY kvs k with
  |none=>rw [ev] at rv; cases rv
  |some v=>
   rw [ev] at rv
   exact ⟨v,H3,I3.tok _,rv,q3 v ev⟩
 ·rw [hn] at rv
  cases ev:pY kvs k with
  |some v=>rw [ev] at rv; cases rv
  |none=>
   have rp:=rel.put k eb rz
   rw [Ue _ ev,storedH_new hn] at rp
   obtain ⟨q,es,ep,hq,h2,h3,h4,_,h5⟩:=dd'
   refine ⟨z,upd H3 a (.dT (KTp X.K) (kvs++[(k,z)])),vo I3 (by rw [e3]; exact True.intro) hs ⟨q,hq⟩ ⟨by rw [List.length_append,List.length_singleton]; omega,hd,_,rp.keeps λc ys ec=>?_,q,es,ep,hq,h2,h3,h4,h5⟩,rz,q4 ev⟩
   rw [cO (Tz ec e3 (λz=>nomatch z))]
   exact ec
end
noncomputable def Vw (i:Nat)(fk fv:Me->Res D):Me->Res (Fl×Me):=λm=>(ofO (Bk m i)).bind λo=>(fk m).bind λk=>(fv m).bind λd=>(ofO (ug k)).bind λk=>
 if o.2.1.length<sizeLine then .ok (.nx,if (cQ o.2.1 o.2.2 k).isSome then m else rO m i o.1 (o.2.1++[k]) (o.2.2++[d])) else .stuck
section
variable {X:Cx}{E:XK}{e ke:Expr}{f fk:Me->Res D}{pos np apos cpos:Pos}{x:Str}
theorem aaj {jj:Nat}(i:Nat)(hr:iR jj X.A)(hk:FE X E ke fk)(he:FE X E e f)(hm:M2 X (.Name x np) "setdefault" apos ke e cpos)(hN:X.N[i]? = some x:=by rfl)(hv:Vis X.env.scope x:=by first | exact Or.inl rfl | exact Or.inr (Or.inl rfl) | exact Or.inr (Or.inr rfl))(hd:(x == ("__debug__" : Str))=false:=by decide)(hcd:(x == ("__classdict__" : Str))=false:=by decide)
  (hsw:swapsWith (.Call (.Attribute (.Name x np) "setdefault" apos) [ke,e] [] cpos) none pos.line X.env=pure false:=by rfl):FS X E (.Expr (.Call (.Attribute (.Name x np) "setdefault" apos) [ke,e] [] cpos) pos) (Vw i fk f):=
 cM (vW (UT (jF hr) (jC hN hv hd hcd) hk he hm) hsw) λW σ H hE=>xq5 hE λO0 M0 H0 ow m R q=>by
  obtain ⟨o,ho,q⟩:=Ss.ofO q
  obtain ⟨k,ks,ds⟩:=o
  obtain ⟨a,kvs,e1,e2,e3,e4,e5,e6⟩:=Fb R.toRel ho
  refine ⟨_,e2,a,rfl,.inr ⟨kvs,.inl e3⟩,O0,M0,H0,ow,m,R.toRel,(Ss.pu R.toRel q).imp (aL.refl _) λdk q vk H1 g1 hvk=>?_⟩
  have R1:=R.mono g1
  refine ⟨O0,M0,H0,ow,m,R1.toRel,(Ss.pu R1.toRel (q.go (Go.refl g1))).imp (aL.refl _) λd q v H2 g2 hv=>?_⟩
  obtain ⟨ky,h1,q⟩:=Ss.ofO q
  obtain ⟨b,rfl,hb⟩:=qY (.inl (hvk.mono g2)) h1
  have R2:=R1.mono g2
  have e3':=g2 _ _ (g1 _ _ e3)
  have e5':=(e5.mono g1).mono g2
  have uf:=Mv (k:=ky) e5'
  rw [e4] at uf
  by_cases hz:ks.length<sizeLine
  ·rw [if_pos hz] at q
   refine ⟨kvs,ky,b,e3',rfl,hb,by rw [← List.length_map (f:=(·.1)),e4]; exact hz,λv' ev=>?_,λev=>?_⟩
   ·rw [ev] at uf
    rw [← uf] at q
    exact q _ _ _ R2 (Go.refl g2)
   ·rw [ev] at uf
    rw [← uf] at q
    obtain ⟨R3,g3⟩:=R2.rO (ls:=ks++[ky]) (es:=ds++[d]) (kvs:=kvs++[(ky,v)]) e1 e6 (by simp [e4]) (by rw [List.map_append]; exact jR e5' (.cons hv .nil))
    exact q _ _ _ R3 ((Go.refl g2).trans g3)
  ·rw [if_neg hz] at q; exact q.elim
end
open PySem PySem.Spec PyProof.Rows L2 Hd
noncomputable def yt (h:Heap)(d:Addr)(es:Array DictEntry)(ep:Nat):Prop:=∃o,h.get? d=some o/\o.ExactDict/\o.data=.dict es ep
section
variable {prog:Program}{w:World}{A:Around}{E:Value->Shared->Prop}{s:Shared}{d it v:Addr}{es:Array DictEntry}{ep i:Nat}
theorem yt.ty (x:yt s.heap d es ep):s.TypeIs (.ref d) "dict":=let ⟨o,h,c,_⟩:=x; ⟨o,h,c.1⟩
theorem yt.up {h h':Heap}(x:yt h d es ep)(k:∀o,h.get? d=some o->h'.get? d=some o):yt h' d es ep:=let ⟨o,e,r⟩:=x; ⟨o,k o e,r⟩
theorem S7 {Q:Value->Shared->Prop}(nd:(d == sysModules)=false)(x:yt s.heap d es ep)
  (k:Q (.ref s.heap.objs.size) { s with heap:=s.heap.push { cls:=.type "dict_values",data:=.fields #[.ref d] } }):wpAny (model prog w) A (call (.builtin "dict.values") [.ref d]) Q E s:=by
 refine wpAny_call_entry PySem.F.slot_dict_values x.ty PySem.F.entry_dict_values ?_ (PySem.F.args_dict_values_1 _)
 refine wpAny_bind ?_
 unfold Builtin.Dict.noArgs
 refine wpAny_bind (wpAny_notOrdered_dict x.ty (show wpAny _ _ (pure d) _ _ s from wpAny_pure ?_))
 show wpAny _ _ (Builtin.Dict.showsAll d >>= _) _ _ s
 unfold Builtin.Dict.showsAll
 rw [if_neg (λz=>by rw [nd] at z; cases z)]
 exact wpAny_bind (wpAny_pure (wpAny_bind (wpAny_newObj_type (wpAny_pure ⟨_,rfl,k⟩))))
theorem abq {Q:Value->Shared->Prop}(hv:s.heap.IsValuesView v d)(x:yt s.heap d es ep)
  (k:Q (.ref s.heap.objs.size) { s with heap:=s.heap.push { cls:=.type "dict_valueiterator",data:=.fields #[.ref d,.int 0 0,.int es.size 0,.int ep 0] } }):wpAny (model prog w) A (pyIter (.ref v)) Q E s:=by
 obtain ⟨q,hq,hc,hf⟩:=id hv
 obtain ⟨o,ho,hx,ht⟩:=id x
 have no:Builtin.Dict_items.ownsTuple "dict_valueiterator" = false:=by decide
 refine wpAny_pyIter_slot hv.typeIs PySem.F.slot_dict_values_iter (wpAny_call_entry PySem.F.slot_dict_values_iter hv.typeIs PySem.F.entry_dict_values_iter ?_ (PySem.F.args_dict_values_iter_1 _))
 unfold Builtin.«dict_values.__iter__»
 refine wpAny_bind (wpAny_pure (wpAny_bind ?_))
 unfold Builtin.Dict_items.dictOf
 refine wpAny_bind (wpAny_field hq hf (x:=.ref d) rfl (wpAny_pure (wpAny_bind ?_)))
 unfold Builtin.Dict_items.newIterator
 refine wpAny_bind (wpAny_dictEntries ho ht (wpAny_bind (wpAny_dictEpoch ho ht ?_)))
 simp only [no,Bool.false_eq_true,if_false]
 exact wpAny_newObj_type (wpAny_pure ⟨_,rfl, "dict_valueiterator",_,⟨_,Heap.get?_push_size _ rfl,rfl⟩,PySem.F.slot_dict_valueiterator_next.lookup,by simpa [rawInt] using k⟩)
theorem aa7 {Q:Option Value->Shared->Prop}(hit:s.heap.IsValIter it d i es.size ep)(x:yt s.heap d es ep)
  (lt:i<es.size) (go:∀h',h'.IsValIter it d (i+1) es.size ep->Heap.SameBut it s.heap h'->Q (some es[i].val) { s with heap:=h' }):wpAny (model prog w) A (pyNext (.ref it)) Q E s:=by
 obtain ⟨q,hq,hc,hf⟩:=id hit
 obtain ⟨o,ho,hx,ht⟩:=id x
 have ty:=hit.typeIs
 have e1:es[i]? = some es[i]:=Array.getElem?_eq_getElem lt
 have no:Builtin.Dict_items.ownsTuple "dict_valueiterator" = false:=by decide
 have turned:(s.heap.update it (Obj.mapFields (·.setIfInBounds 1 (rawInt ((i:Int)+1))))).IsValIter it d (i+1) es.size ep:=
  ⟨_,Heap.get?_update_self _ hq (Obj.isFreed_of_fields (Obj.data_mapFields hf _)),(Obj.cls_mapFields ..).trans hc,by rw [Obj.data_mapFields hf]; simp [rawInt]⟩
 have fin:=go _ turned (Heap.SameBut.update ..)
 unfold pyNext
 refine wpAny_bind (wpAny_attempt (wpAny_callSpecial?_slot (name:=Str.ofString "__next__") ty PySem.F.slot_dict_valueiterator_next (wpAny_call_entry PySem.F.slot_dict_valueiterator_next ty PySem.F.entry_dict_valueiterator_next ?_ (PySem.F.args_dict_valueiterator_next_1 _))))
 refine wpAny_bind (wpAny_pure (wpAny_bind (wpAny_bind ?_)))
 first
 |refine wpAny_bind (wpAny_typeNameOfWhole_valiter ty (wpAny_pure (wpAny_bind (wpAny_fieldsOf hq hf ?_))))
 |refine wpAny_bind (wpAny_typeNameOf_valiter ty (wpAny_pure (wpAny_bind (wpAny_fieldsOf hq hf ?_))))
 simp only [no,Bool.false_eq_true,if_false]
 show wpAny _ _ (if (Value.ref d == Value.none)=true then _ else _) _ _ s
 rw [if_neg (λz=>by cases (show false=true from z))]
 refine wpAny_bind (wpAny_pure (wpAny_bind (wpAny_dictEntries ho ht ?_)))
 rw [if_neg (by simp)]
 refine wpAny_bind (wpAny_pure (wpAny_bind (wpAny_dictEpoch ho ht ?_)))
 rw [if_neg (by simp)]
 refine wpAny_pure ?_
 simp only [show ¬((i:Int)<0) by omega,if_false,Int.toNat_natCast,e1]
 refine wpAny_bind ?_
 first
 |refine wpAny_bind (wpAny_typeNameOfWhole_valiter ty (wpAny_pure (wpAny_bind (wpAny_isOneOf_valiter ty ?_))))
 |refine wpAny_bind (wpAny_typeNameOf_valiter ty (wpAny_pure (wpAny_bind (wpAny_isOneOf_valiter ty ?_))))
 show wpAny _ _ (setField (.ref it) 1 (rawInt ((i:Int)+1)) >>= _) _ _ s
 refine wpAny_bind (wpAny_setField hq hf (by simp) (wpAny_bind (wpAny_holding ?_)))
 refine wpAny_bind (wpAny_isOneOf_valiter (s:={ s with heap:=s.heap.update it (Obj.mapFields (·.setIfInBounds 1 (rawInt ((i:Int)+1)))) }) turned.typeIs ?_)
 refine wpAny_bind (wpAny_isOneOf_valiter (s:={ s with heap:=s.heap.update it (Obj.mapFields (·.setIfInBounds 1 (rawInt ((i:Int)+1)))) }) turned.typeIs ?_)
 exact (show wpAny _ _ (pure es[i].val) _ _ _ from wpAny_pure (wpAny_pure ⟨_,rfl,wpAny_pure fin⟩))
theorem Pb {Q:Option Value->Shared->Prop}(hh:A.handled=none)(hit:s.heap.IsValIter it d es.size es.size ep)(x:yt s.heap d es ep)
  (go:∀h',Heap.ExtBut it s.heap h'->Q none { s with heap:=h' }):wpAny (model prog w) A (pyNext (.ref it)) Q E s:=by
 obtain ⟨q,hq,hc,hf⟩:=id hit
 obtain ⟨o,ho,hx,ht⟩:=id x
 have ty:=hit.typeIs
 have e1:es[es.size]? = none:=Array.getElem?_eq_none (Nat.le_refl _)
 have no:Builtin.Dict_items.ownsTuple "dict_valueiterator" = false:=by decide
 unfold pyNext
 refine wpAny_bind (wpAny_attempt (wpAny_callSpecial?_slot (name:=Str.ofString "__next__") ty PySem.F.slot_dict_valueiterator_next (wpAny_call_entry PySem.F.slot_dict_valueiterator_next ty PySem.F.entry_dict_valueiterator_next ?_ (PySem.F.args_dict_valueiterator_next_1 _))))
 refine wpAny_bind (wpAny_pure (wpAny_bind (wpAny_bind ?_)))
 first
 |refine wpAny_bind (wpAny_typeNameOfWhole_valiter ty (wpAny_pure (wpAny_bind (wpAny_fieldsOf hq hf ?_))))
 |refine wpAny_bind (wpAny_typeNameOf_valiter ty (wpAny_pure (wpAny_bind (wpAny_fieldsOf hq hf ?_))))
 simp only [no,Bool.false_eq_true,if_false]
 show wpAny _ _ (if (Value.ref d == Value.none)=true then _ else _) _ _ s
 rw [if_neg (λz=>by cases (show false=true from z))]
 refine wpAny_bind (wpAny_pure (wpAny_bind (wpAny_dictEntries ho ht ?_)))
 rw [if_neg (by simp)]
 refine wpAny_bind (wpAny_pure (wpAny_bind (wpAny_dictEpoch ho ht ?_)))
 rw [if_neg (by simp)]
 refine wpAny_pure ?_
 simp only [show ¬((es.size:Int)<0) by omega,if_false,Int.toNat_natCast,e1]
 refine wpAny_bind ?_
 first
 |refine wpAny_bind (wpAny_typeNameOfWhole_valiter ty (wpAny_pure ?_))
 |refine wpAny_bind (wpAny_typeNameOf_valiter ty (wpAny_pure ?_))
 show wpAny _ _ (setField (.ref it) 0 .none >>= _) _ _ s
 refine wpAny_bind (wpAny_setField hq hf (by simp) (show wpAny _ _ (newExc (.type "StopIteration") [] >>= _) _ _ _ from wpAny_bind ?_))
 simp only [newExc,newTuple]
 refine wpAny_bind (wpAny_newObj_type (wpAny_bind (m:=firstArgMember _ _) (wpAny_of_eq (a:=Value.none) (by first | rfl | (simp only [firstArgMember]; rfl)) (wpAny_newObj_type ?_ (by size_fits)))) (by size_fits))
 simp only [raiseNew]
 refine wpAny_bind (wpAny_handled ?_)
 rw [show A.in1.handled=none from hh]
 refine wpAny_bind (wpAny_pure (wpAny_throw (wpAny_bind ?_)))
 refine wpAny_isInstance (T:="StopIteration") (b:=true) ⟨_,Heap.get?_push_size _ rfl,rfl⟩ isSubtype_stop (wpAny_pure ?_)
 exact go _ (((Heap.SameBut.update ..).extBut.push _).push _)
theorem abS (hh:A.handled=none)(ne:d≠it):Walks prog w A it [it,d] [it] es.size (λi v=>∃e,es[i]? = some e/\v=e.val) (λi h=>h.IsValIter it d i es.size ep/\yt h d es ep) where
 sub:=λb hb=>by simp at hb; simp [hb]
 frame:=λ_ _ _ st hk=>⟨let ⟨o,e,r⟩:=st.1; ⟨o,hk it (by simp) o e,r⟩,st.2.up λo e=>hk d (by simp) o e⟩
 item:=λi s Q E hi st go=>aa7 st.1 st.2 hi λh' a b=>go _ h' s.toks ⟨_,Array.getElem?_eq_getElem hi,rfl⟩ ⟨a,st.2.up λo e=>(b.2 d ne).trans e⟩ λc o hc e=>(b.2 c λz=>hc (by simp [z])).trans e
 done:=λs Q E st go=>Pb hh st.1 st.2 λh' a=>go h' s.toks λc o hc e=>a c o (λz=>hc (by simp [z])) e
 self:=λ_ _ _ _ st k=>wpAny_pyIter_valiter st.1 k
end
open PySem PySem.Spec PyProof.Rows L2 Hd
section
variable {X:Cx}
noncomputable def DX (p a:Addr)(h:Heap):Prop:=h.IsValuesView p a
theorem UJ {pins:List (Addr×Obj)}{σ:L2.St}{H:Hp}{s:Shared}{a:Addr}{T:Addr->List V->Prop}{kvs:List (List Kt×V)}(I:Inv X pins σ H s)(e:H a=some (.dT T kvs)):
  kvs.length<=sizeLine/\(a == sysModules)=false/\∃es ep,yt s.heap a es ep/\es.size=kvs.length/\Vals (kvs.map (·.2)) (es.toList.map (·.val)):=by
 obtain ⟨hz,hd,xs,rel,o,es,ep,ho,hx,ht,he,nd⟩:=I.hok a _ e
 refine ⟨hz,hd,es,ep,⟨o,ho,hx,ht⟩,?_,?_⟩
 ·rw [size_of_entries he,Paired.length rel]
 ·rw [he,List.map_map]
  clear he hz hd nd e
  induction rel with
  |nil=>exact .nil
  |cons h _ ih=>exact .cons h.2.2 ih
noncomputable def aaU (X:Cx):V->List V->Hp->VK->Prop:=λx vs H Q=>∃a kvs,x=.ref a/\vs=[]/\H a=some (.dT (KTp X.K) kvs)/\∀p,H p=none->Q (.ref p) (upd H p (.ext (DX p a)))
theorem Xq:MtR X "dict.values" (aaU X):=by
 intro pins s σ H x vs v us Q I rx rv h
 obtain ⟨a,kvs,rfl,rfl,e,q⟩:=h
 cases rx
 have hus:=rv.zero
 subst hus
 obtain ⟨hz,hd,es,ep,x,_⟩:=UJ I e
 refine S7 hd x ?_
 refine ⟨.ref _,_,I.laid (t':=s.toks) (λb o e=>Heap.get?_push_of_some _ e) (Nat.le_refl _) (show eE X.prog X.w _ _ _ (.ext (DX s.heap.objs.size a)) from ⟨⟨_,Heap.get?_push_size _ rfl,rfl,rfl⟩,⟨_,Heap.get?_push_size _ rfl⟩,λh1 h2 ⟨o,e,r⟩ k=>⟨o,k o e,r⟩⟩),rfl,q _ (I.hok.fresh (Nat.le_refl _))⟩
theorem abZ {r d:Addr}{es:Array DictEntry}{ep:Nat}:PySem.W.KdlSrc X.prog X.w "dict_values" r d es.size (λi v=>∃e,es[i]? = some e/\v=e.val) (λh=>h.IsValuesView r d/\yt h d es ep) where
 type:=λ_ m=>m.1.typeIs
 there:=λ_ m=>⟨let ⟨_,e,_⟩:=m.1; Heap.lt_size e,let ⟨_,e,_⟩:=m.2; Heap.lt_size e⟩
 keep:=λ_ _ m k=>⟨let ⟨o,e,x⟩:=m.1; ⟨o,k r (.inl rfl) o e,x⟩,m.2.up λo e=>k d (.inr rfl) o e⟩
 notList:=by decide
 notTuple:=by decide
 hint:=λ_ _ _ _ m q=>PySem.W.kdl_hint_values m.1.typeIs q
 iter:=λ_ _ hh m=>⟨_,_,(λ_ _ q=>abq m.1 m.2 q),abS hh (let ⟨_,e,_⟩:=m.2; Nat.ne_of_lt (Heap.lt_size e)),⟨⟨_,Heap.get?_push_size _ rfl,rfl,rfl⟩,m.2.up λo e=>Heap.get?_push_of_some _ e⟩⟩
noncomputable def rLV (X:Cx):List V->Hp->VK->Prop:=λxs H Q=>∃p a kvs,xs=[.ref p]/\H p=some (.ext (DX p a))/\H a=some (.dT (KTp X.K) kvs)/\∀l,H l=none->Q (.ref l) (upd H l (.lst (kvs.map (·.2))))
theorem JK (hc:X.calm=true):kJ X (.type "list") (rLV X):=by
 intro pins s σ H xs us Q I r h
 obtain ⟨p,a,kvs,rfl,hp,e,q⟩:=h
 obtain ⟨u,rfl,rx⟩:=vals1 r
 cases rx
 obtain ⟨hz,hd,es,ep,x,sz,rel⟩:=UJ I e
 obtain ⟨vw,_⟩:=I.hok p _ hp
 refine PySem.W.kdl_call (abZ (ep:=ep)) (I.ok.hd hc) ⟨vw,x⟩ (by omega) λh' tk acc c kp oS it=>?_
 have ea:acc.toList=es.toList.map (·.val):=by
  obtain ⟨z,h⟩:=it
  refine List.ext_getElem (by simp [z]) λi h1 h2=>?_
  obtain ⟨y,ey,ev⟩:=h i acc[i] (by simp at h1; simp [h1])
  obtain ⟨lt,ey⟩:=Array.getElem?_eq_some_iff.mp ey
  simp only [Array.getElem_toList,List.getElem_map]
  rw [ev,ey]
 refine ⟨.ref _,_,I.laid (t':=tk) kp (Nat.le_refl _) (show eE X.prog X.w _ h' _ (.lst (kvs.map (·.2))) from ⟨by rw [List.length_map]; exact hz,es.toList.map (·.val),c,rel,?_⟩),rfl,q _ (I.hok.fresh (Nat.le_refl _))⟩
 rw [← ea]
 simpa using oS
end
noncomputable def JF (fo:Me->Res D):Me->Res D:=λm=>(fo m).bind λd=>match d with
 | .dcu _ ds=>.ok (.lst ds)
 |_=>.stuck
section
variable {X:Cx}{E:XK}{o:Expr}{fo:Me->Res D}{p pos apos cpos:Pos}
theorem RB (hc:X.calm=true)(hg:Gl X "list")(hm:X.mg "list" = none)(ho:FB X E o fo)(hbase:attributeBase o "values" X.env (eval o X.env)=eval o X.env:=by rfl)(hline:(apos.endLine == cpos.line)=true:=by rfl)
  (hs:starEach [.Call (.Attribute o "values" apos) [] [] cpos] X.env=(false,eval (.Call (.Attribute o "values" apos) [] [] cpos) X.env)::starEach [] X.env:=by rfl):
  FN X E (.Call (.Name "list" p) [.Call (.Attribute o "values" apos) [] [] cpos] [] pos) (JF fo):=
 bJ (xf (JK hc) hg hm qO (jQ (TJ PySem.F.plainAttrs_dict PySem.F.slot_dict_values PySem.F.type_dict_values Xq ho hbase hline) rA hs) (by decide) (by decide) hs rfl) λσ H Q h=>by
  obtain ⟨O0,M0,H0,ow,m,R,q⟩:=h
  refine ⟨O0,M0,H0,ow,m,R,q.bind.imp (aL.refl _) λd q v H1 g1 hv=>?_⟩
  cases d with
  |dcu ks ds=>
   obtain ⟨a,kvs,rfl,e,e1,hd⟩:∃a kvs,v=.ref a/\H1 a=some (.dT (KTp X.K) kvs)/\kvs.map (·.1)=ks/\DVs (gx X) (Ow O0 ow) H1 (kvs.map (·.2)) ds:=by
    rcases hv with hv | ⟨a,rfl,_,hv⟩
    ·cases hv with
     |dcu n e a b hs=>subst b; exact ⟨_,_,rfl,e,a,hs⟩
    ·obtain ⟨kvs,vs,e,a1,b1,hs⟩:=hv
     subst b1
     exact ⟨a,kvs,rfl,e,a1,hs⟩
   refine ⟨.inr (.inr (.inl ⟨rfl,.inr ⟨_,kvs,.inl e⟩⟩)),a,kvs,rfl,rfl,e,λb hb=>?_⟩
   have ne:a≠b:=λz=>by rw [z,hb] at e; cases e
   refine ⟨b,a,kvs,rfl,bA,by rw [cO ne]; exact e,λl hl=>?_⟩
   have nb:l≠b:=λz=>by rw [z,bA] at hl; cases hl
   have hl1:H1 l=none:=by rw [cO nb] at hl; exact hl
   have gg:aL H1 (upd (upd H1 b (.ext (DX b a))) l (.lst (kvs.map (·.2)))):=(bQ hb _).trans (bQ hl _)
   exact q l _ (g1.trans gg) (g1.free hl1) ⟨_,bA,(hd.cu λc z=>z.elim .inl λe=>.inr (by rw [e]; exact hl1)).mono gg⟩
  |_=>exact q.elim
end
open PySem PySem.Spec PyProof.Rows L2 Hd
noncomputable def aab (K:W.Frag)(tk tv:TE):TE:=λσ H Q=>∀p,H p=none->tk σ (upd H p (.dT (KTp K) [])) λx H1=>tv σ H1 λy H2=>
 H2 p=some (.dT (KTp K) [])/\∃ks b,x=.ref b/\TrT (KTp K) H2 b ks/\Q (.ref p) (upd H2 p (.dT (KTp K) [(ks,y)]))
section
variable {X:Cx}{k v:Expr}{pos:Pos}{tk tv:TE}
theorem Te (hu:X.A.units+16<cLine)(hk:PE X k tk)(hv:PE X v tv):PE X (.Dict [some k] [v] pos) (aab X.K tk tv):=by
 intro pins s σ H Q I q
 have hn:=I.hok.fresh (Nat.le_refl s.heap.objs.size)
 have I1:=I.laid (a:=s.heap.objs.size) (o:=.dT (KTp X.K) []) (h':=s.heap.push { cls:=.type "dict",data:=.dict #[] }) (t':=s.toks) (λ_ _ q=>Heap.get?_push_of_some _ q) (Nat.le_refl _) (Hl s.heap I.big)
 have pl:(pairTrees [some k] [v] X.env pos).length=1:=pairTrees_length [some k] [v] X.env pos rfl rfl
 rw [arm_eval_Dict,zip_pairTrees [some k] [v] X.env pos rfl rfl,dictDisplay_pairs _ (λz=>by rw [z] at pl; cases pl) (by rw [pl]; decide)]
 refine wpAny_bind (wpAny_standAt (wpAny_bind ?_))
 unfold subDict
 refine wpAny_bind (wpAny_alloc (wpAny_bind (wpAny_holding ?_)))
 rw [if_pos (by rw [pl]; decide)]
 refine wpAny_bind (pairTrees_cons_walk (thn (hk pins _ σ _ _ I1 (q _ hn)) λu s1 ⟨x,H1,J1,rx,q1⟩=>thn (hv pins s1 σ H1 _ J1 q1) λr s2 ⟨y,H2,I2,ry,e,ks,b,ex,eb,q2⟩=>pairTrees_nil_walk (wpAny_holding ?_)))
 subst ex
 cases (show u=Value.ref b from rx)
 obtain ⟨z,hd,xs,rel,dd⟩:=RG (Ac I2) I2.hok e
 cases rel
 rw [List.forIn_cons]
 refine wpAny_bind (wpAny_bind ?_)
 show wpAny _ _ (dictSet s.heap.objs.size (.ref b) r >>= _) _ _ s2
 refine (wpAny_bind (wpAny_dictSet_heap (hsz:=Nat.zero_le _) (show X.A.units+8<cLine by omega) (xM I2 eb) dd λh' dd' hs=>wpAny_pure ?_))
 dsimp only
 rw [List.forIn_nil]
 refine wpAny_pure (wpAny_pure (wpAny_pure (wpAny_pure ?_)))
 obtain ⟨qo,es,ep,hq,h2,h3,h4,_,h5⟩:=dd'
 refine ⟨.ref s.heap.objs.size,upd H2 s.heap.objs.size (.dT (KTp X.K) [(ks,y)]),vo I2 (by rw [e]; exact True.intro) hs ⟨qo,hq⟩ ⟨by show 1<=_; decide,hd,_,?_,qo,es,ep,hq,h2,h3,h4,h5⟩,rfl,q2⟩
 refine KT.keeps (H:=H2) (Paired.cons ⟨rfl,eb,ry⟩ .nil) λc ys ec=>?_
 rw [cO (Tz ec e (λz=>nomatch z))]
 exact ec
end
noncomputable def J6 (fk fv:Me->Res D):Me->Res D:=λm=>(fk m).bind λk=>(fv m).bind λd=>(ofO (ug k)).bind λks=>.ok (.dcu [ks] [d])
section
variable {X:Cx}{E:XK}{k v:Expr}{pos:Pos}{fk fv:Me->Res D}
theorem Ti {j:Nat}(hr:iR j X.A)(hk:FE X E k fk)(hv:FE X E v fv):FN X E (.Dict [some k] [v] pos) (J6 fk fv):=
 bJ (Te (jF hr) hk hv) λσ H Q ⟨O0,M0,H0,ow,m,R,q⟩ p hp=>by
  have g0:aL H (upd H p (.dT (KTp X.K) [])):=bQ hp _
  have R1:=R.more g0 hp (by rw [bA]; exact .inr (.inr ⟨(KTp X.K,[]),rfl⟩))
  refine ⟨Op O0 p,M0,H0,ow,m,R1,q.bind.imp g0 λkd q x H1 g1 hx=>⟨Op O0 p,M0,H0,ow,m,R1.mono g1,q.bind.imp (g0.trans g1) λd q y H2 g2 hy=>?_⟩⟩
  obtain ⟨ks,h1,q⟩:=q.bind.ofO
  obtain ⟨b,rfl,hb⟩:=qY (.inl (hx.mono g2)) h1
  have e2:H2 p=some (.dT (KTp X.K) []):=g2 _ _ (g1 _ _ bA)
  have R2:=(R1.mono g1).mono g2
  have kp:Kp (Ow (Op O0 p) ow) H2 (upd H2 p (.dT (KTp X.K) [(ks,y)])):=λc o e n=>by rw [cO (λz=>n (.inl (.inr z)))]; exact e
  refine ⟨e2,ks,b,rfl,hb,q p _ (λc o e=>?_) hp ⟨_,_,bA,rfl,rfl,.cons ((hy.kp R2.mutk kp).cu λc z=>.inl ?_) .nil⟩⟩
  ·rw [cO (λz=>by rw [z,hp] at e; cases e)]
   exact g2 _ _ (g1 _ _ (g0 _ _ e))
  ·rcases z with (z | z) | z
   ·exact .inl (.inl z)
   ·exact .inr z
   ·exact .inl (.inr z)
end
noncomputable def Du:List ((Me->Res D)×(Me->Res D))->Me->Res (List (D×D))
 |[],_=>.ok []
 |f::r,m=>(f.1 m).bind λk=>(f.2 m).bind λd=>(Du r m).bind λl=>.ok ((k,d)::l)
inductive DPs (G:Gx)(O:Addr->Prop)(H:Hp):List (V×V)->List (D×D)->Prop where
 |nil:DPs G O H [] []
 |cons {x y:V} {k d:D} {ps:List (V×V)} {l:List (D×D)}:DV G O H x k->DV G O H y d->DPs G O H ps l->DPs G O H ((x,y)::ps) ((k,d)::l)
theorem DPs.mono {G:Gx}{O:Addr->Prop}{H H':Hp}(g:aL H H'):∀{ps:List (V×V)} {l:List (D×D)},DPs G O H ps l->DPs G O H' ps l
 |_,_,.nil=>.nil
 |_,_,.cons a b r=>.cons (a.mono g) (b.mono g) (r.mono g)
noncomputable def Ih:List Key->List D->List (D×D)->Option (List Key×List D)
 |ks,ds,[]=>some (ks,ds)
 |ks,ds,p::r=>(qN p.1).bind λk=>Ih (putD ks ds k p.2).1 (putD ks ds k p.2).2 r
noncomputable abbrev RQ (X:Cx)(E:XK)(fs:List ((Me->Res D)×(Me->Res D))):List (TE×TE):=fs.map λf=>(tE (gx X) E f.1,tE (gx X) E f.2)
section
variable {X:Cx}{E:XK}
theorem QG {G:Gx}{O:Addr->Prop}{H:Hp}:∀{l:List (D×D)} {ps:List (V×V)} {ks rk:List Key} {ds rd:List D} {acc:List (Key×V)},DPs G O H ps l->Ih ks ds l=some (rk,rd)->acc.map (·.1)=ks->DVs G O H (acc.map (·.2)) ds->
  ∃kvs:List (Key×V),ps=kvs.map (λkv=>(kV kv.1,kv.2))/\(nY acc kvs).map (·.1)=rk/\DVs G O H ((nY acc kvs).map (·.2)) rd
 |_,_,ks,rk,ds,rd,acc,.nil,e,e1,e2=>by cases e; exact ⟨[],rfl,e1,e2⟩
 |_,_,ks,rk,ds,rd,acc,.cons (x:=x) (y:=y) a b r,e,e1,e2=>by
  obtain ⟨k,hk,e⟩:=Option.bind_eq_some_iff.mp e
  have ex:=Fo (.inl a) hk
  obtain ⟨p1,p2⟩:=Gf (k:=k) b e2
  rw [e1] at p1 p2
  obtain ⟨kvs,q1,q2,q3⟩:=QG (acc:=putK acc k y) r e p1 p2
  exact ⟨(k,y)::kvs,by rw [List.map_cons,← q1,ex],q2,q3⟩
theorem DPs.cu {G:Gx}{O O':Addr->Prop}{H:Hp}(s:∀b,O' b->O b\/H b=none):∀{ps:List (V×V)} {l:List (D×D)},DPs G O H ps l->DPs G O' H ps l
 |_,_,.nil=>.nil
 |_,_,.cons a b r=>.cons (a.cu s) (b.cu s) (r.cu s)
theorem DPs.len {G:Gx}{O:Addr->Prop}{H:Hp}:∀{ps:List (V×V)} {l:List (D×D)},DPs G O H ps l->ps.length=l.length
 |_,_,.nil=>rfl
 |_,_,.cons _ _ r=>by rw [List.length_cons,List.length_cons,r.len]
end
open PySem PySem.Spec PyProof.Rows L2 Hd
section
variable {pr:Program}{wo:World}{A:Around}{E:Value->Shared->Prop}{s:Shared}
end
section
variable {pr:Program}{wo:World}{κ:Type}[DecidableEq κ]{kn:KeyKind pr wo κ}{A:Around}{R:Result->Shared->Prop}{I:Addr}{fp wr:List Addr}{G:Array GenState->Array GenState->Prop}{n:Nat}{P:Nat->Value->Prop}{St:Nat->Shared->Prop}
end
section
variable {pr:Program}{wo:World}{κ:Type}[DecidableEq κ]{kn:KeyKind pr wo κ}{A:Around}{E:Value->Shared->Prop}{s:Shared}
end
open PySem PySem.Spec PyProof.Rows L2 Hd
section
variable {X:Cx}{pins:List (Addr×Obj)}{σ:L2.St}{H:Hp}{s:Shared}
end
open PySem PySem.Spec PyProof.Rows L2 Hd
section
variable {X:Cx}{pins:List (Addr×Obj)}{σ:L2.St}{H:Hp}{s:Shared}
end
open PySem PySem.Spec PyProof.Rows L2 Hd
section
variable {prog:Program}{w:World}{A:Around}{E:Value->Shared->Prop}{s:Shared}{d it v:Addr}{es:Array DictEntry}{ep i:Nat}
end
open PySem PySem.Spec PyProof.Rows L2 Hd
section
variable {prog:Program}{w:World}{A:Around}{E:Value->Shared->Prop}{s:Shared}{d it v:Addr}{es:Array DictEntry}{ep i:Nat}
end
section
variable {X:Cx}
end
section
variable {X:Cx}{E:XK}{o:Expr}{fo:Me->Res D}{p pos apos cpos:Pos}
end
section
variable {X:Cx}{tg:Expr}
end
open PySem PySem.Spec PyProof.Rows L2 Hd
noncomputable def Gq (m:Me)(i:Nat):Option (Bool×D):=match m[i]? with
 |some (.ow d)=>some (true,d)
 |some (.io d)=>some (false,d)
 |_=>none
noncomputable def yF (m:Me)(i:Nat)(k:Bool)(d:D):Me:=m.set i (if k then .ow d else .io d)
section
variable {G:Gx}{O0 M0:Addr->Prop}{H0:Hp}{ow:Os}{σ:L2.St}{H:Hp}{m:Me}
theorem Vv (R:Rel G O0 M0 H0 ow σ H m){i:Nat}{k:Bool}{d:D}(e:Gq m i=some (k,d)):∃a,ow i=some a/\σ[i]? = some (some (.ref a))/\OV G (Ow O0 ow) H a d/\((m[i]? = some (.ow d)/\k=true)\/(m[i]? = some (.io d)/\k=false)):=by
 unfold Gq at e
 split at e
 ·rename_i q
  cases e
  obtain ⟨a,e1,e2,e3,e4⟩:=R.slot i _ q
  exact ⟨a,e1,e3,e4,.inl ⟨q,rfl⟩⟩
 ·rename_i q
  cases e
  obtain ⟨a,e1,e2,e3,e4⟩:=R.slot i _ q
  exact ⟨a,e1,e3,e4,.inr ⟨q,rfl⟩⟩
 ·cases e
end
noncomputable def lX {α:Type}(p:Nat)(x:α)(l:List α):List α:=l.take p++x::l.drop p
theorem z9 {α:Type}{p:Nat}{x:α}{l:List α}:(lX p x l).length=l.length+1:=by
 simp [lX]; omega
theorem Mj {α:Type}{p:Nat}{x:α}{l:List α}(h:p<=l.length):(lX p x l)[p]? = some x:=by
 unfold lX
 rw [List.getElem?_append_right (by simp; omega)]
 simp [Nat.min_eq_left h]
theorem Le {α:Type}{p i:Nat}{x:α}{l:List α}(h:i<p)(hp:p<=l.length):(lX p x l)[i]? = l[i]?:=by
 unfold lX
 rw [List.getElem?_append_left (by simp; omega),List.getElem?_take_of_lt h]
theorem M9 {α:Type}{p i:Nat}{x:α}{l:List α}(h:p<=i)(hp:p<=l.length):(lX p x l)[i+1]? = l[i]?:=by
 unfold lX
 rw [List.getElem?_append_right (by simp; omega)]
 have:i+1 - (l.take p).length=(i - p)+1:=by simp [Nat.min_eq_left hp]; omega
 rw [this,List.getElem?_cons_succ,List.getElem?_drop]
 congr 1
 omega
noncomputable def qp (m:Me)(p:Nat):Option D:=match m[p]? with
 |some (.io d)=>some d
 |_=>none
theorem RD {m:Me}{p:Nat}{d:D}(h:qp m p=some d):m[p]? = some (.io d):=by
 unfold qp at h
 split at h
 ·rename_i q; cases h; exact q
 ·cases h
section
variable {P:Program}{w:World}{K:W.Frag}{mg:Str->Option Value}{base:Heap}
end
noncomputable def tAH (G:Gx)(E:XK)(i p:Nat)(f:Me->Res (List D)):TA:=λσ H Q=>∃O0 M0 H0 ow m a,Rel G O0 M0 H0 ow σ H m/\σ[i]? = some (some (.ref a))/\Pu G E (f m) H λds=>p<=ds.length/\∀us H',aL H H'->DVs G (Ow O0 ow) H' us ds->Q (lX p (.ref a) us) H'
noncomputable abbrev FAH (X:Cx)(E:XK)(es:List Expr)(i p:Nat)(f:Me->Res (List D)):Prop:=PA X es (tAH (gx X) E i p f)
section
variable {X:Cx}{E:XK}{e:Expr}{es:List Expr}{fa:Me->Res D}{fs:Me->Res (List D)}{i p:Nat}{y:Str}{np:Pos}
theorem tQ (ha:FAE X E es fs)(hN:X.N[i]? = some y:=by rfl)(hv:Vis X.env.scope y:=by first | exact Or.inl rfl | exact Or.inr (Or.inl rfl) | exact Or.inr (Or.inr rfl))(hd:(y == ("__debug__" : Str))=false:=by decide)(hcd:(y == ("__classdict__" : Str))=false:=by decide)
  (he:starEach (.Name y np::es) X.env=(false,eval (.Name y np) X.env)::starEach es X.env:=by rfl):FAH X E (.Name y np::es) i 0 fs:=
 pJ (jQ (jC hN hv hd hcd) ha he) λσ H Q ⟨O0,M0,H0,ow,m,a,R,ea,q⟩=>
  ⟨_,ea,O0,M0,H0,ow,m,R,q.imp (aL.refl _) λds q vs H' g hv=>q.2 vs H' g hv⟩
theorem v7 (ha:FE X E e fa)(hr:FAH X E es i p fs)(he:starEach (e::es) X.env=(false,eval e X.env)::starEach es X.env:=by rfl):FAH X E (e::es) i (p+1) (aj fa fs):=
 pJ (jQ ha hr he) λσ H Q ⟨O0,M0,H0,ow,m,a,R,ea,q⟩=>⟨O0,M0,H0,ow,m,R,q.bind.imp (aL.refl _) λd q v H1 g1 hv=>
  ⟨O0,M0,H0,ow,m,a,R.mono g1,ea,q.bind.imp g1 λds q=>⟨by have:=q.1; simpa using this,λus H2 g2 hus=>q.2 _ H2 (g1.trans g2) (.cons (hv.mono g2) hus)⟩⟩⟩
end
theorem Xs.at {G:Gx}{E:XK}{O0 M0:Addr->Prop}{H0 H H1:Hp}{ow:Os}{σ:L2.St}{α:Type}{r:Res (α×Me)}{k:α->Hp->Prop}(h:Xs G E O0 M0 H0 ow σ H r k)(g:aL H H1):Xs G E O0 M0 H0 ow σ H1 r k:=h.imp (Go.refl g) λ_ _ _ _ _ _ q=>q
open PySem PySem.Spec PyProof.Rows L2 Hd
noncomputable def Zn (i j:Nat)(fs:Me->Res (List D)):Me->Res (Fl×Me):=λm=>(fs m).bind λds=>match ds with
 |[d,e]=>.ok (.nx,(m.set i (.fz d)).set j (.fz e))
 |_=>.stuck
theorem Yu {X:Cx}{E:XK}{i j:Nat}{x y:Str}{a b:Expr}{fs:Me->Res (List D)}{px py pt pos:Pos}{kt k2 pt2}(hc:X.calm=true)(hN:X.N.Nodup)(hi:X.N[i]? = some x)(hj:X.N[j]? = some y)(hij:i≠j)
  (hx:X.env.scope.names.lookup x=some .local) (hy:X.env.scope.names.lookup y=some .local) (ha:FAE X E [a,b] fs)
  (hw:swappedStores [.Tuple [.Name x px,.Name y py] kt pt] (.Tuple [a,b] k2 pt2) X.env=pure (some [x,y]):=by rfl)
  (hs:swapsWithSole [.Tuple [.Name x px,.Name y py] kt pt] (.Tuple [a,b] k2 pt2) pos.line X.env=pure false:=by rfl):
  FS X E (.Assign [.Tuple [.Name x px,.Name y py] kt pt] (.Tuple [a,b] k2 pt2) pos) (Zn i j fs):=
 cM (YS hc hN hi hj hij hx hy ha hw hs) λW σ H hE=>xq5 hE λO0 M0 H0 ow m R q=>⟨O0,M0,H0,ow,m,R.toRel,(Ss.pu R.toRel q).imp (aL.refl _) λds q vs H' g hv=>by
  match ds,vs,hv,q with
  |[d,e],_,.cons (v:=v1) h1 (.cons (v:=v2) h2 .nil),q=>
   refine ⟨v1,v2,rfl,?_⟩
   have R1:=(R.mono g).set (i:=i) h1
   have R2:=R1.set (i:=j) (h2.cu λb z=>.inl z.sub)
   exact q _ _ _ R2 (((Go.refl g).trans Go.set).trans Go.set)⟩
open PySem PySem.Spec PyProof.Rows L2 Hd
section
variable {G:Gx}{O0 M0:Addr->Prop}{H0 H H':Hp}{ow:Os}{σ:L2.St}{m m':Me}
theorem du.many {ch:Nat->Prop}(R:du G O0 M0 H0 ow σ H m)(hl:m'.length=m.length)(old:∀i,¬ch i->m'[i]? = m[i]?)(g:Kp (λb=>∃i,ch i/\ow i=some b) H H')
  (new:∀i s,ch i->m'[i]? = some s->IW G (Ow O0 ow) M0 H0 (ow i) (σ[i]?) H' s/\∀d,s≠.bw d) (mu:∀i b,ch i->ow i=some b->gY (H' b)/\(H0 b=none\/M0 b)):du G O0 M0 H0 ow σ H' m'/\Go O0 ow H ow H':=by
 have mn:∀b,gY (H' b)->H' b≠none:=λb z w=>by rw [w] at z; rcases z with ⟨_,e⟩ | ⟨_,e⟩ | ⟨_,e⟩ <;> cases e
 have kp:Kp (Ow O0 ow) H H':=λb u e n=>g b u e λ⟨i,_,z⟩=>n (.inr ⟨i,z⟩)
 have dom:∀b,H b≠none->H' b≠none:=λb n=>by
  by_cases q:∃i,ch i/\ow i=some b
  ·obtain ⟨i,c,e⟩:=q; exact mn b (mu i b c e).1
  ·cases w:H b with
   |none=>exact absurd w n
   |some o=>rw [g b o w q]; simp
 refine ⟨⟨⟨by rw [hl]; exact R.len,λb u e n=>?_,λb z=>dom b (R.m0 b z),λb z=>?_,R.no0,R.inj,λj hj=>R.out j (by omega),λj s e=>?_⟩,λj d e=>?_⟩,kp,λj b e=>.inl (.inr ⟨j,e⟩),dom⟩
 ·refine g b u (R.keep b u e n) λ⟨i,c,z⟩=>?_
  rcases (mu i b c z).2 with w | w
  ·rw [w] at e; cases e
  ·exact n w
 ·by_cases q:∃i,ch i/\ow i=some b
  ·obtain ⟨i,c,e⟩:=q; exact (mu i b c e).1
  ·have:=R.mutk b z
   rcases this with ⟨_,e⟩ | ⟨_,e⟩ | ⟨_,e⟩
   ·exact .inl ⟨_,g b _ e q⟩
   ·exact .inr (.inl ⟨_,g b _ e q⟩)
   ·exact .inr (.inr ⟨_,g b _ e q⟩)
 ·by_cases c:ch j
  ·exact (new j s c e).1
  ·rw [old j c] at e
   have z:=R.slot j s e
   have other:∀{b:Addr} {d:D},ow j=some b->OV G (Ow O0 ow) H b d->OV G (Ow O0 ow) H' b d:=λ{b d} e1 h1=>by
    have nb:¬ ∃i,ch i/\ow i=some b:=λ⟨i,ci,ei⟩=>c (R.inj j i b e1 ei ▸ ci)
    rcases h1.mut with ⟨_,e⟩ | ⟨_,e⟩ | ⟨_,e⟩ <;> exact h1.kp R.mutk kp (by rw [e]; exact g b _ e nb)
   cases s with
   |un=>exact z
   |fz d=>obtain ⟨b,x,e,q⟩:=z; exact ⟨b,x,e,q.kp R.mutk kp⟩
   |ow d=>obtain ⟨b,x,e,f,q'⟩:=z; exact ⟨b,x,e,f,other x q'⟩
   |io d=>obtain ⟨b,x,e,f,q'⟩:=z; exact ⟨b,x,e,f,other x q'⟩
   |bw d=>exact (R.nb j d e).elim
   |hd w b d=>obtain ⟨x,e,f,q'⟩:=z; exact ⟨x,e,f,other x q'⟩
 ·by_cases c:ch j
  ·exact (new j _ c e).2 d rfl
  ·rw [old j c] at e; exact R.nb j d e
end
noncomputable def G6 (j:Nat)(f:Me->Res D):Me->Res D:=λm=>(f m).bind λd=>match d,m[j]? with
 | .adr a,some (.hd _ b d')=>if a=b then .ok d' else .stuck
 |_,_=>.stuck
section
variable {X:Cx}{E:XK}{e b ke:Expr}{f fb fk:Me->Res D}{pos spos:Pos}
theorem Zu {m:Me}{j:Nat}{d r:D}(h:(match d,m[j]? with | .adr a,some (.hd _ b d')=>if a=b then Res.ok d' else .stuck | _,_=>.stuck)=.ok r):∃w a,d=.adr a/\m[j]? = some (.hd w a r):=by
 cases d with
 |adr a=>
  cases q:m[j]? with
  |none=>rw [q] at h; cases h
  |some s=>
   cases s with
   |hd w b d'=>
    rw [q] at h
    by_cases z:a=b
    ·have h:(if a=b then Res.ok d' else .stuck)=.ok r:=h
     rw [if_pos z] at h
     cases h
     exact ⟨w,a,rfl,by rw [z]⟩
    ·have h:(if a=b then Res.ok d' else .stuck)=.ok r:=h
     rw [if_neg z] at h
     cases h
   |_=>rw [q] at h; cases h
 |_=>cases h
theorem PX {m:Me}{j:Nat}{d:D}{c:Str}:(match d,m[j]? with | .adr a,some (.hd _ b d')=>if a=b then Res.ok d' else .stuck | _,_=>.stuck)≠.exc c:=λh=>by
 cases d with
 |adr a=>
  cases q:m[j]? with
  |none=>rw [q] at h; cases h
  |some s=>
   cases s with
   |hd w b d'=>
    rw [q] at h
    have h:(if a=b then Res.ok d' else .stuck)=.exc c:=h
    split at h <;> cases h
   |_=>rw [q] at h; cases h
 |_=>cases h
theorem Dm (j:Nat)(h:FE X E e f):FB X E e (G6 j f):=bJ h λσ H Q hE=>xq5 hE λO0 M0 H0 ow m R q=>⟨O0,M0,H0,ow,m,R,q.bind.imp (aL.refl _) λd q v H' g hv=>by
 cases z:(match d,m[j]? with | .adr a,some (.hd _ b d')=>if a=b then Res.ok d' else .stuck | _,_=>.stuck) with
 |ok r=>
  rw [z] at q
  obtain ⟨w,a,rfl,e⟩:=Zu z
  cases hv
  obtain ⟨x1,x2,x3,x4⟩:=(R.mono g).slot j _ e
  exact q _ H' g (.inr ⟨a,rfl,.inr ⟨j,x1⟩,x4⟩)
 |exc c=>exact (PX z).elim
 |stuck=>rw [z] at q; exact q.elim⟩
noncomputable def vB (m:Me)(j:Nat):Option (Bool×Addr×D):=match m[j]? with
 |some (.hd w a d)=>some (w,a,d)
 |_=>none
theorem yP {m:Me}{j:Nat}{w:Bool}{a:Addr}{d:D}(h:vB m j=some (w,a,d)):m[j]? = some (.hd w a d):=by
 unfold vB at h
 split at h
 ·rename_i q; cases h; exact q
 ·cases h
theorem du.aba {G:Gx}{O0 M0:Addr->Prop}{H0 H:Hp}{ow:Os}{σ:L2.St}{m:Me}{j:Nat}{w:Bool}{a:Addr}{d d':D}{o:HO}(R:du G O0 M0 H0 ow σ H m)(e:m[j]? = some (.hd w a d))(hm:gY (some o))
  (h:Kp (Ow O0 ow) H (L2.upd H a o)->OV G (Ow O0 ow) (L2.upd H a o) a d'):du G O0 M0 H0 ow σ (L2.upd H a o) (m.set j (.hd w a d'))/\Go O0 ow H ow (L2.upd H a o):=by
 obtain ⟨x1,x2,x3,x4⟩:=R.slot j _ e
 have kp:Kp (Ow O0 ow) H (L2.upd H a o):=λb u eb n=>o6 b u eb λz=>n (z ▸ .inr ⟨j,x1⟩)
 refine R.many (ch:=(· = j)) (by simp) (λi n=>List.getElem?_set_ne (Ne.symm n)) (λb u eb n=>o6 b u eb λz=>n ⟨j,rfl,by rw [x1,z]⟩) (λi s c es=>?_) (λi b c eb=>?_)
 ·subst c
  rw [List.getElem?_set_self (tD e)] at es
  cases es
  exact ⟨⟨x1,x2,x3,h kp⟩,λd z=>by cases z⟩
 ·subst c
  rw [x1] at eb
  cases eb
  refine ⟨by rw [L2.bA]; exact hm,?_⟩
  cases w with
  |true=>exact .inl (x2 rfl)
  |false=>exact .inr (x3 rfl)
noncomputable def vy (j:Nat)(fb fk fv:Me->Res D):Me->Res (Fl×Me):=λm=>(fv m).bind λd=>(fb m).bind λc=>(ofO (vB m j)).bind λo=>(fk m).bind λk=>(ofO (ug k)).bind λk=>match c,o.2.2 with
 | .adr a,.dcu ks ds=>if a=o.2.1/\ks.length<sizeLine then .ok (.nx,m.set j (.hd o.1 a (.dcu (lA ks ds k d).1 (lA ks ds k d).2))) else .stuck
 |_,_=>.stuck
theorem J4 {jj:Nat}(j:Nat)(hr:iR jj X.A)(he:FE X E e f)(hb:FE X E b fb)(hk:FE X E ke fk)
  (hs:swapsWith e (some (.Subscript b ke spos)) pos.line X.env=pure false:=by rfl):FS X E (.Assign [.Subscript b ke spos] e pos) (vy j fb fk f):=
 cM (yS (jF hr) hb hk he hs) λW σ H hE=>xq5 hE λO0 M0 H0 ow m R q=>
  ⟨O0,M0,H0,ow,m,R.toRel,(Ss.pu R.toRel q).imp (aL.refl _) λd q v H1 g1 hv=>by
   have R1:=R.mono g1
   refine ⟨O0,M0,H0,ow,m,R1.toRel,(Ss.pu R1.toRel (q.go (Go.refl g1))).imp (aL.refl _) λc q vc H2 g2 hc=>?_⟩
   have R2:=R1.mono g2
   obtain ⟨o,ho,q⟩:=Ss.ofO q
   obtain ⟨w,a,dd⟩:=o
   have ho:=yP ho
   refine ⟨O0,M0,H0,ow,m,R2.toRel,(Ss.pu R2.toRel (q.go (Go.refl g2))).imp (aL.refl _) λdk q vk H3 g3 hvk=>?_⟩
   obtain ⟨ky,h1,q⟩:=Ss.ofO q
   obtain ⟨b,rfl,hb⟩:=qY (.inl hvk) h1
   have R3:=R2.mono g3
   cases c with
   |adr a'=>
    cases hc
    cases dd with
    |dcu ks ds=>
     by_cases hz:a'=a/\ks.length<sizeLine
     ·have q':Ss (gx X) E O0 M0 H0 ow H2 W (if a'=a/\ks.length<sizeLine then .ok (.nx,m.set j (.hd w a' (.dcu (lA ks ds ky d).1 (lA ks ds ky d).2))) else .stuck):=q
      rw [if_pos hz] at q'
      clear q
      obtain ⟨rfl,hz⟩:=hz
      obtain ⟨x1,x2,x3,kvs,vs,e4,e5,rfl,e6⟩:=R3.slot j _ ho
      obtain ⟨p1,p2⟩:=Lq (k:=ky) (hv.mono (g2.trans g3)) e6
      rw [e5] at p1 p2
      obtain ⟨R4,g4⟩:=R3.aba (o:=.dT (KTp X.K) (putK kvs ky v)) (d':=.dcu (lA ks ds ky d).1 (lA ks ds ky d).2) ho (.inr (.inr ⟨(_,_),rfl⟩)) (λkp=>⟨_,_,L2.bA,p1,rfl,p2.kp R3.mutk kp⟩)
      exact ⟨a',_,rfl,Bs.t e4 hb (by rw [← List.length_map (f:=(·.1)),e5]; exact hz),q' _ _ _ R4 ((Go.refl g3).trans g4)⟩
     ·have q:Ss (gx X) E O0 M0 H0 ow H2 W (if a'=a/\ks.length<sizeLine then .ok (.nx,m.set j (.hd w a' (.dcu (lA ks ds ky d).1 (lA ks ds ky d).2))) else .stuck):=q
      rw [if_neg hz] at q; exact q.elim
    |_=>exact q.elim
   |_=>exact q.elim⟩
noncomputable def tW (j:Nat)(fb fk fv:Me->Res D):Me->Res (Fl×Me):=λm=>(fv m).bind λd=>(fb m).bind λc=>(ofO (vB m j)).bind λo=>(fk m).bind λk=>match c,o.2.2,k with
 | .adr a,.lst ds,.int n=>if a=o.2.1 then (ofO (ixN ds.length n)).bind λi=>.ok (.nx,m.set j (.hd o.1 a (.lst (ds.set i d)))) else .stuck
 |_,_,_=>.stuck
theorem HX (j:Nat)(he:FE X E e f)(hb:FE X E b fb)(hk:FE X E ke fk)
  (ha:∀v,assign (.Subscript b ke spos) X.env v=(do
   let ov ← holding [v] (eval b X.env)
   let iv ← holding [v,ov] (eval ke X.env)
   standAt spos
   holding [v,ov,iv] (setItem ov iv v)
   release [v,ov,iv] []):=by intro _; rfl)
  (hs:swapsWithSole [.Subscript b ke spos] e pos.line X.env=pure false:=by rfl) (hw:swappedStores [.Subscript b ke spos] e X.env=pure none:=by rfl)
  (h1:(assignEach [.Subscript b ke spos] X.env).map (·.2)=[assign (.Subscript b ke spos) X.env]:=by rfl):FS X E (.Assign [.Subscript b ke spos] e pos) (tW j fb fk f):=
 cM (JB he (Tq hb hk set_list ha) hs hw h1) λW σ H hE=>xq5 hE λO0 M0 H0 ow m R q=>
  ⟨O0,M0,H0,ow,m,R.toRel,(Ss.pu R.toRel q).imp (aL.refl _) λd q v H1 g1 hv=>by
   have R1:=R.mono g1
   refine ⟨O0,M0,H0,ow,m,R1.toRel,(Ss.pu R1.toRel (q.go (Go.refl g1))).imp (aL.refl _) λc q vc H2 g2 hc=>?_⟩
   have R2:=R1.mono g2
   obtain ⟨o,ho,q⟩:=Ss.ofO q
   obtain ⟨w,a,dd⟩:=o
   have ho:=yP ho
   refine ⟨O0,M0,H0,ow,m,R2.toRel,(Ss.pu R2.toRel (q.go (Go.refl g2))).imp (aL.refl _) λdk q vk H3 g3 hvk=>?_⟩
   have R3:=R2.mono g3
   cases c with
   |adr a'=>
    cases hc
    cases dd with
    |lst ds=>
     cases dk with
     |int n=>
      cases hvk
      have q':Ss (gx X) E O0 M0 H0 ow H2 W (if a'=a then (ofO (ixN ds.length n)).bind λi=>.ok (.nx,m.set j (.hd w a' (.lst (ds.set i d)))) else .stuck):=q
      by_cases hz:a'=a
      ·rw [if_pos hz] at q'
       clear q
       subst hz
       obtain ⟨i,hi,q⟩:=Ss.ofO q'
       obtain ⟨x1,x2,x3,xs,e4,e5⟩:=R3.slot j _ ho
       obtain ⟨R4,g4⟩:=R3.aba (o:=.lst (xs.set i v)) (d':=.lst (ds.set i d)) ho (.inl ⟨_,rfl⟩) (λkp=>⟨_,L2.bA,(wV (hv.mono (g2.trans g3)) i e5).kp R3.mutk kp⟩)
       exact ⟨a',xs,n,i,rfl,rfl,e4,by rw [bU e5]; exact hi,q _ _ _ R4 ((Go.refl g3).trans g4)⟩
      ·rw [if_neg hz] at q'; exact q'.elim
     |_=>exact q.elim
    |_=>exact q.elim
   |_=>exact q.elim⟩
end
open PySem PySem.Spec PyProof.Rows L2 Hd
noncomputable def JW (G:Gx)(p:Nat)(Φ:List D->D->Addr×D->Addr×D->Res (D×D×D×D)):Sp:=λvs H Q E=>∃O a us ds d x y,vs=lX p (.ref a) us/\p<=ds.length/\(∀b,O b->gY (H b))/\(O a/\OV G O H a d)/\(O x.1/\OV G O H x.1 x.2)/\(O y.1/\OV G O H y.1 y.2)/\(a≠x.1/\a≠y.1/\x.1≠y.1)/\DVs G O H us ds/\match Φ ds d x y with
 | .ok (r,d',e,f)=>∀v H',Kp (λb=>b=a\/b=x.1\/b=y.1) H H'->OV G O H' a d'->OV G O H' x.1 e->OV G O H' y.1 f->DV G O H' v r->Q v H'
 | .exc c=>∀C H',G.mg c=some (.ref C)->Kp (λb=>b=a\/b=x.1\/b=y.1) H H'->E (.ref C) none H'
 | .stuck=>False
noncomputable def lW (m:Me)(j:Nat)(a:Addr):Option D:=match m[j]? with
 |some (.hd false b d)=>if a=b then some d else none
 |_=>none
theorem LC {m:Me}{j:Nat}{a:Addr}{d:D}(h:lW m j a=some d):m[j]? = some (.hd false a d):=by
 unfold lW at h
 split at h
 ·rename_i b d' q
  split at h
  ·rename_i z; cases h; rw [z]; exact q
  ·cases h
 ·cases h
noncomputable def runST (p N n:Nat)(g:Me->Res (Fl×Me)):List D->D->Addr×D->Addr×D->Res (D×D×D×D):=λds d x y=>if ds.length+1=n then match g (lX p (.io d) (ds.map Sl.fz)++(List.replicate (N - n - 2) Sl.un++[.hd false x.1 x.2,.hd false y.1 y.2])) with
  | .ok (.rt _ r,m')=>(ofO (qp m' p)).bind λd'=>(ofO (lW m' (N - 2) x.1)).bind λe=>(ofO (lW m' (N - 1) y.1)).bind λf=>.ok (r,d',e,f)
  | .ok (.nx,m')=>(ofO (qp m' p)).bind λd'=>(ofO (lW m' (N - 2) x.1)).bind λe=>(ofO (lW m' (N - 1) y.1)).bind λf=>.ok (.non,d',e,f)
  | .exc c=>.exc c
  |_=>.stuck
 else .stuck
noncomputable abbrev FST (P:Program)(w:World)(K:W.Frag)(mg:Str->Option Value)(base:Heap)(k:Nat)(x:Str)(ps:List Str)(p:Nat)(Φ:List D->D->Addr×D->Addr×D->Res (D×D×D×D)):Prop:=Hd.Fn P w K mg base k x ps (JW ⟨K,mg⟩ p Φ)
noncomputable def ow3 (i j1 j2:Nat)(a a1 a2:Addr):Os:=λk=>if k=i then some a else if k=j1 then some a1 else if k=j2 then some a2 else none
theorem ZC {O:Addr->Prop}{i j1 j2:Nat}{a a1 a2:Addr}(h:O a)(h1:O a1)(h2:O a2)(n1:i≠j1)(n2:i≠j2)(n3:j1≠j2):Ow (λb=>O b/\b≠a/\b≠a1/\b≠a2) (ow3 i j1 j2 a a1 a2)=O:=by
 funext b
 refine propext ⟨λz=>?_,λz=>?_⟩
 ·rcases z with z | ⟨k,e⟩
  ·exact z.1
  ·unfold ow3 at e
   split at e
   ·cases e; exact h
   ·split at e
    ·cases e; exact h1
    ·split at e
     ·cases e; exact h2
     ·cases e
 ·by_cases q:b=a
  ·exact .inr ⟨i,by unfold ow3; rw [if_pos rfl,q]⟩
  ·by_cases q1:b=a1
   ·exact .inr ⟨j1,by unfold ow3; rw [if_neg (Ne.symm n1),if_pos rfl,q1]⟩
   ·by_cases q2:b=a2
    ·exact .inr ⟨j2,by unfold ow3; rw [if_neg (Ne.symm n2),if_neg (Ne.symm n3),if_pos rfl,q2]⟩
    ·exact .inl ⟨z,q,q1,q2⟩
theorem Q3 {G:Gx}{O:Addr->Prop}{H:Hp}{N:List Str}{a:Addr}{us:List V}{ds:List D}{d:D}{x y:Addr×D}{n p:Nat}(hp:p<=ds.length)(hm:∀b,O b->gY (H b))(ho:O a/\OV G O H a d)(hx:O x.1/\OV G O H x.1 x.2)(hy:O y.1/\OV G O H y.1 y.2)(nd:a≠x.1/\a≠y.1/\x.1≠y.1)(hd:DVs G O H us ds)(hn:ds.length+1=n)(hN:n+2<=N.length):
  du G (λb=>O b/\b≠a/\b≠x.1/\b≠y.1) (λb=>b=a\/b=x.1\/b=y.1) H (ow3 p (N.length - 2) (N.length - 1) a x.1 y.1) (L2.start N (lX p (.ref a) us)) H (lX p (.io d) (ds.map Sl.fz)++(List.replicate (N.length - n - 2) Sl.un++[.hd false x.1 x.2,.hd false y.1 y.2])):=by
 have hl:=bU hd
 have n1:p≠N.length - 2:=by omega
 have n2:p≠N.length - 1:=by omega
 have n3:N.length - 2≠N.length - 1:=by omega
 have eO:=ZC ho.1 hx.1 hy.1 n1 n2 n3
 have hlen:(lX p (V.ref a) us).length=n:=by rw [z9,hl]; exact hn
 have hst:∀i v,(lX p (V.ref a) us)[i]? = some v->(L2.start N (lX p (.ref a) us))[i]? = some (some v):=λi v e=>by
  have hi:i<(lX p (V.ref a) us).length:=(List.getElem?_eq_some_iff.mp e).1
  unfold L2.start
  rw [List.getElem?_append_left (by simpa using hi),List.getElem?_map,e]
  rfl
 have hml:(lX p (Sl.io d) (ds.map Sl.fz)).length=n:=by rw [z9,List.length_map]; exact hn
 have op:ow3 p (N.length - 2) (N.length - 1) a x.1 y.1 p=some a:=if_pos rfl
 have o1:ow3 p (N.length - 2) (N.length - 1) a x.1 y.1 (N.length - 2)=some x.1:=by unfold ow3; rw [if_neg (Ne.symm n1),if_pos rfl]
 have o2:ow3 p (N.length - 2) (N.length - 1) a x.1 y.1 (N.length - 1)=some y.1:=by unfold ow3; rw [if_neg (Ne.symm n2),if_neg (Ne.symm n3),if_pos rfl]
 have on:∀i,i≠p->i≠N.length - 2->i≠N.length - 1->ow3 p (N.length - 2) (N.length - 1) a x.1 y.1 i=none:=λi h1 h2 h3=>by unfold ow3; rw [if_neg h1,if_neg h2,if_neg h3]
 have key:∀(i:Nat) (s:Sl),(lX p (Sl.io d) (ds.map Sl.fz)++(List.replicate (N.length - n - 2) Sl.un++[.hd false x.1 x.2,.hd false y.1 y.2]))[i]? = some s->
   (i=p/\s=.io d)\/(i≠p/\i<n/\∃d1 v,s=.fz d1/\DV G O H v d1/\(lX p (V.ref a) us)[i]? = some v)\/(n<=i/\i<N.length - 2/\s=.un)\/(i=N.length - 2/\s=.hd false x.1 x.2)\/(i=N.length - 1/\s=.hd false y.1 y.2):=λi s e=>by
  by_cases hi:i<n
  ·rw [List.getElem?_append_left (by rw [hml]; exact hi)] at e
   by_cases q:i=p
   ·subst q
    rw [Mj (by simpa using hp)] at e
    cases e
    exact .inl ⟨rfl,rfl⟩
   ·refine .inr (.inl ⟨q,hi,?_⟩)
    by_cases lt:i<p
    ·rw [Le lt (by simpa using hp),List.getElem?_map] at e
     cases ed:ds[i]? with
     |none=>rw [ed] at e; cases e
     |some d1=>
      rw [ed] at e
      cases e
      obtain ⟨v,hv,dx⟩:=uI hd ed
      exact ⟨d1,v,rfl,dx,by rw [Le lt (by omega)]; exact hv⟩
    ·obtain ⟨j,rfl⟩:∃j,i=j+1:=⟨i - 1,by omega⟩
     rw [M9 (by omega) (by simpa using hp),List.getElem?_map] at e
     cases ed:ds[j]? with
     |none=>rw [ed] at e; cases e
     |some d1=>
      rw [ed] at e
      cases e
      obtain ⟨v,hv,dx⟩:=uI hd ed
      exact ⟨d1,v,rfl,dx,by rw [M9 (by omega) (by omega)]; exact hv⟩
  ·rw [List.getElem?_append_right (by rw [hml]; omega),hml] at e
   by_cases hi2:i - n<N.length - n - 2
   ·rw [List.getElem?_append_left (by simpa using hi2),List.getElem?_replicate,if_pos hi2] at e
    cases e
    exact .inr (.inr (.inl ⟨by omega,by omega,rfl⟩))
   ·rw [List.getElem?_append_right (by simpa using hi2),List.length_replicate] at e
    rcases (show i - n - (N.length - n - 2)=0\/i - n - (N.length - n - 2)=1\/2<=i - n - (N.length - n - 2) by omega) with z | z | z
    ·rw [z] at e; cases e
     exact .inr (.inr (.inr (.inl ⟨by omega,rfl⟩)))
    ·rw [z] at e; cases e
     exact .inr (.inr (.inr (.inr ⟨by omega,rfl⟩)))
    ·rw [List.getElem?_eq_none (by simpa using z)] at e; cases e
 refine ⟨⟨?_,λb o e _=>e,λb z=>?_,λb z=>by rw [eO] at z; exact hm b z,λi b e=>?_,λi j b e1 e2=>?_,λi hi=>?_,λi s e=>?_⟩,λj d' e=>?_⟩
 ·rw [List.length_append,hml,List.length_append,List.length_replicate]
  unfold L2.start
  rw [List.length_append,List.length_map,hlen,List.length_replicate]
  simp
  omega
 ·have mn:∀b,gY (H b)->H b≠none:=λb z w=>by rw [w] at z; rcases z with ⟨_,e⟩ | ⟨_,e⟩ | ⟨_,e⟩ <;> cases e
  rcases z with z | z | z
  ·rw [z]; exact mn _ ho.2.mut
  ·rw [z]; exact mn _ hx.2.mut
  ·rw [z]; exact mn _ hy.2.mut
 ·intro z
  unfold ow3 at e
  split at e
  ·cases e; exact z.2.1 rfl
  ·split at e
   ·cases e; exact z.2.2.1 rfl
   ·split at e
    ·cases e; exact z.2.2.2 rfl
    ·cases e
 ·have inv:∀k b,ow3 p (N.length - 2) (N.length - 1) a x.1 y.1 k=some b->(k=p/\b=a)\/(k=N.length - 2/\b=x.1)\/(k=N.length - 1/\b=y.1):=λk b e=>by
   unfold ow3 at e
   split at e
   ·rename_i q; cases e; exact .inl ⟨q,rfl⟩
   ·split at e
    ·rename_i q; cases e; exact .inr (.inl ⟨q,rfl⟩)
    ·split at e
     ·rename_i q; cases e; exact .inr (.inr ⟨q,rfl⟩)
     ·cases e
  obtain ⟨d1,d2,d3⟩:=nd
  rcases inv i b e1 with ⟨u1,u2⟩ | ⟨u1,u2⟩ | ⟨u1,u2⟩ <;> rcases inv j b e2 with ⟨w1,w2⟩ | ⟨w1,w2⟩ | ⟨w1,w2⟩
  ·rw [u1,w1]
  ·exact absurd (u2.symm.trans w2) d1
  ·exact absurd (u2.symm.trans w2) d2
  ·exact absurd (w2.symm.trans u2) d1
  ·rw [u1,w1]
  ·exact absurd (u2.symm.trans w2) d3
  ·exact absurd (w2.symm.trans u2) d2
  ·exact absurd (w2.symm.trans u2) d3
  ·rw [u1,w1]
 ·rw [List.length_append,hml,List.length_append,List.length_replicate] at hi
  simp at hi
  exact on i (by omega) (by omega) (by omega)
 ·rw [eO]
  rcases key i s e with ⟨rfl,rfl⟩ | ⟨q,hi,d1,v,rfl,dx,hv⟩ | ⟨q1,q2,rfl⟩ | ⟨rfl,rfl⟩ | ⟨rfl,rfl⟩
  ·exact ⟨a,op,.inl rfl,hst _ _ (Mj (by omega)),ho.2⟩
  ·exact ⟨on i q (by omega) (by omega),v,hst _ _ hv,dx⟩
  ·exact on i (by omega) (by omega) (by omega)
  ·exact ⟨o1,(λz=>by cases z),λ_=>.inr (.inl rfl),hx.2⟩
  ·exact ⟨o2,(λz=>by cases z),λ_=>.inr (.inr rfl),hy.2⟩
 ·rcases key j _ e with ⟨_,z⟩ | ⟨_,_,_,_,z,_⟩ | ⟨_,_,z⟩ | ⟨_,z⟩ | ⟨_,z⟩ <;> cases z
section
variable {P:Program}{w:World}{K:W.Frag}{mg:Str->Option Value}{base:Heap}
theorem zO {x qual:Str}{st:Stmt}{f:Addr}{fd:FuncData}{N ps:List Str}{k:Nat}(p:Nat){g:Me->Res (Fl×Me)}(Fu:Fun K x qual st f fd)(S:aX N ps (aG st))(hN:ps.length+2<=N.length)
  (hbody:∀(cdv:Value) (A:Around) (outer:List Env) (s:Shared) (H:Hp) (E:XK),iR k (A.deeper (envOfC qual (aG st) s.heap.objs.size f cdv))->
   FSs (Ay (CX1 P w) P w K mg base N qual (aG st) f cdv A outer s H E) E (jr st) g):cL P w K mg base (CX1 P w) (k+1) f fd ps (JW ⟨K,mg⟩ p (runST p N.length ps.length g)):=by
 have cond:∀{ds:List D} {d:D} {u v:Addr×D},runST p N.length ps.length g ds d u v≠.stuck->ds.length+1=ps.length:=λ{ds d u v} h=>by
  by_cases z:ds.length+1=ps.length
  ·exact z
  ·unfold runST at h; rw [if_neg z] at h; exact absurd rfl h
 refine Ml Fu S (λvs H Q E h=>?_) (λcdv A outer s H vs Q E hr h=>?_)
 ·obtain ⟨O,a,us,ds,d,u,v,rfl,_,_,_,_,_,_,hd,q⟩:=h
  rw [z9,bU hd]
  exact cond λz=>by rw [z] at q; exact q
 ·obtain ⟨O,a,us,ds,d,u,v,rfl,hp,hm,ho,hu,hv,nd,hd,q⟩:=h
  have hn:=cond (ds:=ds) (d:=d) λz=>by rw [z] at q; exact q
  unfold runST at q
  rw [if_pos hn] at q
  refine ⟨_,hbody cdv A outer s H E hr,_,_,H,_,_,Q3 hp hm ho hu hv nd hd hn hN,?_⟩
  have fin:∀{ow' σ' H' m' d' e' f'},du (⟨K,mg⟩:Gx) (λb=>O b/\b≠a/\b≠u.1/\b≠v.1) (λb=>b=a\/b=u.1\/b=v.1) H ow' σ' H' m'->qp m' p=some d'->lW m' (N.length - 2) u.1=some e'->lW m' (N.length - 1) v.1=some f'->
    Kp (λb=>b=a\/b=u.1\/b=v.1) H H'/\OV ⟨K,mg⟩ O H' a d'/\OV ⟨K,mg⟩ O H' u.1 e'/\OV ⟨K,mg⟩ O H' v.1 f'/\∀z r,DV (⟨K,mg⟩:Gx) (Ow (λb=>O b/\b≠a/\b≠u.1/\b≠v.1) ow') H' z r->DV ⟨K,mg⟩ O H' z r:=λ{ow' σ' H' m' d' e' f'} R e0 e1 e2=>by
   obtain ⟨a',k1,k2,k3,k4⟩:=R.slot p _ (RD e0)
   obtain ⟨x1,x2,x3,x4⟩:=R.slot _ _ (LC e1)
   obtain ⟨y1,y2,y3,y4⟩:=R.slot _ _ (LC e2)
   have ea:a'=a:=by
    rcases k2 with z | z | z
    ·exact z
    ·have:=R.inj p _ _ k1 (z ▸ x1); omega
    ·have:=R.inj p _ _ k1 (z ▸ y1); omega
   subst ea
   have sub:∀b,O b->Ow (λb=>O b/\b≠a'/\b≠u.1/\b≠v.1) ow' b\/H' b=none:=λb z=>by
    by_cases q:b=a'
    ·exact .inl (.inr ⟨p,by rw [q]; exact k1⟩)
    ·by_cases q1:b=u.1
     ·exact .inl (.inr ⟨_,by rw [q1]; exact x1⟩)
     ·by_cases q2:b=v.1
      ·exact .inl (.inr ⟨_,by rw [q2]; exact y1⟩)
      ·exact .inl (.inl ⟨z,q,q1,q2⟩)
   exact ⟨R.keep,k4.cu sub,x4.cu sub,y4.cu sub,λz r h=>h.cu sub⟩
  cases z:g (lX p (.io d) (ds.map Sl.fz)++(List.replicate (N.length - ps.length - 2) Sl.un++[.hd false u.1 u.2,.hd false v.1 v.2])) with
  |exc c=>rw [z] at q; exact λC H' e kp=>q C H' e kp
  |stuck=>rw [z] at q; exact q.elim
  |ok b=>
   obtain ⟨fl,m'⟩:=b
   rw [z] at q
   cases fl with
   |bk=>exact q.elim
   |ct=>exact q.elim
   |nx=>
    intro ow' σ' H' R' _
    cases e0:qp m' p with
    |none=>simp only [e0] at q; exact q.elim
    |some d'=>
     cases e1:lW m' (N.length - 2) u.1 with
     |none=>simp only [e0,e1,qy,Res.pG] at q; exact q.elim
     |some e'=>
      cases e2:lW m' (N.length - 1) v.1 with
      |none=>simp only [e0,e1,e2,qy,Res.pG] at q; exact q.elim
      |some f'=>
       simp only [e0,e1,e2] at q
       obtain ⟨k1,k2,k3,k4,k5⟩:=fin R' e0 e1 e2
       exact q _ H' k1 k2 k3 k4 .non
   |rt fr r=>
    intro v' ow' σ' H' R' _ hv' _
    cases e0:qp m' p with
    |none=>simp only [e0] at q; exact q.elim
    |some d'=>
     cases e1:lW m' (N.length - 2) u.1 with
     |none=>simp only [e0,e1,qy,Res.pG] at q; exact q.elim
     |some e'=>
      cases e2:lW m' (N.length - 1) v.1 with
      |none=>simp only [e0,e1,e2,qy,Res.pG] at q; exact q.elim
      |some f'=>
       simp only [e0,e1,e2] at q
       obtain ⟨k1,k2,k3,k4,k5⟩:=fin R' e0 e1 e2
       exact q v' H' k1 k2 k3 k4 (k5 _ _ hv')
theorem aaQ {k p:Nat}{f:Addr}{fd:FuncData}{ps:List Str}:cL P w K mg base (CX1 P w) k f fd ps (JW ⟨K,mg⟩ p λ_ _ _ _=>.stuck):=
 ⟨λ_ _ _ _ ⟨_,_,_,_,_,_,_,_,_,_,_,_,_,_,_,q⟩=>q.elim,λ_ _ _ _ _ _ _ _ _ _ _ _ _ ⟨_,_,_,_,_,_,_,_,_,_,_,_,_,_,_,q⟩=>q.elim⟩
end
noncomputable def uQ (Φ:List D->D->Addr×D->Addr×D->Res (D×D×D×D))(i p j1 j2:Nat)(fs:Me->Res (List D)):Me->Res (D×Me):=λm=>(ofO (Gq m i)).bind λo=>(ofO (vB m j1)).bind λh1=>(ofO (vB m j2)).bind λh2=>(fs m).bind λds=>if p<=ds.length then (Φ ds o.2 h1.2 h2.2).bind λr=>.ok (r.1,((yF m i o.1 r.2.1).set j1 (.hd h1.1 h1.2.1 r.2.2.1)).set j2 (.hd h2.1 h2.2.1 r.2.2.2)) else .stuck
theorem GJ {X:Cx}{E:XK}{e0:Expr}{es:List Expr}{fs:Me->Res (List D)}{pos pp:Pos}{j k p:Nat}{x:Str}{ps:List Str}{Φ:List D->D->Addr×D->Addr×D->Res (D×D×D×D)}(i j1 j2:Nat)(Fh:FST X.prog X.w X.K X.mg X.base k x ps p Φ)(hr:iR j X.A)(hx:Passes (CX1 X.prog X.w) X E)(ha:FAH X E (e0::es) i p fs)(hk:k<=j:=by decide)(hg:Gl X x:=by rfl)
  (hj:j1≠j2:=by decide) (hdb:(x == ("__debug__" : Str))=false:=by decide) (he:starEach (e0::es) X.env=(false,eval e0 X.env)::starEach es X.env:=by rfl) (hpl:(backTo pos (starEach es X.env)).any (·.1)=false:=by rfl):
  FX X E (.Call (.Name x pp) (e0::es) [] pos) (uQ Φ i p j1 j2 fs):=by
 obtain ⟨f,fd,G,b,kp,m⟩:=Fh.ex
 refine bJ (Gi G (hr.mono hk) hg m kp b .nil hx ha hdb he hpl) λσ H Q hE=>xq5 hE λO0 M0 H0 ow m R q=>?_
 obtain ⟨o,ho,q⟩:=(Xs.pu R.toRel q).ofO
 obtain ⟨h1,hh1,q⟩:=(Xs.pu R.toRel q).ofO
 obtain ⟨h2,hh2,q⟩:=(Xs.pu R.toRel q).ofO
 obtain ⟨kk,d0⟩:=o
 obtain ⟨w1,a1,d1⟩:=h1
 obtain ⟨w2,a2,d2⟩:=h2
 obtain ⟨a,e1,e2,e4,e5⟩:=Vv R.toRel ho
 have g1:=yP hh1
 have g2:=yP hh2
 obtain ⟨x1,x2,x3,x4⟩:=R.slot j1 _ g1
 obtain ⟨y1,y2,y3,y4⟩:=R.slot j2 _ g2
 have ni1:i≠j1:=λz=>by subst z; rcases e5 with ⟨s,_⟩ | ⟨s,_⟩ <;> (rw [g1] at s; cases s)
 have ni2:i≠j2:=λz=>by subst z; rcases e5 with ⟨s,_⟩ | ⟨s,_⟩ <;> (rw [g2] at s; cases s)
 have na1:a≠a1:=λz=>ni1 (R.inj i j1 a e1 (z ▸ x1))
 have na2:a≠a2:=λz=>ni2 (R.inj i j2 a e1 (z ▸ y1))
 have na3:a1≠a2:=λz=>hj (R.inj j1 j2 a1 x1 (z ▸ y1))
 refine ⟨O0,M0,H0,ow,m,a,R.toRel,e2,(Xs.pu R.toRel q).imp (aL.refl _) λds q=>?_⟩
 by_cases hp:p<=ds.length
 case neg=>rw [if_neg hp] at q; exact q.elim
 rw [if_pos hp] at q
 refine ⟨hp,λus H1 g3 hus=>?_⟩
 have R1:=R.mono g3
 have q:Xs (gx X) E O0 M0 H0 ow σ H1 ((Φ ds d0 (a1,d1) (a2,d2)).bind λr=>.ok (r.1,((yF m i kk r.2.1).set j1 (.hd w1 a1 r.2.2.1)).set j2 (.hd w2 a2 r.2.2.2))) _:=q.at g3
 show JW _ _ _ (lX p (V.ref a) us++[]) _ _ _
 rw [List.append_nil]
 refine ⟨Ow O0 ow,a,us,ds,d0,(a1,d1),(a2,d2),rfl,hp,R1.mutk,⟨.inr ⟨i,e1⟩,e4.mono g3⟩,⟨.inr ⟨j1,x1⟩,x4.mono g3⟩,⟨.inr ⟨j2,y1⟩,y4.mono g3⟩,⟨na1,na2,na3⟩,hus,?_⟩
 have m0a:H0 a=none\/M0 a:=by
  rcases e5 with ⟨s,_⟩ | ⟨s,_⟩
  ·obtain ⟨a',s1,s2,_⟩:=R.slot i _ s; rw [e1] at s1; cases s1; exact .inl s2
  ·obtain ⟨a',s1,s2,_⟩:=R.slot i _ s; rw [e1] at s1; cases s1; exact .inr s2
 have m01:H0 a1=none\/M0 a1:=by cases w1 with
  |true=>exact .inl (x2 rfl)
  |false=>exact .inr (x3 rfl)
 have m02:H0 a2=none\/M0 a2:=by cases w2 with
  |true=>exact .inl (y2 rfl)
  |false=>exact .inr (y3 rfl)
 cases z:Φ ds d0 (a1,d1) (a2,d2) with
 |stuck=>rw [z] at q; exact q.elim
 |exc c=>
  rw [z] at q
  refine λC H' e g=>q C H' e λb o e n=>?_
  refine g b o (R1.keep b o e n) λw=>?_
  rcases w with rfl | rfl | rfl
  ·rcases m0a with w | w
   ·rw [w] at e; cases e
   ·exact n w
  ·rcases m01 with w | w
   ·rw [w] at e; cases e
   ·exact n w
  ·rcases m02 with w | w
   ·rw [w] at e; cases e
   ·exact n w
 |ok r=>
  obtain ⟨rr,d',e',f'⟩:=r
  rw [z] at q
  intro v H' g ov1 ov2 ov3 hv
  have hi:i<m.length:=by rcases e5 with ⟨s,_⟩ | ⟨s,_⟩ <;> exact tD s
  have ex:∀c,(((yF m i kk d').set j1 (.hd w1 a1 e')).set j2 (.hd w2 a2 f'))[c]? = if c=j2 then some (.hd w2 a2 f') else if c=j1 then some (.hd w1 a1 e') else if c=i then some (if kk then .ow d' else .io d') else m[c]?:=λc=>by
   have l1:=tD g1
   have l2:=tD g2
   unfold yF
   by_cases c2:c=j2
   ·subst c2; rw [if_pos rfl,List.getElem?_set_self (by simpa using l2)]
   ·rw [if_neg c2,List.getElem?_set_ne (Ne.symm c2)]
    by_cases c1:c=j1
    ·subst c1; rw [if_pos rfl,List.getElem?_set_self (by simpa using l1)]
    ·rw [if_neg c1,List.getElem?_set_ne (Ne.symm c1)]
     by_cases c0:c=i
     ·subst c0; rw [if_pos rfl,List.getElem?_set_self hi]
     ·rw [if_neg c0,List.getElem?_set_ne (Ne.symm c0)]
  obtain ⟨R2,G2⟩:=R1.many (m':=((yF m i kk d').set j1 (.hd w1 a1 e')).set j2 (.hd w2 a2 f')) (ch:=λc=>c=i\/c=j1\/c=j2) (by simp [yF]) (λc n=>by
    rw [ex,if_neg (λz=>n (.inr (.inr z))),if_neg (λz=>n (.inr (.inl z))),if_neg (λz=>n (.inl z))]) (λb o eb n=>g b o eb λw=>n (by
    rcases w with rfl | rfl | rfl
    ·exact ⟨i,.inl rfl,e1⟩
    ·exact ⟨j1,.inr (.inl rfl),x1⟩
    ·exact ⟨j2,.inr (.inr rfl),y1⟩)) (λc s cc es=>by
    rw [ex] at es
    rcases cc with rfl | rfl | rfl
    ·rw [if_neg ni2,if_neg ni1,if_pos rfl] at es
     cases es
     rcases e5 with ⟨s,rfl⟩ | ⟨s,rfl⟩
     ·obtain ⟨a',s1,s2,s3,_⟩:=R.slot c _ s
      rw [e1] at s1; cases s1
      exact ⟨⟨a,e1,s2,s3,ov1⟩,λd z=>by cases z⟩
     ·obtain ⟨a',s1,s2,s3,_⟩:=R.slot c _ s
      rw [e1] at s1; cases s1
      exact ⟨⟨a,e1,s2,s3,ov1⟩,λd z=>by cases z⟩
    ·rw [if_neg hj,if_pos rfl] at es
     cases es
     exact ⟨⟨x1,x2,x3,ov2⟩,λd z=>by cases z⟩
    ·rw [if_pos rfl] at es
     cases es
     exact ⟨⟨y1,y2,y3,ov3⟩,λd z=>by cases z⟩) (λc b cc eb=>by
    rcases cc with rfl | rfl | rfl
    ·rw [e1] at eb; cases eb; exact ⟨ov1.mut,m0a⟩
    ·rw [x1] at eb; cases eb; exact ⟨ov2.mut,m01⟩
    ·rw [y1] at eb; cases eb; exact ⟨ov3.mut,m02⟩)
  exact q H' R2 G2 v hv
open PySem PySem.Spec PyProof.Rows L2 Hd
open Classical in
noncomputable def Vl (h:Addr->Addr->Res (Fl×Me))(m:Me):Res (Fl×Me):=
 if H:∃p:Bool×D,∀a1 a2:Addr,a1≠a2->∃m',h a1 a2=.ok (.rt p.1 p.2,m')/\m'.length=m.length then .ok (.rt (Classical.choose H).1 (Classical.choose H).2,m.map λ_=>.un) else .stuck
theorem Wg {h:Addr->Addr->Res (Fl×Me)}{m:Me}{fr:Bool}{d:D}(H:∀a1 a2:Addr,a1≠a2->∃m',h a1 a2=.ok (.rt fr d,m')/\m'.length=m.length):Vl h m=.ok (.rt fr d,m.map λ_=>.un):=by
 have Hx:∃p:Bool×D,∀a1 a2:Addr,a1≠a2->∃m',h a1 a2=.ok (.rt p.1 p.2,m')/\m'.length=m.length:=⟨(fr,d),H⟩
 have e:=Classical.choose_spec Hx
 obtain ⟨m1,e1,_⟩:=e 0 1 (by decide)
 obtain ⟨m2,e2,_⟩:=H 0 1 (by decide)
 rw [e1] at e2
 unfold Vl
 rw [dif_pos Hx]
 injection e2 with e2
 injection e2 with e2 _
 injection e2 with e3 e4
 rw [e3,e4]
section
variable {G:Gx}{O0 M0:Addr->Prop}{H0 H H':Hp}{ow:Os}{σ:L2.St}{m:Me}
theorem du.forget (R:du G O0 M0 H0 ow σ H m){m':Me}(hl:m'.length=m.length):du G O0 M0 H0 (λ_=>none) σ H (m'.map λ_=>Sl.un)/\Go O0 ow H (λ_=>none) H:=by
 refine ⟨⟨⟨by rw [List.length_map,hl]; exact R.len,R.keep,R.m0,λb z=>R.mutk b (z.elim .inl λ⟨_,e⟩=>by cases e),λi a e=>(by cases e),λi j a e _=>(by cases e),λi _=>rfl,λi s e=>?_⟩,λj d e=>?_⟩,λb o e _=>e,λi a e=>(by cases e),λ_ n=>n⟩
 ·rw [List.getElem?_map] at e
  cases q:m'[i]? with
  |none=>rw [q] at e; cases e
  |some s0=>rw [q] at e; cases e; rfl
 ·rw [List.getElem?_map] at e
  cases q:m'[j]? with
  |none=>rw [q] at e; cases e
  |some s0=>rw [q] at e; cases e
noncomputable def wN (ow:Os)(i j1 j2:Nat)(a a1 a2:Addr):Os:=λk=>if k=i then some a else if k=j1 then some a1 else if k=j2 then some a2 else ow k
theorem du.acG {i j1 j2:Nat}{p p1 p2:Addr}{d d1 d2:D}(R:du G O0 M0 H0 ow σ H m)(g:aL H H')(n:H p=none)(n1:H p1=none)(n2:H p2=none)(np1:p≠p1)(np2:p≠p2)(np3:p1≠p2)(hi:i<m.length)(h1:j1<m.length)(h2:j2<m.length)(ij1:i≠j1)(ij2:i≠j2)(jj:j1≠j2)
  (o:OV G (λb=>Ow O0 ow b\/b=p\/b=p1\/b=p2) H' p d) (o1:OV G (λb=>Ow O0 ow b\/b=p\/b=p1\/b=p2) H' p1 d1) (o2:OV G (λb=>Ow O0 ow b\/b=p\/b=p1\/b=p2) H' p2 d2):
  du G O0 M0 H0 (wN ow i j1 j2 p p1 p2) (σ.set i (some (.ref p))) H' (((m.set i (.ow d)).set j1 (.hd true p1 d1)).set j2 (.hd true p2 d2))/\Go O0 ow H (wN ow i j1 j2 p p1 p2) H':=by
 have q0:=R.toRel.Ib n
 have q1:=R.toRel.Ib n1
 have q2:=R.toRel.Ib n2
 have inv:∀k b,wN ow i j1 j2 p p1 p2 k=some b->(k=i/\b=p)\/(k=j1/\b=p1)\/(k=j2/\b=p2)\/(k≠i/\k≠j1/\k≠j2/\ow k=some b):=λk b e=>by
  unfold wN at e
  split at e
  ·rename_i q; cases e; exact .inl ⟨q,rfl⟩
  ·split at e
   ·rename_i q; cases e; exact .inr (.inl ⟨q,rfl⟩)
   ·split at e
    ·rename_i q; cases e; exact .inr (.inr (.inl ⟨q,rfl⟩))
    ·rename_i a b c; exact .inr (.inr (.inr ⟨a,b,c,e⟩))
 have out:∀b,Ow O0 (wN ow i j1 j2 p p1 p2) b->Ow O0 ow b\/b=p\/b=p1\/b=p2:=λb z=>by
  rcases z with z | ⟨k,e⟩
  ·exact .inl (.inl z)
  ·rcases inv k b e with ⟨_,z⟩ | ⟨_,z⟩ | ⟨_,z⟩ | ⟨_,_,_,z⟩
   ·exact .inr (.inl z)
   ·exact .inr (.inr (.inl z))
   ·exact .inr (.inr (.inr z))
   ·exact .inl (.inr ⟨k,z⟩)
 have sub:∀b,Ow O0 (wN ow i j1 j2 p p1 p2) b->Ow O0 ow b\/H b=none:=λb z=>by
  rcases out b z with z | z | z | z
  ·exact .inl z
  ·rw [z]; exact .inr n
  ·rw [z]; exact .inr n1
  ·rw [z]; exact .inr n2
 have R':=R.mono g
 have e0:wN ow i j1 j2 p p1 p2 i=some p:=if_pos rfl
 have e1:wN ow i j1 j2 p p1 p2 j1=some p1:=by unfold wN; rw [if_neg (Ne.symm ij1),if_pos rfl]
 have e2:wN ow i j1 j2 p p1 p2 j2=some p2:=by unfold wN; rw [if_neg (Ne.symm ij2),if_neg (Ne.symm jj),if_pos rfl]
 have en:∀k,k≠i->k≠j1->k≠j2->wN ow i j1 j2 p p1 p2 k=ow k:=λk a b c=>by unfold wN; rw [if_neg a,if_neg b,if_neg c]
 have ex:∀c,(((m.set i (.ow d)).set j1 (.hd true p1 d1)).set j2 (.hd true p2 d2))[c]? = if c=j2 then some (.hd true p2 d2) else if c=j1 then some (.hd true p1 d1) else if c=i then some (.ow d) else m[c]?:=λc=>by
  by_cases c2:c=j2
  ·subst c2; rw [if_pos rfl,List.getElem?_set_self (by simpa using h2)]
  ·rw [if_neg c2,List.getElem?_set_ne (Ne.symm c2)]
   by_cases c1:c=j1
   ·subst c1; rw [if_pos rfl,List.getElem?_set_self (by simpa using h1)]
   ·rw [if_neg c1,List.getElem?_set_ne (Ne.symm c1)]
    by_cases c0:c=i
    ·subst c0; rw [if_pos rfl,List.getElem?_set_self hi]
    ·rw [if_neg c0,List.getElem?_set_ne (Ne.symm c0)]
 refine ⟨⟨⟨by simp [R.len],R'.keep,R'.m0,λb z=>?_,λk a e=>?_,λk l a a1 a2=>?_,λk hk=>?_,λk s e=>?_⟩,λk dd e=>?_⟩,.of g,λk a e=>?_,(Go.refl (O0:=O0) (ow:=ow) g).dom⟩
 ·rcases out b z with z | z | z | z
  ·exact R'.mutk b z
  ·rw [z]; exact o.mut
  ·rw [z]; exact o1.mut
  ·rw [z]; exact o2.mut
 ·rcases inv k a e with ⟨_,z⟩ | ⟨_,z⟩ | ⟨_,z⟩ | ⟨_,_,_,z⟩
  ·rw [z]; exact λw=>q0 (.inl w)
  ·rw [z]; exact λw=>q1 (.inl w)
  ·rw [z]; exact λw=>q2 (.inl w)
  ·exact R.no0 k a z
 ·rcases inv k a a1 with ⟨u,z⟩ | ⟨u,z⟩ | ⟨u,z⟩ | ⟨_,_,_,z⟩ <;> rcases inv l a a2 with ⟨v,y⟩ | ⟨v,y⟩ | ⟨v,y⟩ | ⟨_,_,_,y⟩
  ·rw [u,v]
  ·exact absurd (z.symm.trans y) np1
  ·exact absurd (z.symm.trans y) np2
  ·exact absurd (.inr ⟨l,z ▸ y⟩) q0
  ·exact absurd (y.symm.trans z) np1
  ·rw [u,v]
  ·exact absurd (z.symm.trans y) np3
  ·exact absurd (.inr ⟨l,z ▸ y⟩) q1
  ·exact absurd (y.symm.trans z) np2
  ·exact absurd (y.symm.trans z) np3
  ·rw [u,v]
  ·exact absurd (.inr ⟨l,z ▸ y⟩) q2
  ·exact absurd (.inr ⟨k,y ▸ z⟩) q0
  ·exact absurd (.inr ⟨k,y ▸ z⟩) q1
  ·exact absurd (.inr ⟨k,y ▸ z⟩) q2
  ·exact R.inj k l a z y
 ·have hk':m.length<=k:=by simpa using hk
  rw [en k (by omega) (by omega) (by omega)]
  exact R.out k hk'
 ·rw [ex] at e
  by_cases c2:k=j2
  ·rw [if_pos c2] at e
   cases e
   rw [c2]
   exact ⟨e2,λ_=>R.toRel.G7 n2,(λz=>by cases z),o2.cu λb z=>.inl (out b z)⟩
  ·rw [if_neg c2] at e
   by_cases c1:k=j1
   ·rw [if_pos c1] at e
    cases e
    rw [c1]
    exact ⟨e1,λ_=>R.toRel.G7 n1,(λz=>by cases z),o1.cu λb z=>.inl (out b z)⟩
   ·rw [if_neg c1] at e
    by_cases c0:k=i
    ·rw [if_pos c0] at e
     cases e
     rw [c0]
     exact ⟨p,e0,R.toRel.G7 n,by rw [List.getElem?_set_self (by rw [R.len]; exact hi)],o.cu λb z=>.inl (out b z)⟩
    ·rw [if_neg c0] at e
     rw [en k c0 c1 c2,List.getElem?_set_ne (Ne.symm c0)]
     exact ((R.slot k s e).cu sub λ_ _ b _=>Classical.em _).mono g
 ·rw [ex] at e
  split at e
  ·cases e
  ·split at e
   ·cases e
   ·split at e
    ·cases e
    ·exact R.nb k dd e
 ·rcases inv k a e with ⟨_,z⟩ | ⟨_,z⟩ | ⟨_,z⟩ | ⟨_,_,_,z⟩
  ·rw [z]; exact .inr n
  ·rw [z]; exact .inr n1
  ·rw [z]; exact .inr n2
  ·exact .inl (.inr ⟨k,z⟩)
end
noncomputable def Yo (i j1 j2:Nat)(fs1:List ((Me->Res D)×(Me->Res D)))(k1 f1 k2 f2:Me->Res D)(fs2:List ((Me->Res D)×(Me->Res D)))(k:Me->Res (Fl×Me)):Me->Res (Fl×Me):=λm=>
 (Du fs1 m).bind λl1=>(k1 m).bind λc1=>(f1 m).bind λd1=>(k2 m).bind λc2=>(f2 m).bind λd2=>(Du fs2 m).bind λl2=>
  if l1.length+2+l2.length<=15/\i<m.length/\j1<m.length/\j2<m.length then
   Vl (λa1 a2=>(ofO (Ih [] [] (l1++(c1,.adr a1)::(c2,.adr a2)::l2))).bind λr=>k (((m.set i (.ow (.dct r.1 r.2))).set j1 (.hd true a1 d1)).set j2 (.hd true a2 d2))) m
  else .stuck
theorem DPs.app {G:Gx}{O:Addr->Prop}{H:Hp}:∀{ps qs:List (V×V)} {l r:List (D×D)},DPs G O H ps l->DPs G O H qs r->DPs G O H (ps++qs) (l++r)
 |_,_,_,_,.nil,h=>h
 |_,_,_,_,.cons a b t,h=>.cons a b (DPs.app t h)
section
variable {X:Cx}{E:XK}
theorem zB {O0 M0:Addr->Prop}{H0:Hp}{ow:Os}{σ:L2.St}{m:Me}{Hb:Hp}(rest:List (TE×TE)):∀(fs:List ((Me->Res D)×(Me->Res D))) {H:Hp} {K:List (D×D)->Prop} {Q:List (V×V)->Hp->Prop},aL Hb H->Rel (gx X) O0 M0 H0 ow σ H m->Pu (gx X) E (Du fs m) Hb K->
  (∀l ps H',K l->aL H H'->DPs (gx X) (Ow O0 ow) H' ps l->Aq rest σ H' λqs H2=>Q (ps++qs) H2)->Aq (RQ X E fs++rest) σ H Q
 |[],H,K,Q,_,R,q,f=>f [] [] H q (aL.refl _) .nil
 |g::r,H,K,Q,gb,R,q,f=>by
  refine ⟨O0,M0,H0,ow,m,R,q.bind.imp gb λkd q x H1 g1 hx=>⟨O0,M0,H0,ow,m,R.mono g1,q.bind.imp (gb.trans g1) λd q y H2 g2 hy=>?_⟩⟩
  refine zB rest r ((gb.trans g1).trans g2) ((R.mono g1).mono g2) q.bind λl ps H3 k g3 hl=>?_
  exact f _ ((x,y)::ps) _ k ((g1.trans g2).trans g3) (.cons ((hx.mono g2).mono g3) (hy.mono g3) hl)
theorem aL.back {H H':Hp}{p:Addr}(g:aL H H')(n:H' p=none):H p=none:=g.free n
theorem T3 {i j1 j2:Nat}{y:Str}{py pos dpos:Pos}{keys:List (Option Expr)}{values:List Expr}{rest:List Stmt}{fs1 fs2:List ((Me->Res D)×(Me->Res D))}{k1 f1 k2 f2:Me->Res D}{k:Me->Res (Fl×Me)}
  (hN:X.N.Nodup) (hi:X.N[i]? = some y) (hy:Loc X.env.scope y)
  (h:PPs X dpos keys values (RQ X E fs1++(tE (gx X) E k1,tN (gx X) E f1)::(tE (gx X) E k2,tN (gx X) E f2)::(RQ X E fs2++[]))) (hr:FSs X E rest k)
  (hall:keys.all (·.isSome)=true:=by rfl) (hl:keys.length=values.length:=by rfl) (h0:keys≠[]:=by exact (λz=>nomatch z)) (h15:keys.length<=15:=by decide) (ij1:i≠j1:=by decide) (ij2:i≠j2:=by decide) (jj:j1≠j2:=by decide)
  (hs:swapsWith (.Dict keys values dpos) (some (.Name y py)) pos.line X.env=pure false:=by rfl)
  (hf:X.fn y=true\/X.env.scope.names.lookup y=some .local:=by first | exact .inl rfl | exact .inr rfl | assumption):
  FSs X E (.Assign [.Name y py] (.Dict keys values dpos) pos::rest) (Yo i j1 j2 fs1 k1 f1 k2 f2 fs2 k):=by
 refine vq (HR (zM hN hi hy (V1 h hall hl h0 h15) hs hf) hr) λW σ H hE=>xq5 hE λO0 M0 H0 ow m R q=>?_
 intro p hp
 have g0:aL H (upd H p (.dK [])):=bQ hp _
 have R1:=R.toRel.more g0 hp (by rw [bA]; exact .inr (.inl ⟨[],rfl⟩))
 have ow_of:∀{O1:Addr->Prop} {b:Addr} {l:Addr},Ow (Op O1 l) ow b->Ow O1 ow b\/b=l:=λz=>Qw z
 refine zB _ fs1 g0 R1 (Ss.pu R.toRel q) λl1 ps1 H2 q g2 hl1=>?_
 have R2:=R1.mono g2
 have hq:=Ss.pu R.toRel q
 refine ⟨_,_,_,_,_,R2,hq.imp (g0.trans g2) λc1 q x1 H3 g3 hx1=>?_⟩
 have R3:=R2.mono g3
 have hq:=Ss.pu R.toRel q
 refine ⟨_,_,_,_,_,R3,hq.imp ((g0.trans g2).trans g3) λd1 q p1 H4 g4 n1 ov1=>?_⟩
 have R4:=R3.more g4 n1 ov1.mut
 have hq:=Ss.pu R.toRel q
 refine ⟨_,_,_,_,_,R4,hq.imp (((g0.trans g2).trans g3).trans g4) λc2 q x2 H5 g5 hx2=>?_⟩
 have R5:=R4.mono g5
 have hq:=Ss.pu R.toRel q
 refine ⟨_,_,_,_,_,R5,hq.imp ((((g0.trans g2).trans g3).trans g4).trans g5) λd2 q p2 H6 g6 n2 ov2=>?_⟩
 have R6:=R5.more g6 n2 ov2.mut
 have hq:=Ss.pu R.toRel q
 refine zB [] fs2 (((((g0.trans g2).trans g3).trans g4).trans g5).trans g6) R6 hq λl2 ps2 H7 q g7 hl2=>?_
 have R7:=R6.mono g7
 by_cases hc:l1.length+2+l2.length<=15/\i<m.length/\j1<m.length/\j2<m.length
 case neg=>rw [if_neg hc] at q; exact q.elim
 rw [if_pos hc] at q
 obtain ⟨hlen,li,lj1,lj2⟩:=hc
 unfold Vl at q
 split at q
 case isFalse=>exact q.elim
 rename_i HU
 have sp:=Classical.choose_spec HU
 generalize hfd:Classical.choose HU=fd at sp q
 obtain ⟨fr,dd⟩:=fd
 have gA:aL H H7:=((((((g0.trans g2).trans g3).trans g4).trans g5).trans g6).trans g7)
 have np1:p≠p1:=λz=>by
  have:H3 p=some (.dK []):=g3 _ _ (g2 _ _ bA)
  rw [z,n1] at this; cases this
 have np2:p≠p2:=λz=>by
  have:H5 p=some (.dK []):=g5 _ _ (g4 _ _ (g3 _ _ (g2 _ _ bA)))
  rw [z,n2] at this; cases this
 have np3:p1≠p2:=λz=>by
  have m1:=ov1.mut
  have:H5 p1≠none:=λw=>by
   have w4:H4 p1=none:=g5.free w
   rw [w4] at m1
   rcases m1 with ⟨_,e⟩ | ⟨_,e⟩ | ⟨_,e⟩ <;> cases e
  exact this (z ▸ n2)
 have hp1:H p1=none:=(g0.trans (g2.trans g3)).free n1
 have hp2:H p2=none:=(g0.trans (g2.trans (g3.trans (g4.trans g5)))).free n2
 obtain ⟨m',eq,hlm⟩:=sp p1 p2 np3
 have eq:((ofO (Ih [] [] (l1++(c1,.adr p1)::(c2,.adr p2)::l2))).bind λr=>k (((m.set i (.ow (.dct r.1 r.2))).set j1 (.hd true p1 d1)).set j2 (.hd true p2 d2)))=.ok (.rt fr dd,m'):=eq
 cases em:Ih [] [] (l1++(c1,.adr p1)::(c2,.adr p2)::l2) with
 |none=>rw [em] at eq; cases eq
 |some r=>
  rw [em] at eq
  simp only [qy,Res.pG] at eq
  let OO:Addr->Prop:=λb=>Ow O0 ow b\/b=p\/b=p1\/b=p2
  have toOO:∀b,OO b->Ow (Op (Op (Op O0 p) p1) p2) ow b:=λb z=>by
   rcases z with (z | z) | z | z | z
   ·exact .inl (.inl (.inl (.inl z)))
   ·exact .inr z
   ·exact .inl (.inl (.inl (.inr z)))
   ·exact .inl (.inl (.inr z))
   ·exact .inl (.inr z)
  have fromOO:∀b,Ow (Op (Op (Op O0 p) p1) p2) ow b->OO b:=λb z=>by
   rcases z with (((z | z) | z) | z) | z
   ·exact .inl (.inl z)
   ·exact .inr (.inl z)
   ·exact .inr (.inr (.inl z))
   ·exact .inr (.inr (.inr z))
   ·exact .inl (.inr z)
  have a1:DPs (gx X) OO H7 ps1 l1:=(hl1.cu (O':=OO) (λb z=>by
   rcases z with z | z | z | z
   ·exact .inl (z.elim (λw=>.inl (.inl w)) .inr)
   ·exact .inl (.inl (.inr z))
   ·exact .inr (by rw [z]; exact g3.free n1)
   ·exact .inr (by rw [z]; exact (g3.trans (g4.trans g5)).free n2))).mono (g3.trans (g4.trans (g5.trans (g6.trans g7))))
  have a2:DV (gx X) OO H7 x1 c1:=(hx1.cu (O':=OO) (λb z=>by
   rcases z with z | z | z | z
   ·exact .inl (z.elim (λw=>.inl (.inl w)) .inr)
   ·exact .inl (.inl (.inr z))
   ·exact .inr (by rw [z]; exact n1)
   ·exact .inr (by rw [z]; exact (g4.trans g5).free n2))).mono (g4.trans (g5.trans (g6.trans g7)))
  have a3:DV (gx X) OO H7 x2 c2:=(hx2.cu (O':=OO) (λb z=>by
   rcases z with z | z | z | z
   ·exact .inl (z.elim (λw=>.inl (.inl (.inl w))) .inr)
   ·exact .inl (.inl (.inl (.inr z)))
   ·exact .inl (.inl (.inr z))
   ·exact .inr (by rw [z]; exact n2))).mono (g6.trans g7)
  have a4:DPs (gx X) OO H7 ps2 l2:=hl2.cu λb z=>.inl (toOO b z)
  have dps:DPs (gx X) OO H7 (ps1++(x1,.ref p1)::(x2,.ref p2)::ps2) (l1++(c1,.adr p1)::(c2,.adr p2)::l2):=a1.app (.cons a2 (.adr p1) (.cons a3 (.adr p2) a4))
  obtain ⟨kvs,e1,e2,e3⟩:=QG (acc:=[]) dps em rfl .nil
  have len:=dps.len
  rw [e1,List.length_map] at len
  have len2:kvs.length<=15:=by simp at len; omega
  have e7:H7 p=some (.dK []):=g7 _ _ (g6 _ _ (g5 _ _ (g4 _ _ (g3 _ _ (g2 _ _ bA)))))
  refine ⟨e7,kvs,by rw [List.append_nil] at *; exact e1,len2,?_⟩
  have mOO:∀b,OO b->gY (H7 b):=λb z=>R7.mutk b (toOO b z)
  have kp:Kp OO H7 (upd H7 p (.dK (nY [] kvs))):=λc o e n=>by rw [cO (λz=>n (.inr (.inl z)))]; exact e
  have gB:aL H (upd H7 p (.dK (nY [] kvs))):=λc o e=>by
   rw [cO (λz=>by rw [z,hp] at e; cases e)]
   exact gA _ _ e
  have b1:OV (gx X) OO (upd H7 p (.dK (nY [] kvs))) p (.dct r.1 r.2):=⟨_,_,bA,e2,rfl,e3.kp mOO kp⟩
  have b2:OV (gx X) OO (upd H7 p (.dK (nY [] kvs))) p1 d1:=by
   refine OV.kp mOO kp (cO (Ne.symm np1)) ?_
   refine (ov1.cu (O':=OO) λb z=>?_).mono (g5.trans (g6.trans g7))
   rcases z with z | z | z | z
   ·exact .inl (.inl (z.elim (λw=>.inl (.inl w)) .inr))
   ·exact .inl (.inl (.inl (.inr z)))
   ·exact .inl (.inr z)
   ·exact .inr (by rw [z]; exact g5.free n2)
  have b3:OV (gx X) OO (upd H7 p (.dK (nY [] kvs))) p2 d2:=by
   refine OV.kp mOO kp (cO (Ne.symm np2)) ?_
   refine (ov2.mono g7).cu (O':=OO) λb z=>.inl ?_
   rcases z with z | z | z | z
   ·exact .inl (z.elim (λw=>.inl (.inl (.inl w))) .inr)
   ·exact .inl (.inl (.inl (.inr z)))
   ·exact .inl (.inl (.inr z))
   ·exact .inr z
  obtain ⟨R8,g8⟩:=R.acG gB hp hp1 hp2 np1 np2 np3 li lj1 lj2 ij1 ij2 jj b1 b2 b3
  refine ⟨O0,M0,H0,_,_,R8,?_⟩
  rw [eq]
  intro v ow' σ' H' R9 g9 hv hfr
  obtain ⟨R10,g10⟩:=R9.forget (m':=m) hlm.symm
  refine q v _ σ' H' R10 ((g8.trans g9).trans g10) (hv.cu λb z=>.inl (z.elim .inl λ⟨_,e⟩=>by cases e)) λz=>?_
  obtain ⟨p0,u1,u2,u3⟩:=hfr z
  exact ⟨p0,u1,u2,u3.cu λb z=>.inl (z.elim (λw=>.inl (w.elim .inl λ⟨_,e⟩=>by cases e)) .inr)⟩
end
open PySem PySem.Spec PyProof.Rows L2 Hd
section
variable {X:Cx}{E:XK}{e:Expr}{fa:Me->Res (D×Me)}{pos apos cpos np:Pos}{x:Str}
noncomputable def ql (i:Nat)(f:Me->Res (D×Me)):Me->Res (Fl×Me):=λm=>(ofO (pU m i)).bind λ_=>(f m).bind λp=>(ofO (pU p.2 i)).bind λo=>if o.2.length<sizeLine then .ok (.nx,putL p.2 i o.1 (o.2++[p.1])) else .stuck
theorem zc (i:Nat)(he:FX X E e fa)(hN:X.N[i]? = some x:=by rfl)(hv:Vis X.env.scope x:=by first | exact Or.inl rfl | exact Or.inr (Or.inl rfl) | exact Or.inr (Or.inr rfl))(hd:(x == ("__debug__" : Str))=false:=by decide)(hcd:(x == ("__classdict__" : Str))=false:=by decide)
  (hbase:attributeBase (.Name x np) "append" X.env (eval (.Name x np) X.env)=eval (.Name x np) X.env:=by rfl)
  (hfew:((backTo cpos (starEach [e] X.env)).all (λx=>!x.1) && (backToKw cpos (keywordEach [] X.env)).all (λx=>x.1.isSome) && decide ([e].length+([]:List Keyword).length+(if ([]:List Keyword).isEmpty then 0 else 1)<30))=true:=by rfl)
  (hline:(apos.endLine == cpos.line)=true:=by rfl) (hs:starEach [e] X.env=(false,eval e X.env)::starEach [] X.env:=by rfl) (hplain:(backTo cpos (starEach [] X.env)).any (·.1)=false:=by rfl)
  (hsw:swapsWith (.Call (.Attribute (.Name x np) "append" apos) [e] [] cpos) none pos.line X.env=pure false:=by rfl):
  FS X E (.Expr (.Call (.Attribute (.Name x np) "append" apos) [e] [] cpos) pos) (ql i fa):=
 cM (vW (Hv PySem.F.plainAttrs_list PySem.F.slot_list_append PySem.F.type_list_append wX (jC hN hv hd hcd) (jQ he rA hs) hbase hfew hline hs hplain) hsw) λW σ H hE=>xq5 hE λO0 M0 H0 ow m R q=>by
  obtain ⟨o,ho,q⟩:=Ss.ofO q
  obtain ⟨k,ds⟩:=o
  obtain ⟨a,xs,e1,e2,e3,e4,e5⟩:=qz R.toRel ho
  refine ⟨_,e2,.inl ⟨rfl,xs,SqL.of e3⟩,O0,M0,H0,ow,m,R,(Xs.ss (k:=λd m'=>(ofO (pU m' i)).bind λo=>if o.2.length<sizeLine then .ok (.nx,putL m' i o.1 (o.2++[d])) else .stuck) q).imp (Go.refl (aL.refl _)) λd H1 m1 R1 g1 em q v hv=>?_⟩
  have q:=q m1 em R1
  obtain ⟨o,ho,q⟩:=Ss.ofO q
  obtain ⟨k',ds'⟩:=o
  obtain ⟨a',xs',f1,f2,f3,f4,f5⟩:=qz R1.toRel ho
  rw [e1] at f1
  cases f1
  by_cases hz:ds'.length<sizeLine
  ·have q:Ss (gx X) E O0 M0 H0 ow H1 W (if ds'.length<sizeLine then .ok (.nx,putL m1 i k' (ds'++[d])) else .stuck):=q
   rw [if_pos hz] at q
   obtain ⟨R2,g2⟩:=R1.put (es:=ds'++[d]) (ys:=xs'++[v]) e1 f5 (jR f4 (.cons hv .nil))
   exact ⟨a,xs',v,rfl,rfl,f3,by rw [bU f4]; exact hz,q _ _ _ R2 g2⟩
  ·have q:Ss (gx X) E O0 M0 H0 ow H1 W (if ds'.length<sizeLine then .ok (.nx,putL m1 i k' (ds'++[d])) else .stuck):=q
   rw [if_neg hz] at q; exact q.elim
noncomputable def uC (f:Me->Res (D×Me)):Me->Res (Fl×Me):=λm=>(f m).bind λp=>.ok (.rt false p.1,p.2)
theorem Hk (he:FX X E e fa):FS X E (.Return (some e) pos) (uC fa):=cM (Dk he) λW σ H hE=>xq5 hE λO0 M0 H0 ow m R q=>by
 refine ⟨O0,M0,H0,ow,m,R,(Xs.ss (k:=λd m'=>.ok (.rt false d,m')) q).imp (Go.refl (aL.refl _)) λd H1 m1 R1 g1 e1 q v hv=>?_⟩
 exact q m1 e1 R1 v ow σ H1 R1 (Go.refl (aL.refl _)) hv λz=>by cases z
end
end F
namespace L2
open PySem PySem.Spec PyProof.Rows
section
variable {X:Cx}{tg:Expr}
end
end L2
namespace F
open PySem PySem.Spec PyProof.Rows L2 Hd
noncomputable def acK (f:Me->Res (List D)):Me->Res (List D):=λm=>(f m).bind λd=>match d with
 |[.int i,.int j,.int (-1)]=>if -1000000000<=i/\i<=1000000000/\-1000000000<=j/\j<=1000000000 then .ok ((List.range (i - j).toNat).map λ(k:Nat)=>D.int (i - k)) else .stuck
 |_=>.stuck
section
variable {X:Cx}{E:XK}{tg e a b c:Expr}{f:Me->Res D}{fs:Me->Res (List D)}{fa:Me->Res (D×Me)}{p pos:Pos}
noncomputable def qP:Me->Res (Fl×Me):=λ_=>.stuck
theorem nG {st:Stmt}:FS X E st qP:=λ_ _ _ _ _ _ ⟨_,_,_,_,_,_,z⟩=>z.elim
variable {x:Str}{np apos cpos:Pos}
end
noncomputable def Lh (i:Nat)(fk fv:Me->Res D):Me->Res (D×Me):=λm=>(ofO (Bk m i)).bind λo=>(fk m).bind λk=>(fv m).bind λd=>(ofO (ug k)).bind λk=>
 if o.2.1.length<sizeLine then .ok (match cQ o.2.1 o.2.2 k with | some d'=>(d',m) | none=>(d,rO m i o.1 (o.2.1++[k]) (o.2.2++[d]))) else .stuck
section
variable {X:Cx}{E:XK}{e ke:Expr}{f fk:Me->Res D}{pos np apos cpos:Pos}{x:Str}
theorem YZ {jj:Nat}(i:Nat)(hr:iR jj X.A)(hk:FE X E ke fk)(he:FE X E e f)(hm:M2 X (.Name x np) "setdefault" apos ke e cpos)(hN:X.N[i]? = some x:=by rfl)(hv:Vis X.env.scope x:=by first | exact Or.inl rfl | exact Or.inr (Or.inl rfl) | exact Or.inr (Or.inr rfl))(hd:(x == ("__debug__" : Str))=false:=by decide)(hcd:(x == ("__classdict__" : Str))=false:=by decide):
  FX X E (.Call (.Attribute (.Name x np) "setdefault" apos) [ke,e] [] cpos) (Lh i fk f):=
 bJ (UT (jF hr) (jC hN hv hd hcd) hk he hm) λσ H Q hE=>xq5 hE λO0 M0 H0 ow m R q=>by
  obtain ⟨o,ho,q⟩:=(Xs.pu R.toRel q).ofO
  obtain ⟨k,ks,ds⟩:=o
  obtain ⟨a,kvs,e1,e2,e3,e4,e5,e6⟩:=Fb R.toRel ho
  refine ⟨_,e2,a,rfl,.inr ⟨kvs,.inl e3⟩,O0,M0,H0,ow,m,R.toRel,(Xs.pu R.toRel q).imp (aL.refl _) λdk q vk H1 g1 hvk=>?_⟩
  have R1:=R.mono g1
  refine ⟨O0,M0,H0,ow,m,R1.toRel,(Xs.pu R.toRel q).imp g1 λd q v H2 g2 hv=>?_⟩
  have R2:=R1.mono g2
  obtain ⟨ky,h1,q⟩:=(Xs.pu R.toRel q).ofO
  obtain ⟨b,rfl,hb⟩:=qY (.inl (hvk.mono g2)) h1
  have e3':=g2 _ _ (g1 _ _ e3)
  have e5':=(e5.mono g1).mono g2
  by_cases hz:ks.length<sizeLine
  ·rw [if_pos hz] at q
   rcases yO (k:=ky) e5' with ⟨v',d',va,vb,dv⟩ | ⟨va,vb⟩
   ·rw [e4] at vb
    have q':=q
    rw [vb] at q'
    refine ⟨kvs,ky,b,e3',rfl,hb,by rw [← List.length_map (f:=(·.1)),e4]; exact hz,λw ev=>?_,λev=>?_⟩
    ·rw [va] at ev; cases ev
     exact q' _ R2 (Go.refl (g1.trans g2)) _ dv
    ·rw [va] at ev; cases ev
   ·rw [e4] at vb
    have q':=q
    rw [vb] at q'
    refine ⟨kvs,ky,b,e3',rfl,hb,by rw [← List.length_map (f:=(·.1)),e4]; exact hz,λw ev=>?_,λev=>?_⟩
    ·rw [va] at ev; cases ev
    ·obtain ⟨R3,g3⟩:=R2.rO (ls:=ks++[ky]) (es:=ds++[d]) (kvs:=kvs++[(ky,v)]) e1 e6 (by simp [e4]) (by rw [List.map_append]; exact jR e5' (.cons hv .nil))
     exact q' _ R3 ((Go.refl (g1.trans g2)).trans g3) _ (hv.go R2.mutk g3.ev)
  ·rw [if_neg hz] at q; exact q.elim
theorem Xn:seqRepeat? (.type "int")=pure none:=by
 have e:typeLookup (.type "int") ("__mul__" : Str)=pure (some (.builtin "int.__mul__")):=PySem.F.slot_int_mul.lookup
 have e2:typeLookup (.type "int") ("__rmul__" : Str)=pure (some (.builtin "int.__rmul__")):=PySem.F.slot_int_rmul.lookup
 have s1:seqSlot? (.type "int") ("__mul__" : Str)=pure none:=by unfold seqSlot?; rw [e,pure_bind,if_pos (by decide +kernel)]
 have s2:seqSlot? (.type "int") ("__rmul__" : Str)=pure none:=by unfold seqSlot?; rw [e2,pure_bind,if_pos (by decide +kernel)]
 unfold seqRepeat?
 rw [s1,s2]
 rfl
theorem Pg {prog:Program}{w:World}{A:Around}{E:Value->Shared->Prop}{s:Shared}{x:Str}{n:Int}{t u:Tok}{Q:Value->Shared->Prop}(hok:MulOk x n)(h:∀t' k,Q (.str (Txt.mul x n) t') { s with toks:=k }):
  wpAny (model prog w) A (binaryOp .Mult (.int n u) (.str x t)) Q E s:=by
 have post:(if n<1 then Made.str Str.empty else if (n == 1 || x.length == 0)=true then Made.val (.str x t) else Made.str ⟨(List.replicate n.toNat x.cps).foldl (· ++ ·) #[]⟩).post Q s:=by
  unfold Txt.mul at h
  by_cases h1:n<1
  ·rw [if_pos h1]; have h':=h s.toks (s.toks+1); rw [if_pos h1] at h'; exact ⟨by decide,h'⟩
  ·rw [if_neg h1]; refine post_val_or_made (λhc=>fits_reps (hok.2.2 h1 (by simpa using hc))) λt' k=>?_
   have h':=h t' k; rw [if_neg h1] at h'; exact h'
 unfold binaryOp
 refine wpAny_holding ?_
 refine wpAny_bind ?_
 simp only [Operator.info,binaryOp1]
 refine wpAny_bind (wpAny_typeOf (typeIs_int s n u) (wpAny_bind (wpAny_typeOf (typeIs_str s x t) (wpAny_bind (wpAny_of_eq PySem.F.fills_int_mul ?_)))))
 simp only [show (Value.type "int" == Value.type "str")=false by decide,Bool.false_eq_true,if_false]
 refine wpAny_bind (wpAny_of_eq noFill_str_mul ?_)
 simp only [pure_bind,Bool.true_and,Bool.false_and,Bool.and_false,Bool.false_eq_true,if_false,if_true,Bool.not_false,Bool.and_self]
 refine wpAny_bind (wpAny_tryMethod_declines (typeIs_int s n u) PySem.F.slot_int_mul (call_gives PySem.F.slot_int_mul (typeIs_int s n u) PySem.F.entry_int_mul (PySem.F.args_int_mul_2 _ _) (AutoIntG3.int___mul___int_str_0 n u x t) ?_))
 refine ⟨rfl,?_⟩
 refine wpAny_pure ?_
 refine wpAny_bind (wpAny_typeOf (typeIs_int s n u) ?_)
 refine wpAny_bind (wpAny_of_eq Xn ?_)
 refine wpAny_bind (wpAny_typeOf (typeIs_str s x t) ?_)
 refine wpAny_bind (wpAny_of_eq repeat_str ?_)
 unfold sequenceRepeat
 refine wpAny_bind (wpAny_specialOf (typeIs_int s n u) PySem.F.slot_int_index.lookup ?_)
 refine wpAny_bind (wpAny_rule ?_)
 exact call_gives PySem.F.slot_str_mul (typeIs_str s x t) PySem.F.entry_str_mul (PySem.F.args_str_mul_2 _ _) (gives_str_mul x n t u hok.1 hok.2.1 hok.2.2) post
noncomputable def Uj:D->D->Option D
 | .int n,.str z=>if 0<=n/\n<=1000/\z.length<=1000 then some (.str (Txt.mul z n)) else none
 |_,_=>none
theorem Rt:OpR X (binaryOp .Mult) (rG (gx X) Uj):=by
 intro pins s σ H x y v u Q I rx ry h
 obtain ⟨O,d,e,r,m,hx,hy,hr,q⟩:=h
 match d,e,hr with
 | .int n,.str z,hr=>
  obtain ⟨⟨h0,h1,hz⟩,rfl⟩:=oif hr
  cases cG hx
  cases jA hy
  obtain ⟨t,rfl⟩:=rx
  obtain ⟨t2,rfl⟩:=ry
  exact Pg (mulOk_of h0 h1 hz) λt' k=>Mx (tk:=k) I q
end
end F
namespace L2
open PySem PySem.Spec PyProof.Rows
section
variable {X:Cx}{e st:Expr}{te:TE}{tst:TO}{p2 pos:Pos}
end
end L2
namespace F
open PySem PySem.Spec PyProof.Rows L2 Hd
section
variable {X:Cx}{E:XK}{e st:Expr}{f:Me->Res D}{fk:Me->Res (Option Int)}{p2 pos:Pos}
end
end F
namespace Pk
open PySem L2 Hd F
noncomputable section
noncomputable def jW : Me → Res Bool :=
 (aM gNe (ak 3) (fC (.int 0)))
noncomputable def jZ : Me → Res (Fl × Me) :=
 (aK (bu 4 (au bO (ak 2) (ak 3)))
 (aK (bu 2 (aH 3))
 (bu 3 (aH 4))))
noncomputable def o9 : Me → Res (Fl × Me) :=
 (qg jW jZ)
noncomputable def mK (l_3 : Me → Res (Fl × Me)) : Me → Res (Fl × Me) :=
 (aK (bu 2 (aW Ho (aj (ak 0) aA)))
 (aK (bu 3 (aW Ho (aj (ak 1) aA)))
 (aK l_3
 (bD (aH 2)))))
noncomputable def mV : Me → Res (Fl × Me) :=
 (mK o9)
noncomputable def gU:List D->Res (Bool×D):=aY 5 2 mV
noncomputable def vZ (φ_common_divisor : List D → Res (Bool × D)) : Me → Res (Fl × Me) :=
 (aK (bu 2 (fFn φ_common_divisor (aj (aH 0) (aj (aH 1) aA))))
 (aK (gIf (aM gLt (ak 1) (fC (.int 0))) (bu 2 (fUn uc (ak 2))) gNx)
 (bD (aU (aj (au eQ (ak 0) (ak 2)) (aj (au eQ (ak 1) (ak 2)) aA))))))
noncomputable def wF : Me → Res (Fl × Me) :=
 (vZ gU)
noncomputable def lO:List D->Res (Bool×D):=aY 3 2 wF
noncomputable def Jt (φ_lowest : List D → Res (Bool × D)) : Me → Res (Fl × Me) :=
 (bD (fFn φ_lowest (aj (au cF (au lM (au gIx (ak 0) (fC (.int 0))) (au gIx (ak 1) (fC (.int 1)))) (au lM (au gIx (ak 1) (fC (.int 0))) (au gIx (ak 0) (fC (.int 1))))) (aj (au lM (au gIx (ak 0) (fC (.int 1))) (au gIx (ak 1) (fC (.int 1)))) aA))))
noncomputable def JL : Me → Res (Fl × Me) :=
 (Jt lO)
noncomputable def zX:List D->Res (Bool×D):=aY 2 2 JL
noncomputable def Dj : Me → Res (Fl × Me) :=
 (bD (rn gLt (au lM (au gIx (ak 0) (fC (.int 0))) (au gIx (ak 1) (fC (.int 1)))) (au lM (au gIx (ak 1) (fC (.int 0))) (au gIx (ak 0) (fC (.int 1))))))
noncomputable def FQ : Me → Res (Fl × Me) :=
 Dj
noncomputable def wC:List D->Res (Bool×D):=aY 2 2 FQ
noncomputable def xP : Me → Res (Fl × Me) :=
 (bu 1 (fFn zX (aj (aH 1) (aj (aH 2) aA))))
noncomputable def BZ : Me → Res (Fl × Me) :=
 (jD (fO (aH 0)) (hName 2) xP)
noncomputable def Fg (l_2 : Me → Res (Fl × Me)) : Me → Res (Fl × Me) :=
 (aK (bu 1 (fC (.tup [(.int 0), (.int 1)])))
 (aK l_2
 (bD (aH 1))))
noncomputable def Dc : Me → Res (Fl × Me) :=
 (Fg BZ)
noncomputable def vX:List D->Res (Bool×D):=aY 3 1 Dc
noncomputable def oA : Me → Res D :=
 (bZ 2 [] (o7 (au gIx (ak 0) (fUn uc (fC (.int 1))))) (jl 2 (bj (hName 0) (bj (hName 1) iW))) dX (aH 1))
noncomputable def iH (l_1 : Me → Res D) : Me → Res (Fl × Me) :=
 (aK (gIf (aM gEq (au gIx (ak 0) (fC (.int 0))) (fC (.str "end"))) (jz (gM aA)) gNx)
 (jz l_1))
noncomputable def uB : Me → Res (Fl × Me) :=
 (iH oA)
noncomputable def gh:List D->Res (Bool×D):=aY 1 1 uB
noncomputable def p6 : Me → Res D :=
 (aU (aj (au cF (au gIx (ak 2) (fC (.int 0))) (aU (aj (aH 0) aA))) (aj (aH 1) aA)))
noncomputable def nA : Me → Res D :=
 (bZ 2 [3] (aaw (aj (fFn gh (aj (au gIx (ak 3) (fC (.int 1))) aA)) aA)) (jl 2 (bj (hName 0) (bj (hName 1) iW))) dX p6)
noncomputable def m6 : Me → Res Bool :=
 (aM gGt (aW iU (aj (ak 2) aA)) (fC (.int 0)))
noncomputable def ni : Me → Res (Fl × Me) :=
 (aK (Ek 3 2)
 (aK (iQ 1 (aH 3))
 (aK (bu 4 nA)
 (Gb 2 (aW Sx (aj (ak 4) aA))))))
noncomputable def Bh : Me → Res (Fl × Me) :=
 (qg m6 ni)
noncomputable def pK (l_5 : Me → Res (Fl × Me)) : Me → Res (Fl × Me) :=
 (aK (jE 1 (gM aA))
 (aK (jE 2 (gM (aj (aU (aj (aU aA) (aj (aH 0) aA))) aA)))
 (aK l_5
 (uw 1))))
noncomputable def xW : Me → Res (Fl × Me) :=
 (pK Bh)
noncomputable def eF:List D->Res (Bool×D):=aY 5 1 xW
noncomputable def rE : Me → Res D :=
 (bZ 2 [] (o7 (au gIx (ak 0) (fC (.int 3)))) (jl 2 (bj (hName 0) (bj (hName 1) iW))) dX (aH 0))
noncomputable def uO (l_1 : Me → Res D) : Me → Res (Fl × Me) :=
 (bD (aW gP (aj l_1 aA)))
noncomputable def uU : Me → Res (Fl × Me) :=
 (uO rE)
noncomputable def pB:List D->Res (Bool×D):=aY 1 1 uU
noncomputable def gO : Me → Res (Fl × Me) :=
 (aK (gIf (aM gNe (au gIx (ak 0) (fC (.int 0))) (fC (.str "move"))) (bD (aH 1)) gNx)
 (aK (bu 3 (aU (aj (au gIx (ak 0) (fC (.int 2))) (aj (au gIx (au gIx (au gIx (ak 0) (fC (.int 3))) (ak 2)) (fC (.int 0))) aA))))
 (aK (gIf (aM gEq (au gIx (ak 0) (fC (.int 1))) (fC (.int 1))) (bD (aU (aj (au cF (au gIx (ak 1) (fC (.int 0))) (aU (aj (aH 3) aA))) (aj (au gIx (ak 1) (fC (.int 1))) aA)))) gNx)
 (bD (aU (aj (au gIx (ak 1) (fC (.int 0))) (aj (au cF (au gIx (ak 1) (fC (.int 1))) (aU (aj (aH 3) aA))) aA)))))))
noncomputable def gR : Me → Res (Fl × Me) :=
 gO
noncomputable def dD:List D->Res (Bool×D):=aY 4 3 gR
noncomputable def cU : Me → Res (Fl × Me) :=
 (Uc 1 (au cF (ak 3) (aU (aj (aH 5) aA))) (fFn dD (aj (aH 4) (aj (au vQ (ak 1) (ak 3)) (aj (aH 5) aA)))))
noncomputable def gJ : Me → Res (Fl × Me) :=
 (jD (uo (aj (aW iU (aj (fFn gh (aj (aH 4) aA)) aA)) aA)) (hName 5) cU)
noncomputable def bc : Me → Res (Fl × Me) :=
 (aK (iQ 2 (aU (aj (aH 3) (aj (aH 4) (aj (au vQ (ak 1) (ak 3)) aA)))))
 gJ)
noncomputable def km : Me → Res (Fl × Me) :=
 (jD (fO (fFn eF (aj (aH 0) aA))) (jl 2 (bj (hName 3) (bj (hName 4) iW))) bc)
noncomputable def fL (l_4 : Me → Res (Fl × Me)) : Me → Res (Fl × Me) :=
 (aK (jE 1 (J6 (aU aA) (aU (aj (aU aA) (aj (aU aA) aA)))))
 (aK (jE 2 (gM aA))
 (aK l_4
 (uw 2))))
noncomputable def lY : Me → Res (Fl × Me) :=
 (fL km)
noncomputable def bM:List D->Res (Bool×D):=aY 6 1 lY
noncomputable def vH (φ_words_at : List D → Res (Bool × D)) : Me → Res (Fl × Me) :=
 (bD (aU (aj (au gIx (ak 0) (fC (.int 1))) (aj (au gIx (ak 0) (fC (.int 2))) (aj (fFn φ_words_at (aj (aH 0) aA)) (aj (au gIx (ak 1) (au gC (au gIx (ak 0) (fC (.int 1))) (fC (.int 1)))) aA))))))
noncomputable def wB : Me → Res (Fl × Me) :=
 (vH pB)
noncomputable def nH:List D->Res (Bool×D):=aY 2 2 wB
noncomputable def iw : Me → Res (Fl × Me) :=
 (gIf (aM gEq (au gIx (ak 3) (fC (.int 0))) (fC (.str "move"))) (Vw 1 (aU (aj (au gIx (ak 3) (fC (.int 1))) (aj (au gIx (ak 3) (fC (.int 2))) aA))) (fFn nH (aj (aH 3) (aj (aH 4) aA)))) gNx)
noncomputable def wG : Me → Res (Fl × Me) :=
 (jD (fO (fFn bM (aj (aH 0) aA))) (jl 3 (bj (hName 2) (bj (hName 3) (bj (hName 4) iW)))) iw)
noncomputable def q9 (l_2 : Me → Res (Fl × Me)) : Me → Res (Fl × Me) :=
 (aK (jE 1 BK)
 (aK l_2
 (jz (JF (ak 1)))))
noncomputable def zg : Me → Res (Fl × Me) :=
 (q9 wG)
noncomputable def mH:List D->Res (Bool×D):=aY 5 1 zg
noncomputable def su : Me → Res D :=
 (bZ 1 [1] (fO (fFn mH (aj (aH 0) aA))) (hName 0) (aM gEq (au gIx (ak 0) (fC (.int 0))) (ak 1)) (aH 0))
noncomputable def w5 (l_1 : Me → Res D) : Me → Res (Fl × Me) :=
 (jz l_1)
noncomputable def wZ : Me → Res (Fl × Me) :=
 (w5 su)
noncomputable def qx:List D->Res (Bool×D):=aY 2 2 wZ
noncomputable def n6 : Me → Res D :=
 (aW iU (aj (au gIx (ak 0) (fC (.int 2))) aA))
noncomputable def nZ : Me → Res D :=
 (bZ 1 [] (fO (ak 0)) (hName 0) dX n6)
noncomputable def p7 (l_2 : Me → Res D) : Me → Res (Fl × Me) :=
 (bD (aW RK (aj l_2 aA)))
noncomputable def pZ : Me → Res (Fl × Me) :=
 (p7 nZ)
noncomputable def jH:List D->Res (Bool×D):=aY 1 1 pZ
noncomputable def mW : Me → Res D :=
 (bZ 2 [] (o7 (au gIx (ak 0) (fC (.int 2)))) (jl 2 (bj (hName 0) (bj (hName 1) iW))) dX (aH 0))
noncomputable def jc (l_1 : Me → Res D) : Me → Res (Fl × Me) :=
 (aK (gIf (aM gEq (au gIx (ak 0) (fC (.int 0))) (fC (.str "end"))) (jz (gM (aj (au gIx (ak 0) (fC (.int 1))) aA))) gNx)
 (aK (gIf (aM gEq (au gIx (ak 0) (fC (.int 0))) (fC (.str "deal"))) (jz l_1) gNx)
 (jz (gM aA))))
noncomputable def jm : Me → Res (Fl × Me) :=
 (jc mW)
noncomputable def bY:List D->Res (Bool×D):=aY 1 1 jm
noncomputable def uZ : Me → Res (Fl × Me) :=
 (bD (fOr (rn gGt (aW Ho (aj (au gIx (ak 0) (fC (.int 0))) aA)) (fC (.int 999999999999))) (rn gGt (au gIx (ak 0) (fC (.int 1))) (fC (.int 999)))))
noncomputable def uX : Me → Res (Fl × Me) :=
 uZ
noncomputable def o4:List D->Res (Bool×D):=aY 1 1 uX
noncomputable def gH : Me → Res D :=
 (rn gGt (aW iU (aj (ak 0) aA)) (fC (.int 12)))
noncomputable def gK : Me → Res D :=
 (bZ 2 [] (fO (ak 1)) (jl 2 (bj (hName 0) (bj (hName 1) iW))) dX gH)
noncomputable def iK (φ_places_of : List D → Res (Bool × D)) (l_2 : Me → Res D) : Me → Res (Fl × Me) :=
 (aK (bu 1 (fFn φ_places_of (aj (aH 0) aA)))
 (aK (gIf (aM gGt (aW iU (aj (ak 1) aA)) (fC (.int 64))) qP gNx)
 (gIf (fTv (aW Wf (aj l_2 aA))) qP gNx)))
noncomputable def iI : Me → Res (Fl × Me) :=
 (iK eF gK)
noncomputable def dq:List D->Res (Bool×D):=aY 2 1 iI
noncomputable def dW : Me → Res (Fl × Me) :=
 (aK (bu 2 (fFn qx (aj (aH 0) (aj (aH 1) aA))))
 (aK (gIf (aM gGt (aW iU (aj (ak 2) aA)) (fC (.int 8))) qP gNx)
 (gIf (aM gGt (fFn jH (aj (aH 2) aA)) (fC (.int 24))) qP gNx)))
noncomputable def ik : Me → Res (Fl × Me) :=
 (jD (o7 (aU (aj (fC (.int 1)) (aj (fC (.int 2)) aA)))) (hName 1) dW)
noncomputable def jh (l_2 : Me → Res (Fl × Me)) : Me → Res (Fl × Me) :=
 l_2
noncomputable def jd : Me → Res (Fl × Me) :=
 (jh ik)
noncomputable def dN:List D->Res (Bool×D):=aY 3 1 jd
noncomputable def iV (φ_refuse_great_places : List D → Res (Bool × D)) (φ_refuse_great_table : List D → Res (Bool × D)) : Me → Res (Fl × Me) :=
 (aK (gEx (fFn φ_refuse_great_places (aj (aH 0) aA)))
 (gEx (fFn φ_refuse_great_table (aj (aH 0) aA))))
noncomputable def iY : Me → Res (Fl × Me) :=
 (iV dq dN)
noncomputable def dO:List D->Res (Bool×D):=aY 1 1 iY
noncomputable def eZ : Me → Res D :=
 (fFn o4 (aj (aH 0) aA))
noncomputable def fJ : Me → Res D :=
 (bZ 1 [] (fO (fFn bY (aj (aH 2) aA))) (hName 0) dX eZ)
noncomputable def cC : Me → Res (Fl × Me) :=
 (gIf (fTv (aW Wf (aj fJ aA))) qP gNx)
noncomputable def eY : Me → Res (Fl × Me) :=
 (jD (fO (fFn eF (aj (aH 0) aA))) (jl 2 (bj (hName 1) (bj (hName 2) iW))) cC)
noncomputable def gk (l_4 : Me → Res (Fl × Me)) : Me → Res (Fl × Me) :=
 l_4
noncomputable def gq : Me → Res (Fl × Me) :=
 (gk eY)
noncomputable def cJ:List D->Res (Bool×D):=aY 3 1 gq
noncomputable def o8 : Me → Res D :=
 (fFn wC (aj (fC (.tup [(.int 0), (.int 1)])) (aj (aH 0) aA)))
noncomputable def pA : Me → Res D :=
 (bZ 1 [] (fO (ak 0)) (hName 0) dX o8)
noncomputable def qK (φ_total : List D → Res (Bool × D)) (l_2 : Me → Res D) : Me → Res (Fl × Me) :=
 (bD (Px (aW VF (aj l_2 aA)) (rn gEq (fFn φ_total (aj (aH 0) aA)) (fC (.tup [(.int 1), (.int 1)])))))
noncomputable def qQ : Me → Res (Fl × Me) :=
 (qK vX pA)
noncomputable def lV:List D->Res (Bool×D):=aY 1 1 qQ
noncomputable def jU : Me → Res (Fl × Me) :=
 (aK (gIf (aM gNe (au gIx (ak 1) (fC (.int 2))) (au gIx (ak 3) (fC (.int 2)))) qP gNx)
 (gIf (aM gNe (au gIx (ak 1) (fC (.int 3))) (au gIx (ak 3) (fC (.int 3)))) qP gNx))
noncomputable def j0 : Me → Res (Fl × Me) :=
 jU
noncomputable def dF:List D->Res (Bool×D):=aY 4 4 j0
noncomputable def cP : Me → Res (Fl × Me) :=
 (aK (gIf (sJ (aM gEq (au gIx (ak 3) (fC (.int 0))) (fC (.str "deal"))) (kO (fTv (fFn lV (aj (fFn bY (aj (aH 3) aA)) aA))))) qP gNx)
 (gIf (aM gEq (au gIx (ak 3) (fC (.int 0))) (fC (.str "move"))) (aK (bu 5 (fFn nH (aj (aH 3) (aj (aH 4) aA))))
 (aK (zx 6 (Lh 1 (aU (aj (au gIx (ak 3) (fC (.int 1))) (aj (au gIx (ak 3) (fC (.int 2))) aA))) (aU (aj (aH 2) (aj (aH 5) aA)))))
 (gEx (fFn dF (aj (aH 2) (aj (aH 5) (aj (au gIx (ak 6) (fC (.int 0))) (aj (au gIx (ak 6) (fC (.int 1))) aA)))))))) gNx))
noncomputable def j8 : Me → Res (Fl × Me) :=
 (jD (fO (fFn bM (aj (aH 0) aA))) (jl 3 (bj (hName 2) (bj (hName 3) (bj (hName 4) iW)))) cP)
noncomputable def mL (l_2 : Me → Res (Fl × Me)) : Me → Res (Fl × Me) :=
 (aK (jE 1 BK)
 l_2)
noncomputable def mQ : Me → Res (Fl × Me) :=
 (mL j8)
noncomputable def gW:List D->Res (Bool×D):=aY 7 1 mQ
noncomputable def JD (φ_table_of : List D → Res (Bool × D)) (φ_refuse_great_shape : List D → Res (Bool × D)) (φ_refuse_great_fractions : List D → Res (Bool × D)) (φ_refuse_unsound : List D → Res (Bool × D)) : Me → Res (Fl × Me) :=
 (aK (gEx (fFn φ_refuse_great_shape (aj (aH 0) aA)))
 (aK (gEx (fFn φ_refuse_great_fractions (aj (aH 0) aA)))
 (aK (gEx (fFn φ_refuse_unsound (aj (aH 0) aA)))
 (jz (aaf φ_table_of (aj (aH 0) aA))))))
noncomputable def Kv : Me → Res (Fl × Me) :=
 (JD mH dO cJ gW)
noncomputable def jf:List D->Res (Bool×D):=aY 1 1 Kv
end
end Pk
namespace Lw
open PySem L2 Hd F Pk
noncomputable section
noncomputable def lg : Me → Res (Fl × Me) :=
 (aK (gIf (aM gLt (ak 1) (aW iU (aj (ak 0) aA))) (bD (au gIx (ak 0) (ak 1))) gNx)
 (bD (fC (.int 0))))
noncomputable def lU : Me → Res (Fl × Me) :=
 lg
noncomputable def dM:List D->Res (Bool×D):=aY 2 2 lU
noncomputable def nR : Me → Res Bool :=
 (aM gNe (ak 3) (fC (.int 0)))
noncomputable def nW : Me → Res (Fl × Me) :=
 (Zn 2 3 (aj (aH 3) (aj (au bO (ak 2) (ak 3)) aA)))
noncomputable def rJ : Me → Res (Fl × Me) :=
 (qg nR nW)
noncomputable def qj (l_3 : Me → Res (Fl × Me)) : Me → Res (Fl × Me) :=
 (aK (bu 2 (aW Ho (aj (ak 0) aA)))
 (aK (bu 3 (aH 1))
 (aK l_3
 (bD (aU (aj (au eQ (ak 0) (ak 2)) (aj (au eQ (ak 1) (ak 2)) aA)))))))
noncomputable def pR : Me → Res (Fl × Me) :=
 (qj rJ)
noncomputable def gm:List D->Res (Bool×D):=aY 4 2 pR
noncomputable def jG : Me → Res (Fl × Me) :=
 (aK (iQ 4 (au bO (ak 0) (fC (.int 36))))
 (bu 0 (au eQ (ak 0) (fC (.int 36)))))
noncomputable def qi : Me → Res (Fl × Me) :=
 (jD (uo (aj (ak 3) aA)) (hName 5) jG)
noncomputable def pW : Me → Res D :=
 (au gIx (ak 1) (ak 0))
noncomputable def qb : Me → Res D :=
 (bZ 1 [2] (fO (ak 4)) (hName 0) dX pW)
noncomputable def nC : Me → Res D :=
 (fSl (au Uj (fC (.int 8)) (ak 1)) fO0 (fO1 (ak 0)))
noncomputable def pQ : Me → Res D :=
 (bZ 1 [6] (Mf (aj (fC (.int 1)) (aj (fC (.int 9)) aA))) (hName 0) dX nC)
noncomputable def jK : Me → Res (Fl × Me) :=
 (aK (bu 9 (au gIx (ak 2) (au bO (au cF (au gIx (ak 4) (ak 7)) (au lM (fC (.int 4)) (ak 5))) (fC (.int 36)))))
 (iQ 8 (au cF (au cF (fSl (ak 6) fO0 (fO1 (ak 7))) (ak 9)) (fSl (ak 6) (fO1 (au cF (ak 7) (fC (.int 1)))) fO0))))
noncomputable def uz : Me → Res (Fl × Me) :=
 (jD (uo (aj (fC (.int 8)) aA)) (hName 5) jK)
noncomputable def kW (l_2 : Me → Res (Fl × Me)) (l_4 : Me → Res D) (l_6 : Me → Res D) (l_8 : Me → Res (Fl × Me)) : Me → Res (Fl × Me) :=
 (aK (bu 2 (fC (.str "abcdefghijklmnopqrstuvwxyz0123456789")))
 (aK (bu 3 (au cF (fC (.int 1)) (au bO (ak 0) (fC (.int 8)))))
 (aK (bu 0 (au eQ (ak 0) (fC (.int 8))))
 (aK (jE 4 (gM aA))
 (aK l_2
 (aK (bu 6 (KZ "str" HY (fC (.str "")) (aj l_4 aA)))
 (aK (gIf (aM gEq (au bO (au eQ (ak 1) (fC (.int 8))) (fC (.int 3))) (fC (.int 1))) (jz l_6) gNx)
 (aK (bu 7 (au bO (ak 1) (ak 3)))
 (aK (jE 8 (gM aA))
 (aK l_8
 (uw 8)))))))))))
noncomputable def xY : Me → Res (Fl × Me) :=
 (kW qi qb pQ uz)
noncomputable def pM:List D->Res (Bool×D):=aY 10 2 xY
noncomputable def oF (φ__law_lowest : List D → Res (Bool × D)) : Me → Res (Fl × Me) :=
 (aK (gIf (aM gEq (au bO (ak 0) (fC (.int 8))) (fC (.int 3))) (bD (fFn φ__law_lowest (aj (au gC (au bO (au lM (ak 0) (fC (.int 48271))) (fC (.int 1999999999999))) (fC (.int 999999999999))) (aj (au cF (fC (.int 1)) (au bO (au eQ (ak 0) (fC (.int 8))) (fC (.int 999)))) aA)))) gNx)
 (bD (fFn φ__law_lowest (aj (au gC (au bO (au eQ (ak 0) (fC (.int 8))) (fC (.int 13))) (fC (.int 6))) (aj (au cF (fC (.int 1)) (au bO (au eQ (ak 0) (fC (.int 104))) (fC (.int 3)))) aA)))))
noncomputable def oJ : Me → Res (Fl × Me) :=
 (oF gm)
noncomputable def bN:List D->Res (Bool×D):=aY 1 1 oJ
noncomputable def fQ : Me → Res (Fl × Me) :=
 (aK (iQ 2 (au cF (au cF (fC (.int 1)) (au bO (ak 0) (fC (.int 4)))) (au lM (au eQ (au bO (au eQ (ak 0) (fC (.int 4))) (fC (.int 8))) (fC (.int 7))) (au bO (au eQ (ak 0) (fC (.int 32))) (fC (.int 200))))))
 (bu 0 (au bO (au lM (ak 0) (fC (.int 48271))) (fC (.int 2147483647)))))
noncomputable def jN : Me → Res (Fl × Me) :=
 (jD (uo (aj (ak 1) aA)) (hName 3) fQ)
noncomputable def nT : Me → Res D :=
 (fFn gm (aj (aH 0) (aj (aW RK (aj (ak 1) aA)) aA)))
noncomputable def n8 : Me → Res D :=
 (bZ 1 [2] (fO (ak 2)) (hName 0) dX nT)
noncomputable def mZ (l_2 : Me → Res (Fl × Me)) (l_4 : Me → Res D) : Me → Res (Fl × Me) :=
 (aK (jE 2 (gM aA))
 (aK l_2
 (jz l_4)))
noncomputable def uh : Me → Res (Fl × Me) :=
 (mZ jN n8)
noncomputable def jJ:List D->Res (Bool×D):=aY 4 2 uh
noncomputable def uE : Me → Res (Fl × Me) :=
 (bD (au bO (au lM (au cF (au bO (ak 0) (fC (.int 2147483647))) (fC (.int 1))) (au cF (fC (.int 48271)) (au lM (fC (.int 7)) (ak 1)))) (fC (.int 2147483647))))
noncomputable def uM : Me → Res (Fl × Me) :=
 uE
noncomputable def cW:List D->Res (Bool×D):=aY 2 2 uM
noncomputable def fH : Me → Res (Fl × Me) :=
 (aK (bu 5 (aU (aj (aH 1) (aj (aH 2) (aj (aH 3) (aj (aH 4) aA))))))
 (aK (gIf (aM Jc (ak 5) (G6 6 (au bR (ak 0) (fC (.str "names"))))) (aK (vy 6 (au bR (ak 0) (fC (.str "names"))) (aH 5) (au gIx (G6 7 (au bR (ak 0) (fC (.str "many")))) (au gC (ak 1) (fC (.int 1)))))
 (tW 7 (au bR (ak 0) (fC (.str "many"))) (au gC (ak 1) (fC (.int 1))) (au cF (au gIx (G6 7 (au bR (ak 0) (fC (.str "many")))) (au gC (ak 1) (fC (.int 1)))) (fC (.int 1))))) gNx)
 (bD (au vQ (G6 6 (au bR (ak 0) (fC (.str "names")))) (ak 5)))))
noncomputable def fB : Me → Res (Fl × Me) :=
 fH
noncomputable def cB:List D->D->Addr×D->Addr×D->Res (D×D×D×D):=runST 0 8 5 fB
noncomputable def iD (Φb : List D → D → Addr × D → Addr × D → Res (D × D × D × D)) : Me → Res (Fl × Me) :=
 (aK (bu 12 (au gIx (ak 8) (au bO (au cF (au cF (au lM (fC (.int 3)) (ak 7)) (ak 11)) (au eQ (au bR (ak 1) (fC (.str "turn"))) (fC (.int 8)))) (fC (.int 8)))))
 (aK (jE 13 (aW yj (aj (ak 3) aA)))
 (aK (FJ 13 (au gC (ak 5) (fC (.int 1))) (au cF (au gIx (ak 13) (au gC (ak 5) (fC (.int 1)))) (aU (aj (aU (aj (aH 9) (aj (aH 12) aA))) aA))))
 (Sd 13 (ql 10 (CP (sX (fX (aH 12)) (sX (uQ Φb 1 1 14 15 (aj (aH 0) (aj (au gC (ak 2) (fC (.int 1))) (aj (aH 13) aA)))) Cr))))))))
noncomputable def nj (Φb : List D → D → Addr × D → Addr × D → Res (D × D × D × D)) : Me → Res (Fl × Me) :=
 (jD (uo (aj (ak 6) aA)) (hName 11) (iD Φb))
noncomputable def kI (φ__law_stake : List D → Res (Bool × D)) (φ__law_name_number : List D → D → Addr × D → Addr × D → Res (D × D × D × D)) (l_2 : Me → Res (Fl × Me)) : Me → Res (Fl × Me) :=
 (aK (bu 5 (au cF (fC (.int 1)) (au bO (ak 4) (fC (.int 2)))))
 (aK (bu 6 (au cF (fC (.int 1)) (au bO (au eQ (ak 4) (fC (.int 16))) (fC (.int 3)))))
 (aK (zx 7 (uQ φ__law_name_number 1 0 14 15 (aj (aH 5) (aj (au gIx (ak 3) (au gC (ak 5) (fC (.int 1)))) (aj (aH 6) (aj (au bO (au eQ (ak 4) (fC (.int 48))) (fC (.int 2))) aA))))))
 (aK (gIf (aM gGe (ak 7) (fC (.int 8))) (bD (aU (aj (fC (.str "end")) (aj (fFn φ__law_stake (aj (aH 4) aA)) aA)))) gNx)
 (aK (lL 1 (fC (.str "room")) (au gC (au bR (ak 1) (fC (.str "room"))) (ak 6)))
 (aK (bu 8 (au bR (ak 1) (fC (.str "pool"))))
 (aK (bu 9 (au gIx (ak 8) (au bO (au cF (ak 7) (au bR (ak 1) (fC (.str "turn")))) (fC (.int 8)))))
 (aK (jE 10 (gM aA))
 (aK l_2
 (bD (aU (aj (fC (.str "move")) (aj (aH 5) (aj (aH 9) (aj (aW gP (aj (ak 10) aA)) aA)))))))))))))))
noncomputable def nP (Φb:List D->D->Addr×D->Addr×D->Res (D×D×D×D)):List D->D->Addr×D->Addr×D->Res (D×D×D×D):=runST 1 16 5 ((kI bN cB (nj Φb)))
noncomputable def lH (Φ : List D → D → Addr × D → Addr × D → Res (D × D × D × D)) : Me → Res (Fl × Me) :=
 (ql 8 (CP (sX (fX (aH 9)) (sX (uQ Φ 1 1 10 11 (aj (aH 0) (aj (au gC (ak 2) (fC (.int 1))) (aj (aH 3) aA)))) Cr))))
noncomputable def gF (Φ : List D → D → Addr × D → Addr × D → Res (D × D × D × D)) : Me → Res (Fl × Me) :=
 (jD (fO (fFn jJ (aj (aH 5) (aj (aH 7) aA)))) (hName 9) (lH Φ))
noncomputable def dU (φ__law_stake : List D → Res (Bool × D)) (φ__law_mix : List D → Res (Bool × D)) (φ__law_built : List D → D → Addr × D → Addr × D → Res (D × D × D × D)) (l_2 : Me → Res (Fl × Me)) : Me → Res (Fl × Me) :=
 (aK (bu 4 (au bR (ak 1) (fC (.str "at"))))
 (aK (lL 1 (fC (.str "at")) (au cF (ak 4) (fC (.int 1))))
 (aK (gIf (aM gGe (ak 4) (aW iU (aj (ak 0) aA))) (bD (aU (aj (fC (.str "end")) (aj (fFn φ__law_stake (aj (fFn φ__law_mix (aj (au cF (au gIx (ak 0) (fUn uc (fC (.int 1)))) (au lM (ak 4) (ak 4))) (aj (aH 4) aA))) aA)) aA)))) gNx)
 (aK (bu 5 (fFn φ__law_mix (aj (au gIx (ak 0) (ak 4)) (aj (aH 4) aA))))
 (aK (bu 6 (aH 5))
 (aK (gIf (fTv (au bR (ak 1) (fC (.str "level")))) (bu 6 (au cF (au gC (ak 5) (au bO (ak 5) (fC (.int 48)))) (au bO (fFn φ__law_mix (aj (au gIx (ak 0) (au bO (ak 2) (aW iU (aj (ak 0) aA)))) (aj (aH 2) aA))) (fC (.int 48))))) gNx)
 (aK (gIf (pC (aM gEq (ak 2) (fC (.int 0))) (pC (aM gLt (au bR (ak 1) (fC (.str "room"))) (fC (.int 3))) (sJ (aM gEq (au bO (ak 6) (fC (.int 8))) (fC (.int 0))) (aM gGt (ak 4) (fC (.int 0)))))) (bD (aU (aj (fC (.str "end")) (aj (fFn φ__law_stake (aj (aH 5) aA)) aA)))) gNx)
 (aK (gIf (aM gGt (au bO (ak 6) (fC (.int 8))) (fC (.int 2))) (uC (uQ (nP φ__law_built) 1 1 10 11 (aj (aH 0) (aj (aH 2) (aj (aH 3) (aj (aH 6) aA)))))) gNx)
 (aK (bu 7 (au cF (fC (.int 1)) (au bO (au eQ (ak 6) (fC (.int 16))) (fC (.int 3)))))
 (aK (lL 1 (fC (.str "room")) (au gC (au bR (ak 1) (fC (.str "room"))) (ak 7)))
 (aK (jE 8 (gM aA))
 (aK l_2
 (bD (aU (aj (fC (.str "deal")) (aj (au gIx (au bR (ak 1) (fC (.str "pool"))) (au bO (au eQ (ak 5) (fC (.int 48))) (fC (.int 8)))) (aj (aW gP (aj (ak 8) aA)) aA)))))))))))))))))
noncomputable def bf:Nat->List D->D->Addr×D->Addr×D->Res (D×D×D×D)
 |0=>λ_ _ _ _=>.stuck
 |n+1=>runST 1 12 4
   (dU bN cW (bf n) (gF (bf n)))
noncomputable def pP (φ__law_built : List D → D → Addr × D → Addr × D → Res (D × D × D × D)) : Me → Res (Fl × Me) :=
 (Yo 5 6 7 [((fC (.str "at")), (fC (.int 0))), ((fC (.str "room")), (aH 3))] (fC (.str "names")) BK (fC (.str "many")) (gM (aj (fC (.int 0)) (aj (fC (.int 0)) aA))) [((fC (.str "pool")), (aH 4))]
 (aK (lL 5 (fC (.str "turn")) (au bO (ak 1) (fC (.int 64))))
 (aK (lL 5 (fC (.str "level")) (rn gEq (au bO (au eQ (ak 1) (fC (.int 64))) (fC (.int 2))) (fC (.int 1))))
 (uC (uQ φ__law_built 5 1 6 7 (aj (aH 0) (aj (aH 2) (aj (gM (aj (aU aA) (aj (aU aA) aA))) aA))))))))
noncomputable def yf : Me → Res (Fl × Me) :=
 (pP (bf 13))
noncomputable def pL:List D->Res (Bool×D):=aY 8 5 yf
noncomputable def rY : Me → Res (Fl × Me) :=
 (bD (xm "str" (ak 0)))
noncomputable def sO : Me → Res (Fl × Me) :=
 rY
noncomputable def dJ:List D->Res (Bool×D):=aY 1 1 sO
noncomputable def jV : Me → Res (Fl × Me) :=
 (gIf (pC (kO (fTv (xm "tuple" (ak 1)))) (pC (aM gNe (aW iU (aj (ak 1) aA)) (fC (.int 2))) (pC (kO (fTv (fFn dJ (aj (au gIx (ak 1) (fC (.int 0))) aA)))) (kO (fTv (fFn dJ (aj (au gIx (ak 1) (fC (.int 1))) aA))))))) (bD (fC (.bl false))) gNx)
noncomputable def oV : Me → Res (Fl × Me) :=
 (jD (o7 (aH 0)) (hName 1) jV)
noncomputable def mq (l_2 : Me → Res (Fl × Me)) : Me → Res (Fl × Me) :=
 (aK (gIf (kO (fTv (xm "tuple" (ak 0)))) (bD (fC (.bl false))) gNx)
 (aK l_2
 (bD (fC (.bl true)))))
noncomputable def mG : Me → Res (Fl × Me) :=
 (mq oV)
noncomputable def gG:List D->Res (Bool×D):=aY 2 1 mG
noncomputable def lJ : Me → Res D :=
 (fFn dJ (aj (aH 0) aA))
noncomputable def lB : Me → Res D :=
 (bZ 1 [] (o7 (au gIx (ak 1) (fC (.int 2)))) (hName 0) dX lJ)
noncomputable def lE : Me → Res (Fl × Me) :=
 (aK (gIf (pC (kO (fTv (xm "tuple" (ak 1)))) (pC (aM gNe (aW iU (aj (ak 1) aA)) (fC (.int 4))) (pC (kO (fTv (xm "int" (au gIx (ak 1) (fC (.int 0)))))) (fTv (xm "bool" (au gIx (ak 1) (fC (.int 0)))))))) (bD (fC (.bl false))) gNx)
 (aK (gIf (pC (kO (fTv (fFn dJ (aj (au gIx (ak 1) (fC (.int 1))) aA)))) (pC (kO (fTv (xm "tuple" (au gIx (ak 1) (fC (.int 2)))))) (kO (fTv (fFn gG (aj (au gIx (ak 1) (fC (.int 3))) aA)))))) (bD (fC (.bl false))) gNx)
 (gIf (kO (fTv (aW VF (aj lB aA)))) (bD (fC (.bl false))) gNx)))
noncomputable def pI : Me → Res (Fl × Me) :=
 (jD (fO (aH 0)) (hName 1) lE)
noncomputable def nU (l_4 : Me → Res (Fl × Me)) : Me → Res (Fl × Me) :=
 (aK (gIf (kO (fTv (xm "list" (ak 0)))) (bD (fC (.bl false))) gNx)
 (aK l_4
 (bD (fC (.bl true)))))
noncomputable def oh : Me → Res (Fl × Me) :=
 (nU pI)
noncomputable def iC:List D->Res (Bool×D):=aY 2 1 oh
end
end Lw
namespace Hd
noncomputable def gI (a b:Int):Int:=(Int.gcd a b:Nat)
theorem My {a b:Int}(ha:0<=a)(hb:0<b):gI b (a % b)=gI a b:=by
 unfold gI Int.gcd
 have e:(a % b).natAbs=a.natAbs % b.natAbs:=by
  obtain ⟨n,rfl⟩:=Int.eq_ofNat_of_zero_le ha
  obtain ⟨m,rfl⟩:=Int.eq_ofNat_of_zero_le (Int.le_of_lt hb)
  rfl
 rw [e,Nat.gcd_comm a.natAbs b.natAbs,Nat.gcd_rec b.natAbs a.natAbs,Nat.gcd_comm]
theorem K4 {a:Int}(ha:0<=a):gI a 0=a:=by
 unfold gI
 rw [Int.gcd_zero_right]
 omega
theorem Rn (a b:Int):gI (if a<0 then -a else a) (if b<0 then -b else b)=gI a b:=by
 unfold gI Int.gcd
 have h:∀x:Int,(if x<0 then -x else x).natAbs=x.natAbs:=λx=>by split <;> omega
 rw [h,h]
theorem aaN (a b:Int):0<=gI a b:=Int.natCast_nonneg _
theorem Gz {a b:Int}(hb:b≠0):0<gI a b:=by
 have:0<Int.gcd a b:=Nat.pos_of_ne_zero λh=>hb (Int.gcd_eq_zero_iff.mp h).2
 unfold gI; omega
theorem Nh (a b:Int):gI a b ∣ a:=Int.gcd_dvd_left a b
theorem zL (a b:Int):gI a b ∣ b:=Int.gcd_dvd_right a b
theorem Yc {a b:Int}(hb:b≠0):(gI a b).natAbs<=b.natAbs:=by
 have h:(gI a b).natAbs ∣ b.natAbs:=Int.natAbs_dvd_natAbs.mpr (zL a b)
 exact Nat.le_of_dvd (by omega) h
noncomputable def dv (t b:Int):Int:=if b<0 then -gI t b else gI t b
theorem K7 {t b:Int}(hb:b≠0):dv t b≠0:=by
 have:=Gz (a:=t) hb
 unfold dv; split <;> omega
theorem Sv (t b:Int):(dv t b).natAbs=(gI t b).natAbs:=by unfold dv; split <;> omega
noncomputable def lt (t b:Int):Int:=t.fdiv (dv t b)
noncomputable def lb (t b:Int):Int:=b.fdiv (dv t b)
theorem zm {a d q:Int}(hd:d≠0)(h:a=d * q):a.fdiv d=q:=by
 rw [h]
 exact Int.mul_fdiv_cancel_left q hd
theorem VM (t b:Int):dv t b ∣ t:=by
 unfold dv; split
 ·exact Int.neg_dvd.mpr (Nh t b)
 ·exact Nh t b
theorem RL (t b:Int):dv t b ∣ b:=by
 unfold dv; split
 ·exact Int.neg_dvd.mpr (zL t b)
 ·exact zL t b
theorem lt_mul {t b:Int}(hb:b≠0):dv t b * lt t b=t:=by
 obtain ⟨q,hq⟩:=VM t b
 have e:lt t b=q:=zm (K7 hb) hq
 rw [e]; exact hq.symm
theorem Es {t b:Int}(hb:b≠0):dv t b * lb t b=b:=by
 obtain ⟨q,hq⟩:=RL t b
 have e:lb t b=q:=zm (K7 hb) hq
 rw [e]; exact hq.symm
theorem YD {t b:Int}(hb:b≠0):1<=lb t b:=by
 have e:=Es (t:=t) hb
 have g:=Gz (a:=t) hb
 by_cases h:lb t b<=0
 ·exfalso
  unfold dv at e
  split at e
  ·have:0<=-gI t b * lb t b:=Int.mul_nonneg_of_nonpos_of_nonpos (by omega) h
   omega
  ·have:gI t b * lb t b<=0:=Int.mul_nonpos_of_nonneg_of_nonpos (by omega) h
   omega
 ·omega
theorem WK {t b:Int}(hb:b≠0):gI (lt t b) (lb t b)=1:=by
 have e1:=lt_mul (t:=t) hb
 have e2:=Es (t:=t) hb
 have g:=Gz (a:=t) hb
 have q:gI t b=(dv t b).natAbs * gI (lt t b) (lb t b):=by
  have:Int.gcd (dv t b * lt t b) (dv t b * lb t b)=(dv t b).natAbs * Int.gcd (lt t b) (lb t b):=Int.gcd_mul_left ..
  rw [e1,e2] at this
  unfold gI
  rw [this]
  push_cast
  rfl
 have ed:((dv t b).natAbs:Int)=gI t b:=by rw [Sv]; have:=aaN t b; omega
 rw [ed] at q
 have h:gI t b * gI (lt t b) (lb t b)=gI t b * 1:=by rw [Int.mul_one]; exact q.symm
 exact Int.eq_of_mul_eq_mul_left (by omega) h
theorem Qg {t b:Int}(hb:b≠0):lt t b * b=t * lb t b:=by
 have e1:=lt_mul (t:=t) hb
 have e2:=Es (t:=t) hb
 calc lt t b * b=lt t b * (dv t b * lb t b):=by rw [e2]
  _=(dv t b * lt t b) * lb t b:=by rw [← Int.mul_assoc,Int.mul_comm (lt t b) (dv t b)]
  _=t * lb t b:=by rw [e1]
theorem XN {t b:Int}(hb:b≠0):(lt t b).natAbs<=t.natAbs:=by
 have e:=lt_mul (t:=t) hb
 have h:(lt t b).natAbs ∣ t.natAbs:=Int.natAbs_dvd_natAbs.mpr ⟨dv t b,by rw [Int.mul_comm]; exact e.symm⟩
 by_cases z:t=0
 ·have:lt t b=0:=by
   have e':dv t b * lt t b=0:=e.trans z
   rcases Int.mul_eq_zero.mp e' with h | h
   ·exact absurd h (K7 hb)
   ·exact h
  rw [this]; exact Nat.zero_le _
 ·exact Nat.le_of_dvd (by omega) h
theorem XQ {t b:Int}(hb:b≠0):(lb t b).natAbs<=b.natAbs:=by
 have e:=Es (t:=t) hb
 have h:(lb t b).natAbs ∣ b.natAbs:=Int.natAbs_dvd_natAbs.mpr ⟨dv t b,by rw [Int.mul_comm]; exact e.symm⟩
 exact Nat.le_of_dvd (by omega) h
theorem rP {q p s:Int}(c:Int.gcd p q=1)(h:q ∣ p * s):q ∣ s:=by
 have h2:q.natAbs ∣ p.natAbs * s.natAbs:=by rw [← Int.natAbs_mul]; exact Int.natAbs_dvd_natAbs.mpr h
 have c2:Nat.Coprime q.natAbs p.natAbs:=by unfold Nat.Coprime; rw [Nat.gcd_comm]; exact c
 exact Int.natAbs_dvd_natAbs.mp (Nat.Coprime.dvd_of_dvd_mul_left c2 h2)
theorem J2 {p q r s:Int}(hq:1<=q)(hs:1<=s)(g1:gI p q=1)(g2:gI r s=1)(h:p * s=r * q):p=r/\q=s:=by
 have c1:Int.gcd p q=1:=by unfold gI at g1; omega
 have c2:Int.gcd r s=1:=by unfold gI at g2; omega
 have d1:q ∣ s:=by
  have:q ∣ p * s:=⟨r,by rw [h,Int.mul_comm]⟩
  exact rP c1 this
 have d2:s ∣ q:=by
  have:s ∣ r * q:=⟨p,by rw [← h,Int.mul_comm]⟩
  exact rP c2 this
 have e:q=s:=Int.dvd_antisymm (by omega) (by omega) d1 d2
 subst e
 exact ⟨Int.eq_of_mul_eq_mul_right (by omega) h,rfl⟩
theorem Fp {a b:Int}{m n:Nat}(ha:a.natAbs<2 ^ m)(hb:b.natAbs<2 ^ n):(a * b).natAbs<2 ^ (m+n):=by
 rw [Int.natAbs_mul,Nat.pow_add]
 exact Nat.mul_lt_mul'' ha hb
theorem YQ {a b:Int}{m:Nat}(ha:a.natAbs<2 ^ m)(hb:b.natAbs<2 ^ m):(a+b).natAbs<2 ^ (m+1):=by
 rw [Nat.pow_succ]
 omega
theorem wu {n m k:Nat}(h:n<2 ^ m)(hk:m<=k):n<2 ^ k:=Nat.lt_of_lt_of_le h (Nat.pow_le_pow_right (by decide) hk)
theorem Y6 {t u p q:Int}(hu:u≠0)(hq:1<=q)(g:gI p q=1)(h:t * q=p * u):lt t u=p/\lb t u=q:=by
 refine J2 (YD hu) hq (WK hu) g ?_
 have e:=Qg (t:=t) hu
 have e2:lt t u * q * u=p * lb t u * u:=by
  calc lt t u * q * u=lt t u * u * q:=by rw [Int.mul_assoc,Int.mul_comm q u,← Int.mul_assoc]
   _=t * lb t u * q:=by rw [e]
   _=t * q * lb t u:=by rw [Int.mul_assoc,Int.mul_comm (lb t u) q,← Int.mul_assoc]
   _=p * u * lb t u:=by rw [h]
   _=p * lb t u * u:=by rw [Int.mul_assoc,Int.mul_comm u,← Int.mul_assoc]
 exact Int.eq_of_mul_eq_mul_right hu e2
noncomputable abbrev Q2:=Int×Int
noncomputable def den:List Q2->Int
 |[]=>1
 |d::ds=>d.2 * den ds
noncomputable def num:List Q2->Int
 |[]=>0
 |d::ds=>d.1 * den ds+num ds * d.2
theorem den_pos:∀{ds:List Q2},(∀d∈ds,1<=d.2)->1<=den ds
 |[],_=>Int.le_refl _
 |d::ds,h=>by
  have h1:=h d List.mem_cons_self
  have h2:=den_pos λe he=>h e (List.mem_cons_of_mem _ he)
  have:0<d.2 * den ds:=Int.mul_pos (by omega) (by omega)
  show 1<=d.2 * den ds
  omega
end Hd
namespace F
open PySem L2 Hd
@[simp] theorem szl:sizeLine=16777216:=by decide
theorem um:∀{a b:List Char},a.map Char.toNat=b.map Char.toNat->a=b
 |[],[],_=>rfl
 |[],_::_,h=>by simp at h
 |_::_,[],h=>by simp at h
 |x::a,y::b,h=>by
  have h':x.toNat=y.toNat/\a.map Char.toNat=b.map Char.toNat:=by simpa using h
  rw [Char.toNat_inj.mp h'.1,um h'.2]
@[simp] theorem abW {a b:String}:(Str.ofString a=Str.ofString b)↔a=b:=by
 constructor
 ·intro h
  rw [Str.ofString_eq_toList,Str.ofString_eq_toList] at h
  have h2:(a.toList.map Char.toNat).toArray=(b.toList.map Char.toNat).toArray:=congrArg Str.cps h
  have h3:a.toList.map Char.toNat=b.toList.map Char.toNat:=by simpa using congrArg Array.toList h2
  exact String.toList_inj.mp (um h3)
 ·intro h; rw [h]
mutual
noncomputable def okD:D->Bool
 | .non | .bl _ | .int _=>true
 | .str x=>PyData.strOk x
 | .tup xs=>jx xs
 | .lst xs=>jx xs
 | .exc _ | .dct _ _ | .dcu _ _ | .dcf _ _ | .adr _=>false
noncomputable def jx:List D->Bool
 |[]=>true
 |x::xs=>okD x && jx xs
end
mutual
noncomputable def iT:D->Nat
 | .non | .bl _ | .int _ | .str _=>0
 | .tup xs=>gw xs+1
 | .lst xs=>gw xs+1
 | .exc _ | .dct _ _ | .dcu _ _ | .dcf _ _ | .adr _=>0
noncomputable def gw:List D->Nat
 |[]=>0
 |x::xs=>max (iT x) (gw xs)
end
mutual
theorem Nv:∀d:D,okD d=true->∃p,toPy d=some p/\p.canLay0=true/\p.depth=iT d/\PyData.eqv p p=true
 | .non,_=>⟨.none,by simp [toPy],by simp [PyData.canLay0],by simp [PyData.depth,iT],by simp [PyData.eqv]⟩
 | .bl b,_=>⟨.bool b,by simp [toPy],by simp [PyData.canLay0],by simp [PyData.depth,iT],by simp [PyData.eqv]⟩
 | .int b,_=>⟨.int b,by simp [toPy],by simp [PyData.canLay0],by simp [PyData.depth,iT],by simp [PyData.eqv]⟩
 | .str b,h=>⟨.str b,by simp [toPy],by simpa [PyData.canLay0,okD] using h,by simp [PyData.depth,iT],by simp [PyData.eqv]⟩
 | .tup xs,h=>by
  obtain ⟨ps,h1,h2,h3,h4⟩:=zK xs (by simpa [okD] using h)
  exact ⟨.tuple ps,by simp [toPy,h1],by simpa [PyData.canLay0] using h2,by simp [PyData.depth,iT,h3],by simpa [PyData.eqv] using h4⟩
 | .lst xs,h=>by
  obtain ⟨ps,h1,h2,h3,h4⟩:=zK xs (by simpa [okD] using h)
  exact ⟨.list ps,by simp [toPy,h1],by simpa [PyData.canLay0] using h2,by simp [PyData.depth,iT,h3],by simpa [PyData.eqv] using h4⟩
 | .exc _,h=>by simp [okD] at h
 | .dct _ _,h=>by simp [okD] at h
 | .dcu _ _,h=>by simp [okD] at h
 | .adr _,h=>by simp [okD] at h
 | .dcf _ _,h=>by simp [okD] at h
theorem zK:∀ds:List D,jx ds=true->∃ps,ye ds=some ps/\PyData.canLayAll0 ps=true/\PyData.depthAll ps=gw ds/\PyData.eqvAll ps ps=true
 |[],_=>⟨[],by simp [ye],by simp [PyData.canLayAll0],by simp [PyData.depthAll,gw],by simp [PyData.eqvAll]⟩
 |d::ds,h=>by
  have h':okD d=true/\jx ds=true:=by simpa [jx] using h
  obtain ⟨p,h1,h2,h3,h4⟩:=Nv d h'.1
  obtain ⟨ps,k1,k2,k3,k4⟩:=zK ds h'.2
  exact ⟨p::ps,by simp [ye,h1,k1],by simp [PyData.canLayAll0,h2,k2],by simp [PyData.depthAll,gw,h3,k3],by simp [PyData.eqvAll,h4,k4]⟩
end
theorem yd {d:D}(h:okD d=true)(hd:iT d<=64):xr d d=some true:=by
 obtain ⟨p,h1,h2,h3,h4⟩:=Nv d h
 unfold xr
 rw [h1]
 have:SeqAt.shaped p=true:=by unfold SeqAt.shaped; rw [h2,decide_eq_true (by omega)]; rfl
 simp [this,h4]
theorem Ba {d:D}(h:okD d=true)(hd:iT d<=64):gEq d d=some true:=by
 cases d with
 |non=>rfl
 |bl b=>simp [gEq]
 |int b=>simp [gEq]
 |str b=>simp [gEq]
 |tup xs=>exact yd h hd
 |lst xs=>exact yd h hd
 |exc c=>simp [okD] at h
 |dct _ _=>simp [okD] at h
 |dcu _ _=>simp [okD] at h
 |adr _=>simp [okD] at h
 |dcf _ _=>simp [okD] at h
theorem zN {d:D}(h:okD d=true)(hd:iT d<=64):gNe d d=some false:=by unfold gNe; rw [Ba h hd]; rfl
@[simp] theorem abX (i j:Int):gEq (.int i) (.int j)=some (decide (i=j)):=rfl
@[simp] theorem abU (i j:Str):gEq (.str i) (.str j)=some (decide (i=j)):=rfl
@[simp] theorem abY (i j:Bool):gEq (.bl i) (.bl j)=some (decide (i=j)):=rfl
@[simp] theorem abV (i j:Int):gNe (.int i) (.int j)=some (!decide (i=j)):=rfl
@[simp] theorem abT (i j:Str):gNe (.str i) (.str j)=some (!decide (i=j)):=rfl
@[simp] theorem ab3 (i j:Bool):gNe (.bl i) (.bl j)=some (!decide (i=j)):=rfl
theorem comp_map {h:D->Me->Option Me}{ft:Me->Res Bool}{fe:Me->Res D}{m0:Me}(φ:D->D):∀ds:List D,(∀d∈ds,∃m1,h d m0=some m1/\ft m1=.ok true/\fe m1=.ok (φ d))->cA h ft fe m0 ds=.ok (ds.map φ)
 |[],_=>rfl
 |d::ds,H=>by
  obtain ⟨m1,e1,e2,e3⟩:=H d List.mem_cons_self
  have ih:=comp_map φ ds λd hd=>H d (List.mem_cons_of_mem _ hd)
  unfold cA
  simp only [e1,e2,e3,ih,List.map_cons]
noncomputable def qD (d:Q2):D:=.tup [.int d.1,.int d.2]
mutual
inductive Gm where
 |fin (d:Q2)
 |deal (n:Str) (ws:Ws)
 |move (s:Int) (n:Str) (ws:Ws)
inductive Ws where
 |nil
 |cons (l:D) (g:Gm) (r:Ws)
end
mutual
noncomputable def dG:Gm->D
 | .fin d=>.tup [.str "end",qD d]
 | .deal n ws=>.tup [.str "deal",.str n,.tup (dWs ws)]
 | .move s n ws=>.tup [.str "move",.int s,.str n,.tup (dWs ws)]
noncomputable def dWs:Ws->List D
 | .nil=>[]
 | .cons l g r=>.tup [l,dG g]::dWs r
end
mutual
noncomputable def dp:Gm->Nat
 | .fin _=>0
 | .deal _ ws=>dpW ws+1
 | .move _ _ ws=>dpW ws+1
noncomputable def dpW:Ws->Nat
 | .nil=>0
 | .cons _ g r=>max (dp g) (dpW r)
end
noncomputable def jq:Ws->Nat
 | .nil=>0
 | .cons _ _ r=>jq r+1
theorem jO:∀ws:Ws,(dWs ws).length=jq ws
 | .nil=>rfl
 | .cons l g r=>by show (dWs r).length+1=_; rw [jO r]; rfl
mutual
noncomputable def fP:Gm->Prop
 | .fin _=>True
 | .deal _ ws=>jq ws<=100/\rN ws
 | .move _ _ ws=>jq ws<=100/\rN ws
noncomputable def rN:Ws->Prop
 | .nil=>True
 | .cons _ g r=>fP g/\rN r
end
open PySem L2 Hd
noncomputable def yz (zs:List Str):List Nat:=zs.flatMap λz=>z.cps.toList
theorem Qj:(Str.ofString "").cps=#[]:=by decide +kernel
theorem KJ:∀(zs:List Str) (acc:Array Nat),(zs.foldl (λacc p=>acc++(Str.ofString "").cps++p.cps) acc).toList=acc.toList++yz zs
 |[],acc=>by simp [yz]
 |z::zs,acc=>by
  rw [List.foldl_cons,KJ zs,Qj]
  simp [yz]
theorem QS (zs:List Str):(Txt.join (Str.ofString "") zs).cps.toList=yz zs:=by
 show ((zs.drop 1).foldl (λacc p=>acc++(Str.ofString "").cps++p.cps) (zs.headD Str.empty).cps).toList=_
 rw [KJ]
 cases zs with
 |nil=>simp [yz,Str.empty]
 |cons z zs=>simp [yz]
theorem Cz:∀(zs:List Str) (n:Nat),zs.foldl (λn z=>n+z.length+(Str.ofString "").length) n=n+(yz zs).length
 |[],n=>by simp [yz]
 |z::zs,n=>by
  rw [List.foldl_cons,Cz zs]
  have:(Str.ofString "").length=0:=by decide +kernel
  rw [this]
  simp [yz,Str.length]
  omega
theorem joinOk_of {zs:List Str}(h:(yz zs).length<=16777216):JoinOk (Str.ofString "") zs=true:=by
 unfold JoinOk
 rw [List.foldl_toArray,Cz]
 simp [Builtin.Str.tooLong]
 omega
theorem O8 (cs:List Nat):yz (cs.map λc=>(⟨#[c]⟩:Str))=cs:=by
 induction cs with
 |nil=>rfl
 |cons c cs ih=>simp [yz] at ih ⊢; exact ih
theorem Il {cs:List Nat}(h:∀c∈cs,c<128):PyData.strOk ⟨cs.toArray⟩=true:=by
 unfold PyData.strOk
 simp only [List.all_toArray,List.all_eq_true,decide_eq_true_eq]
 intro c hc
 have:=h c hc
 omega
theorem Ky {f:Me->Res (List D)}{m:Me}{j:Int}(h:f m=.ok [.int j])(h1:-1000000000<=j)(h2:j<=1000000000):uo f m=.ok ((List.range j.toNat).map λ(i:Nat)=>D.int i):=by
 unfold uo
 rw [h]
 show (if -(2 ^ 62)<=j/\j<2 ^ 62 then _ else _)=_
 rw [if_pos ⟨by omega,by omega⟩]
theorem ab1 {f:Me->Res (List D)}{m:Me}{i j:Int}(h:f m=.ok [.int i,.int j])(h1:-1000000000<=i)(h2:i<=1000000000)(h3:-1000000000<=j)(h4:j<=1000000000):Mf f m=.ok ((List.range (j - i).toNat).map λ(k:Nat)=>D.int (i+k)):=by
 unfold Mf
 rw [h]
 show (if -(2 ^ 62)<=i/\i<2 ^ 62/\-(2 ^ 62)<=j/\j<2 ^ 62 then _ else _)=_
 rw [if_pos ⟨by omega,by omega,by omega,by omega⟩]
open PySem PySem.NumText
noncomputable def dg (n:Nat):List Nat:=(Nat.toDigits 10 n).map Char.toNat
noncomputable def tx (l:List Nat):Str:=⟨l.toArray⟩
theorem yL (l:List Nat):(tx l).cps.toList=l:=rfl
theorem uF (l:List Nat):(tx l).length=l.length:=by show l.toArray.size=_; simp
theorem NZ {x:Str}{l:List Nat}(h:x.cps.toList=l):x=tx l:=by
 cases x with
 |mk a=>subst h; unfold tx; simp
theorem ZR (a b:List Nat):tx a++tx b=tx (a++b):=NZ (by show (a.toArray++b.toArray).toList=_; simp)
theorem Uv {a b:List Nat}:tx a=tx b↔a=b:=⟨λh=>by have:=congrArg (λz:Str=>z.cps.toList) h; exact this,λh=>by rw [h]⟩
end F
namespace Pk
open PySem L2 Hd F
noncomputable def fV:Ws->List Gm
 | .nil=>[]
 | .cons _ g r=>g::fV r
noncomputable def kids:Gm->List Gm
 | .fin _=>[]
 | .deal _ ws=>fV ws
 | .move _ _ ws=>fV ws
mutual
noncomputable def szG:Gm->Nat
 | .fin _=>1
 | .deal _ ws=>szW ws+1
 | .move _ _ ws=>szW ws+1
noncomputable def szW:Ws->Nat
 | .nil=>0
 | .cons _ g r=>szG g+szW r
end
theorem yK (g:Gm):1<=szG g:=by cases g <;> simp [szG]
mutual
noncomputable def plG:List Int->Gm->List (List Int×Gm)
 |w,.fin d=>[(w,.fin d)]
 |w,.deal n ws=>(w,.deal n ws)::plW w 0 ws
 |w,.move s n ws=>(w,.move s n ws)::plW w 0 ws
noncomputable def plW:List Int->Nat->Ws->List (List Int×Gm)
 |_,_,.nil=>[]
 |w,i,.cons _ g r=>plG (w++[(i:Int)]) g++plW w (i+1) r
end
noncomputable def pD (p:List Int×Gm):D:=.tup [.tup (p.1.map .int),dG p.2]
noncomputable def bh (w:List Int)(g:Gm):List (List Int×Gm):=(kids g).zipIdx.map λp=>(w++[(p.2:Int)],p.1)
theorem KC (w:List Int):∀(i:Nat) (ws:Ws),plW w i ws=(((fV ws).zipIdx i).map λp=>(w++[(p.2:Int)],p.1)).flatMap λp=>plG p.1 p.2
 |i,.nil=>rfl
 |i,.cons l g r=>by
  show plG (w++[(i:Int)]) g++plW w (i+1) r=_
  rw [KC w (i+1) r]
  rfl
theorem Zb (w:List Int)(g:Gm):plG w g=(w,g)::(bh w g).flatMap λp=>plG p.1 p.2:=by
 cases g with
 |fin d=>rfl
 |deal n ws=>show (w,Gm.deal n ws)::plW w 0 ws=_; rw [KC]; rfl
 |move s n ws=>show (w,Gm.move s n ws)::plW w 0 ws=_; rw [KC]; rfl
theorem xK:∀ws:Ws,szW ws=((fV ws).map szG).sum
 | .nil=>rfl
 | .cons l g r=>by show szG g+szW r=_; rw [xK r]; rfl
theorem aam (g:Gm):szG g=((kids g).map szG).sum+1:=by
 cases g with
 |fin d=>rfl
 |deal n ws=>show szW ws+1=_; rw [xK]; rfl
 |move s n ws=>show szW ws+1=_; rw [xK]; rfl
theorem jy:∀ws:Ws,(fV ws).length=jq ws
 | .nil=>rfl
 | .cons l g r=>by show (fV r).length+1=_; rw [jy r]; rfl
theorem uY:∀{ws:Ws} {g:Gm},rN ws->g∈fV ws->fP g
 | .cons l k r,g,h,hg=>by
  rcases List.mem_cons.mp hg with w | w
  ·rw [w]; exact h.1
  ·exact uY h.2 w
theorem O6 {g k:Gm}(h:fP g)(hk:k∈kids g):fP k/\(kids g).length<=100:=by
 cases g with
 |fin d=>cases hk
 |deal n ws=>exact ⟨uY h.2 hk,by show (fV ws).length<=100; rw [jy]; exact h.1⟩
 |move s n ws=>exact ⟨uY h.2 hk,by show (fV ws).length<=100; rw [jy]; exact h.1⟩
theorem Af {g:Gm}(h:fP g):(kids g).length<=100:=by
 cases g with
 |fin d=>exact Nat.zero_le _
 |deal n ws=>show (fV ws).length<=100; rw [jy]; exact h.1
 |move s n ws=>show (fV ws).length<=100; rw [jy]; exact h.1
theorem wK:∀ws:Ws,cA (jl 2 (bj (hName 0) (bj (hName 1) iW))) dX (aH 1) [.un,.un] (dWs ws)=.ok ((fV ws).map dG)
 | .nil=>rfl
 | .cons l g r=>by
  have ih:=wK r
  have e:aH 1 [.fz l,.fz (dG g)]=.ok (dG g):=rfl
  unfold dWs cA
  simp [jl,bj,hName,iW,dX,e,ih,fV]
theorem Fd {Q:Me->Res D}{g:Gm}(q:Q [.fz (dG g)]=.ok (.lst ((kids g).map dG))\/kids g=[]/\∃d,g=.fin d):aY 1 1 (iH Q) [dG g]=.ok (true,.lst ((kids g).map dG)):=by
 have x2:∀a b:D,atI [a,b] 0=some a:=λ_ _=>rfl
 have x3:∀a b c:D,atI [a,b,c] 0=some a:=λ_ _ _=>rfl
 have x4:∀a b c d:D,atI [a,b,c,d] 0=some a:=λ_ _ _ _=>rfl
 cases g with
 |fin d=>simp [aY,iH,aK,gIf,aM,au,ak,fC,gIx,dG,x2,jz,Me.let,Sl.let,gM,aA,kids]
 |deal n ws=>
  rcases q with q | ⟨_,d,e⟩
  ·have q':=q
   simp only [dG] at q'
   simp [aY,iH,aK,gIf,aM,au,ak,fC,gIx,dG,x3,jz,Me.let,Sl.let,q',gNx]
  ·cases e
 |move s n ws=>
  rcases q with q | ⟨_,d,e⟩
  ·have q':=q
   simp only [dG] at q'
   simp [aY,iH,aK,gIf,aM,au,ak,fC,gIx,dG,x4,jz,Me.let,Sl.let,q',gNx]
  ·cases e
theorem xV {g:Gm}(h:fP g):gh [dG g]=.ok (true,.lst ((kids g).map dG)):=by
 have x3:∀a b c:D,atI [a,b,c] (-1)=some c:=λ_ _ _=>rfl
 have x4:∀a b c d:D,atI [a,b,c,d] (-1)=some d:=λ_ _ _ _=>rfl
 refine Fd ?_
 cases g with
 |fin d=>exact .inr ⟨rfl,d,rfl⟩
 |deal n ws=>
  have hz:(dWs ws).length<=16777216:=by rw [jO]; have:=h.1; omega
  left
  simp [oA,bZ,o7,au,ak,fUn,uc,fC,gIx,dG,x3,cMe,hz,wK,kids]
 |move s n ws=>
  have hz:(dWs ws).length<=16777216:=by rw [jO]; have:=h.1; omega
  left
  simp [oA,bZ,o7,au,ak,fUn,uc,fC,gIx,dG,x4,cMe,hz,wK,kids]
theorem Oc (ks:List Gm):Ae (ks.map dG)=ks.zipIdx.map λp=>D.tup [.int (p.2:Int),dG p.1]:=by
 unfold Ae
 rw [List.mapIdx_eq_zipIdx_map,List.zipIdx_map,List.map_map]
 rfl
theorem iG {α:Type}{h:D->Me->Option Me}{ft:Me->Res Bool}{fe:Me->Res D}{m0:Me}{g f:α->D}:∀l:List α,(∀c∈l,∃m1,h (g c) m0=some m1/\ft m1=.ok true/\fe m1=.ok (f c))->cA h ft fe m0 (l.map g)=.ok (l.map f)
 |[],_=>rfl
 |d::ds,H=>by
  obtain ⟨m1,e1,e2,e3⟩:=H d List.mem_cons_self
  have ih:=iG ds λd hd=>H d (List.mem_cons_of_mem _ hd)
  rw [List.map_cons]
  unfold cA
  simp only [e1,e2,e3,ih,List.map_cons]
theorem Pq {w:List Int}{g:Gm}{a s1 s2 s4:Sl}(h:fP g)(hw:w.length<=1000):nA [a,s1,s2,.fz (pD (w,g)),s4]=.ok (.lst ((bh w g).map pD)):=by
 have hb:=xV h
 have hl:=Af h
 have x0:∀a b:D,atI [a,b] 0=some a:=λ_ _=>rfl
 have x1:∀a b:D,atI [a,b] 1=some b:=λ_ _=>rfl
 have e:cA (jl 2 (bj (hName 0) (bj (hName 1) iW))) dX p6 [.un,.un,.fz (pD (w,g))] ((kids g).zipIdx.map λp=>D.tup [.int (p.2:Int),dG p.1])=.ok ((kids g).zipIdx.map λp=>pD (w++[(p.2:Int)],p.1)):=iG _ λp hp=>by
  refine ⟨[.fz (.int (p.2:Int)),.fz (dG p.1),.fz (pD (w,g))],rfl,rfl,?_⟩
  have hz:(w.map D.int).length+1<=16777216:=by rw [List.length_map]; omega
  have hz':w.length+1<=16777216:=by omega
  simp [p6,aU,aj,aA,au,ak,aH,fC,gIx,pD,x0,cF,hz']
 have hz:(kids g).length<=16777216:=by omega
 have e':((bh w g).map pD)=(kids g).zipIdx.map λp=>pD (w++[(p.2:Int)],p.1):=by unfold bh; rw [List.map_map]; rfl
 rw [e']
 simp only [pD] at e ⊢
 simp [nA,bZ,aaw,aj,aA,fFn,au,ak,fC,gIx,x1,hb,Oc,cMe,Sl.bor,hz,e]
noncomputable def szS (st:List (List Int×Gm)):Nat:=(st.map λp=>szG p.2).sum
theorem ZZ (w:List Int)(g:Gm):szS (bh w g)+1=szG g:=by
 rw [aam]
 unfold szS bh
 rw [List.map_map]
 congr 2
 have:((λp:List Int×Gm=>szG p.2) ∘ λp:Gm×Nat=>(w++[(p.2:Int)],p.1))=szG ∘ Prod.fst:=rfl
 rw [this,← List.map_map,List.zipIdx_map_fst]
theorem M4:∀st:List (List Int×Gm),st.length<=szS st
 |[]=>Nat.zero_le _
 |p::st=>by
  have:=M4 st
  have:=yK p.2
  show st.length+1<=szG p.2+szS st
  omega
theorem M8 (a b:List (List Int×Gm)):szS (a++b)=szS a+szS b:=by unfold szS; rw [List.map_append,List.sum_append]
theorem Gu {t:Me->Res Bool}{b:Me->Res (Fl×Me)}{n:Nat}{m m':Me}{r:Res (Fl×Me)}(h1:t m=.ok true)(h2:b m=.ok (.nx,m'))(h3:wh t b n m'=some r):wh t b (n+1) m=some r:=by
 unfold wh
 rw [h1,h2]
 exact h3
theorem Dq {t:Me->Res Bool}{b:Me->Res (Fl×Me)}{m:Me}(h1:t m=.ok false):wh t b 1 m=some (.ok (.nx,m)):=by
 unfold wh
 rw [h1]
theorem Eb {a s3 s4:Sl}{done st:List (List Int×Gm)}{w:List Int}{g:Gm}(h:fP g)(hw:w.length<=1000)(hz:done.length+st.length<=10000000):
  ni [a,.ow (.lst (done.map pD)),.ow (.lst ((((w,g)::st).map pD).reverse)),s3,s4]=.ok (.nx,[a,.ow (.lst ((done++[(w,g)]).map pD)),.ow (.lst (((bh w g++st).map pD).reverse)),.fz (pD (w,g)),.fz (.lst ((bh w g).map pD))]):=by
 have hl:=Af h
 have hb:(bh w g).length=(kids g).length:=by unfold bh; simp
 have q:∀s1 s2 s4,nA [a,s1,s2,.fz (pD (w,g)),s4]=.ok (.lst ((bh w g).map pD)):=λs1 s2 s4=>Pq h hw
 have l1:((st.map pD).reverse++[pD (w,g)]).length - 1=(st.map pD).reverse.length:=by simp
 have g1:((st.map pD).reverse++[pD (w,g)])[((st.map pD).reverse++[pD (w,g)]).length - 1]? = some (pD (w,g)):=by rw [l1]; simp
 have d1:((st.map pD).reverse++[pD (w,g)]).dropLast=(st.map pD).reverse:=List.dropLast_concat
 have z1:done.length<16777216:=by omega
 have z2:st.length+(bh w g).length<=16777216:=by rw [hb]; omega
 rw [List.map_cons,List.reverse_cons]
 generalize hS:(st.map pD).reverse=S at *
 have lS:S.length=st.length:=by rw [← hS]; simp
 have e2:((bh w g++st).map pD).reverse=S++((bh w g).map pD).reverse:=by rw [List.map_append,List.reverse_append,hS]
 rw [e2]
 have g1':(S++[pD (w,g)])[S.length]? = some (pD (w,g)):=by simp
 simp [ni,aK,Ek,pU,putL,iQ,aH,bu,q,Gb,aW,aj,aA,ak,Sx,z1,lS,z2]
theorem Xz {w:List Int}{g:Gm}(h:fP g):∀p∈bh w g,fP p.2/\p.1.length=w.length+1:=λp hp=>by
 unfold bh at hp
 obtain ⟨q,hq,rfl⟩:=List.mem_map.mp hp
 have:q.1∈kids g:=by have:=List.mem_map_of_mem (f:=Prod.fst) hq; rwa [List.zipIdx_map_fst] at this
 exact ⟨(O6 h this).1,by simp⟩
theorem Vk {g k:Gm}(hk:k∈kids g):dp k<dp g:=by
 have aux:∀{ws:Ws},k∈fV ws->dp k<=dpW ws:=by
  intro ws
  induction ws using Ws.rec (motive_1:=λ_=>True) with
  |nil=>intro h; cases h
  |cons l g r _ ih=>
   intro h
   show dp k<=max (dp g) (dpW r)
   rcases List.mem_cons.mp h with w | w
   ·rw [w]; exact Nat.le_max_left _ _
   ·exact Nat.le_trans (ih w) (Nat.le_max_right _ _)
  |fin=>trivial
  |deal=>trivial
  |move=>trivial
 cases g with
 |fin d=>cases hk
 |deal n ws=>exact Nat.lt_succ_of_le (aux hk)
 |move s n ws=>exact Nat.lt_succ_of_le (aux hk)
theorem aa1 {w:List Int}{g:Gm}:∀p∈bh w g,dp p.2<dp g:=λp hp=>by
 unfold bh at hp
 obtain ⟨q,hq,rfl⟩:=List.mem_map.mp hp
 have:q.1∈kids g:=by have:=List.mem_map_of_mem (f:=Prod.fst) hq; rwa [List.zipIdx_map_fst] at this
 exact Vk this
theorem yM (a:Sl):∀(N:Nat) (done st:List (List Int×Gm)) (s3 s4:Sl),szS st=N->(∀p∈st,fP p.2/\p.1.length+dp p.2<=100)->done.length+szS st<=10000000->
  ∃k s3' s4',wh m6 ni k [a,.ow (.lst (done.map pD)),.ow (.lst ((st.map pD).reverse)),s3,s4]=some (.ok (.nx,[a,.ow (.lst ((done++st.flatMap λp=>plG p.1 p.2).map pD)),.ow (.lst []),s3',s4'])):=by
 intro N
 induction N using Nat.strongRecOn with
 |_ N ih=>
  intro done st s3 s4 hN hs hz
  cases st with
  |nil=>
   refine ⟨1,s3,s4,?_⟩
   simp only [List.map_nil,List.reverse_nil,List.flatMap_nil,List.append_nil]
   exact Dq (by simp [m6,aM,aW,iU,aj,aA,ak,fC,gGt])
  |cons p st=>
   obtain ⟨w,g⟩:=p
   have h1:fP g/\w.length+dp g<=100:=hs (w,g) (by simp)
   have sb:=ZZ w g
   have hsum:szS ((w,g)::st)=szG g+szS st:=rfl
   have ls:=M4 st
   have gp:=yK g
   obtain ⟨k,t3,t4,e⟩:=ih (szS (bh w g++st)) (by rw [M8]; omega) (done++[(w,g)]) (bh w g++st) (.fz (pD (w,g))) (.fz (.lst ((bh w g).map pD))) rfl (λp hp=>by
    rcases List.mem_append.mp hp with v | v
    ·have v1:=Xz h1.1 p v
     have v2:=aa1 p v
     exact ⟨v1.1,by omega⟩
    ·exact hs p (by simp [v])) (by rw [M8,List.length_append]; simp; omega)
   refine ⟨k+1,t3,t4,?_⟩
   have e3:done++((w,g)::st).flatMap (λp=>plG p.1 p.2)=done++[(w,g)]++(bh w g++st).flatMap λp=>plG p.1 p.2:=by
    rw [List.flatMap_cons,List.flatMap_append,Zb]
    simp
   rw [e3]
   refine Gu ?_ (Eb h1.1 (by omega) (by omega)) e
   simp [m6,aM,aW,iU,aj,aA,ak,fC,gGt]
theorem JX {L:Me->Res (Fl×Me)}{d:D}{ps:List D}{s3 s4:Sl}(e:L [.fz d,.ow (.lst []),.ow (.lst [.tup [.tup [],d]]),.un,.un]=.ok (.nx,[.fz d,.ow (.lst ps),.ow (.lst []),s3,s4])):aY 5 1 (pK L) [d]=.ok (true,.lst ps):=by
 simp [aY,pK,aK,jE,gM,aj,aA,aU,aH,e,uw]
theorem places_eq {g:Gm}(h:fP g)(hd:dp g<=50)(hz:szG g<=10000000):eF [dG g]=.ok (true,.lst ((plG [] g).map pD)):=by
 obtain ⟨k,s3,s4,e⟩:=yM (.fz (dG g)) _ [] [([],g)] .un .un rfl (λp hp=>by rw [List.mem_singleton.mp hp]; exact ⟨h,by simp; omega⟩) (by show 0+(szG g+0)<=_; omega)
 have e2:=xH k e
 simp only [List.nil_append,List.flatMap_cons,List.flatMap_nil,List.append_nil] at e2
 exact JX (s3:=s3) (s4:=s4) e2
open PySem L2 Hd F
noncomputable def kw (w:List Int):List Kt:=w.map λi=>.k (.inl i)
theorem Di:∀{v w:List Int},kw v=kw w->v=w
 |[],[],_=>rfl
 |[],_::_,h=>by cases h
 |_::_,[],h=>by cases h
 |a::v,b::w,h=>by
  have h:(Kt.k (.inl a):Kt)::kw v=Kt.k (.inl b)::kw w:=h
  injection h with h1 h2
  injection h1 with h1
  injection h1 with h1
  rw [h1,Di h2]
theorem XF:∀w:List Int,nu (ktD 7) (w.map D.int)=some (kw w)
 |[]=>rfl
 |a::w=>by
  show ((ktD 7 (.int a)).bind λk=>(nu (ktD 7) (w.map D.int)).map λks=>k::ks)=_
  rw [XF w]
  rfl
theorem Rf (w:List Int):ug (.tup (w.map D.int))=some (kw w):=XF w
theorem Hs {k k':List Kt}{d:D}:∀{ks:List (List Kt)} {ds:List D},ks.length=ds.length->k∈ks->cQ ks (ur ks ds k d) k'=if k=k' then some d else cQ ks ds k'
 |[],_,_,h=>by cases h
 |a::ks,[],h,_=>by simp at h
 |a::ks,x::ds,h,hk=>by
  have hl:ks.length=ds.length:=by simpa using h
  unfold ur cQ
  by_cases h1:a=k'
  ·rw [if_pos h1,if_pos h1]
   by_cases h2:a=k
   ·rw [if_pos h2,if_pos (h2 ▸ h1)]
   ·rw [if_neg h2,if_neg λe=>h2 (by rw [h1,e])]
  ·rw [if_neg h1,if_neg h1]
   by_cases h2:k∈ks
   ·exact Hs hl h2
   ·have h3:a=k:=by
     rcases List.mem_cons.mp hk with e | e
     ·exact e.symm
     ·exact absurd e h2
    have h4:k≠k':=λe=>h1 (by rw [h3,e])
    rw [if_neg h4]
    have e:∀{ks:List (List Kt)} {ds:List D},k∉ks->ks.length=ds.length->ur ks ds k d=ds:=by
     intro ks
     induction ks with
     |nil=>intro ds _ hl; cases ds with
      |nil=>rfl
      |cons _ _=>simp at hl
     |cons b ks ih=>intro ds hn hl; cases ds with
      |nil=>simp at hl
      |cons y ds=>
       unfold ur
       rw [if_neg (λ(e:b=k)=>hn (e ▸ List.mem_cons_self)),ih (λe=>hn (List.mem_cons_of_mem _ e)) (by simpa using hl)]
    rw [e h2 hl]
theorem Ga {k k':List Kt}{d:D}:∀{ks:List (List Kt)} {ds:List D},ks.length=ds.length->k∉ks->cQ (ks++[k]) (ds++[d]) k'=if k=k' then some d else cQ ks ds k'
 |[],[],_,_=>by simp [cQ]
 |[],_::_,h,_=>by simp at h
 |a::ks,[],h,_=>by simp at h
 |a::ks,x::ds,h,hk=>by
  have ih:=Ga (k:=k) (k':=k') (d:=d) (ks:=ks) (ds:=ds) (by simpa using h) λe=>hk (List.mem_cons_of_mem _ e)
  have hn:a≠k:=λe=>hk (e ▸ List.mem_cons_self)
  show cQ (a::(ks++[k])) (x::(ds++[d])) k'=_
  unfold cQ
  rw [ih]
  by_cases h1:a=k'
  ·rw [if_pos h1,if_neg λe=>hn (by rw [h1,e]),if_pos h1]
  ·rw [if_neg h1,if_neg h1]
theorem Ly {k:List Kt}{ks:List (List Kt)}:ks.any (λx=>decide (x=k))=true↔k∈ks:=by
 rw [List.any_eq_true]
 constructor
 ·rintro ⟨x,hx,e⟩
  have:x=k:=by simpa using e
  rw [← this]; exact hx
 ·intro h; exact ⟨k,h,by simp⟩
theorem Ja {k:List Kt}{d:D}:∀{ks:List (List Kt)} {ds:List D},ks.length=ds.length->(ur ks ds k d).length=ks.length
 |[],[],_=>rfl
 |[],_::_,h=>by simp at h
 |a::ks,[],h=>by simp at h
 |a::ks,x::ds,h=>by
  have:=Ja (k:=k) (d:=d) (ks:=ks) (ds:=ds) (by simpa using h)
  simp [ur,this]
theorem wH {ks:List (List Kt)}{ds:List D}{k k':List Kt}{d:D}(hl:ks.length=ds.length):cQ (lA ks ds k d).1 (lA ks ds k d).2 k'=if k=k' then some d else cQ ks ds k':=by
 unfold lA
 by_cases h:ks.any (λx=>decide (x=k))=true
 ·rw [if_pos h]; exact Hs hl (Ly.mp h)
 ·rw [if_neg h]; exact Ga hl λz=>h (Ly.mpr z)
theorem Ft {ks:List (List Kt)}{ds:List D}{k:List Kt}{d:D}(hl:ks.length=ds.length):(lA ks ds k d).1.length=(lA ks ds k d).2.length/\(lA ks ds k d).1.length<=ks.length+1:=by
 unfold lA
 by_cases h:ks.any (λx=>decide (x=k))=true
 ·rw [if_pos h]; exact ⟨(Ja hl).symm,by simp⟩
 ·rw [if_neg h]; exact ⟨by simp [hl],by simp⟩
theorem bT {h:D->Me->Option Me}{g:Me->Res (Fl×Me)}{d:D}{ds:List D}{m m1 m2:Me}(h1:h d m=some m1)(h2:g m1=.ok (.nx,m2)):bW h g (d::ds) m=bW h g ds m2:=by
 rw [bW,h1]
 simp only [h2]
noncomputable abbrev Rc:=List D×List D
noncomputable def rD2 (r:Rc):D:=.tup [.tup r.1,.tup r.2]
noncomputable def rbm (s:Int)(n:Str)(r:Rc)(l:D):Rc:=if s=1 then (r.1++[.tup [.str n,l]],r.2) else (r.1,r.2++[.tup [.str n,l]])
noncomputable def eV:Ws->List D
 | .nil=>[]
 | .cons l _ r=>l::eV r
noncomputable def rbg:Gm->Rc->D->Rc
 | .move s n _,r,l=>rbm s n r l
 |_,r,_=>r
noncomputable def yw:Gm->Ws
 | .fin _=>.nil
 | .deal _ ws=>ws
 | .move _ _ ws=>ws
mutual
noncomputable def prG:List Int->Rc->Gm->List (List Int×Gm×Rc)
 |w,r,.fin d=>[(w,.fin d,r)]
 |w,r,.deal n ws=>(w,.deal n ws,r)::prW w (λ_=>r) 0 ws
 |w,r,.move s n ws=>(w,.move s n ws,r)::prW w (rbm s n r) 0 ws
noncomputable def prW:List Int->(D->Rc)->Nat->Ws->List (List Int×Gm×Rc)
 |_,_,_,.nil=>[]
 |w,f,i,.cons l g r=>prG (w++[(i:Int)]) (f l) g++prW w f (i+1) r
end
mutual
theorem LK:∀(w:List Int) (r:Rc) (g:Gm),(prG w r g).map (λp=>(p.1,p.2.1))=plG w g
 |w,r,.fin d=>rfl
 |w,r,.deal n ws=>by
  show (w,Gm.deal n ws)::(prW w (λ_=>r) 0 ws).map _=(w,Gm.deal n ws)::plW w 0 ws
  rw [Jr w _ 0 ws]
 |w,r,.move s n ws=>by
  show (w,Gm.move s n ws)::(prW w (rbm s n r) 0 ws).map _=(w,Gm.move s n ws)::plW w 0 ws
  rw [Jr w _ 0 ws]
theorem Jr:∀(w:List Int) (f:D->Rc) (i:Nat) (ws:Ws),(prW w f i ws).map (λp=>(p.1,p.2.1))=plW w i ws
 |w,f,i,.nil=>rfl
 |w,f,i,.cons l g r=>by
  show (prG (w++[(i:Int)]) (f l) g++prW w f (i+1) r).map _=plG (w++[(i:Int)]) g++plW w (i+1) r
  rw [List.map_append,LK _ _ g,Jr w f (i+1) r]
end
noncomputable def trD (p:List Int×Gm×Rc):D:=.tup [.tup (p.1.map D.int),dG p.2.1,rD2 p.2.2]
theorem LR:∀(ws:Ws) (k:Nat) (l:D),(eV ws)[k]? = some l->∃g,(dWs ws)[k]? = some (.tup [l,g])
 | .nil,k,l,h=>by simp [eV] at h
 | .cons a g r,0,l,h=>by
  have:a=l:=by simpa [eV] using h
  exact ⟨dG g,by simp [dWs,this]⟩
 | .cons a g r,k+1,l,h=>by
  obtain ⟨x,e⟩:=LR r k l (by simpa [eV] using h)
  exact ⟨x,by simpa [dWs] using e⟩
theorem tu:∀ws:Ws,(eV ws).length=jq ws
 | .nil=>rfl
 | .cons _ _ r=>by simp [eV,jq,tu r]
theorem abQ {g:Gm}{r:Rc}{k:Nat}{l:D}(hl:(eV (yw g))[k]? = some l)(hg:fP g)(hr:r.1.length<=1000/\r.2.length<=1000)(hs:∀s n ws,g=.move s n ws->s=1\/s=2):
  dD [dG g,rD2 r,.int (k:Int)]=.ok (false,rD2 (rbg g r l)):=by
 have x30:∀a b c:D,atI [a,b,c] 0=some a:=λ_ _ _=>rfl
 have x40:∀a b c d:D,atI [a,b,c,d] 0=some a:=λ_ _ _ _=>rfl
 have x41:∀a b c d:D,atI [a,b,c,d] 1=some b:=λ_ _ _ _=>rfl
 have x42:∀a b c d:D,atI [a,b,c,d] 2=some c:=λ_ _ _ _=>rfl
 have x43:∀a b c d:D,atI [a,b,c,d] 3=some d:=λ_ _ _ _=>rfl
 have x20:∀a b:D,atI [a,b] 0=some a:=λ_ _=>rfl
 have x21:∀a b:D,atI [a,b] 1=some b:=λ_ _=>rfl
 cases g with
 |fin d=>simp [yw,eV] at hl
 |deal n ws=>simp [dD,gR,gO,aY,aK,gIf,aM,au,ak,fC,gIx,dG,x30,bD,aH,Me.let,Sl.let,rbg]
 |move s n ws=>
  obtain ⟨y,ey⟩:=LR ws k l hl
  have ez:=pN ey
  have z1:r.1.length+1<=16777216:=by omega
  have z2:r.2.length+1<=16777216:=by omega
  rcases hs s n ws rfl with rfl | rfl
  ·simp [dD,gR,gO,aY,aK,gIf,aM,au,ak,fC,gIx,dG,x40,x41,x42,x43,bD,aH,Me.let,Sl.let,rbg,gNx,bu,aU,aj,aA,ez,x20,x21,rD2,cF,z1,rbm]
  ·simp [dD,gR,gO,aY,aK,gIf,aM,au,ak,fC,gIx,dG,x40,x41,x42,x43,bD,aH,Me.let,Sl.let,rbg,gNx,bu,aU,aj,aA,ez,x20,x21,rD2,cF,z2,rbm]
theorem abt (w:List Int)(j:Int):kw (w++[j])≠kw w:=λh=>by
 have:=Di h
 have:=congrArg List.length this
 simp at this
theorem Zc {w:List Int}{i j:Int}(h:i≠j):kw (w++[i])≠kw (w++[j]):=λe=>h (by simpa using Di e)
theorem S5 {g0 s2 s5:Sl}{ks:List (List Kt)}{ds:List D}{w:List Int}{g:Gm}{r:Rc}{k:Nat}{l:D}(hv:cQ ks ds (kw w)=some (rD2 r))(hk:(eV (yw g))[k]? = some l)(hg:fP g)(hr:r.1.length<=1000/\r.2.length<=1000)
  (hs:∀s n ws,g=.move s n ws->s=1\/s=2) (hz:ks.length<=10000000) (hw:w.length<=1000):
  cU [g0,.ow (.dcu ks ds),s2,.fz (.tup (w.map D.int)),.fz (dG g),.fz (.int (k:Int))]=.ok (.nx,[g0,.ow (.dcu (lA ks ds (kw (w++[(k:Int)])) (rD2 (rbg g r l))).1 (lA ks ds (kw (w++[(k:Int)])) (rD2 (rbg g r l))).2),s2,.fz (.tup (w.map D.int)),.fz (dG g),.fz (.int (k:Int))]):=by
 have e:=abQ hk hg hr hs
 have z1:ks.length<16777216:=by omega
 have z2:w.length+1<=16777216:=by omega
 have kk:ug (.tup (w.map D.int++[.int (k:Int)]))=some (kw (w++[(k:Int)])):=by
  rw [← Rf]; simp
 have kk2:ug (.tup (w.map D.int))=some (kw w):=Rf w
 simp [cU,Uc,fFn,aj,aA,aH,au,ak,vQ,dcK,kk2,hv,e,Bk,aU,cF,z2,kk,z1,rO]
theorem GX {g0 s2:Sl}{w:List Int}{g:Gm}{r:Rc}(hg:fP g)(hr:r.1.length<=1000/\r.2.length<=1000)(hs:∀s n ws,g=.move s n ws->s=1\/s=2)(hw:w.length<=1000):
  ∀(c i:Nat) (ks:List (List Kt)) (ds:List D) (s5:Sl),i+c=(eV (yw g)).length->ks.length=ds.length->cQ ks ds (kw w)=some (rD2 r)->ks.length+c<=1000000->
   ∃ks' ds' s5',bW (hName 5) cU ((List.range' i c).map λ(k:Nat)=>D.int k) [g0,.ow (.dcu ks ds),s2,.fz (.tup (w.map D.int)),.fz (dG g),s5]=.ok (.nx,[g0,.ow (.dcu ks' ds'),s2,.fz (.tup (w.map D.int)),.fz (dG g),s5'])/\ks'.length=ds'.length/\ks'.length<=ks.length+c/\
    (∀j l,i<=j->(eV (yw g))[j]? = some l->cQ ks' ds' (kw (w++[(j:Int)]))=some (rD2 (rbg g r l)))/\(∀k',(∀j:Nat,i<=j->k'≠kw (w++[(j:Int)]))->cQ ks' ds' k'=cQ ks ds k')
 |0,i,ks,ds,s5,hc,hl,hv,hz=>⟨ks,ds,s5,rfl,hl,by omega,λj l h1 h2=>by
   have:=(List.getElem?_eq_some_iff.mp h2).1
   omega,λ_ _=>rfl⟩
 |c+1,i,ks,ds,s5,hc,hl,hv,hz=>by
  have hi:i<(eV (yw g)).length:=by omega
  obtain ⟨l,el⟩:∃l,(eV (yw g))[i]? = some l:=⟨_,List.getElem?_eq_getElem hi⟩
  have st:=S5 (g0:=g0) (s2:=s2) (s5:=s5) hv el hg hr hs (by omega) hw
  have hv1:cQ (lA ks ds (kw (w++[(i:Int)])) (rD2 (rbg g r l))).1 (lA ks ds (kw (w++[(i:Int)])) (rD2 (rbg g r l))).2 (kw w)=some (rD2 r):=by rw [wH hl,if_neg (abt w i)]; exact hv
  obtain ⟨l1,l2⟩:=Ft (k:=kw (w++[(i:Int)])) (d:=rD2 (rbg g r l)) hl
  obtain ⟨ks',ds',s5',e,a1,a2,a3,a4⟩:=GX (g0:=g0) (s2:=s2) (w:=w) (g:=g) (r:=r) hg hr hs hw c (i+1) _ _ (.fz (.int (i:Int))) (by omega) l1 hv1 (by omega)
  refine ⟨ks',ds',s5',?_,a1,by omega,λj l' h1 h2=>?_,λk' h=>?_⟩
  ·rw [List.range'_succ,List.map_cons]
   rw [bT (m1:=[g0,.ow (.dcu ks ds),s2,.fz (.tup (w.map D.int)),.fz (dG g),.fz (.int (i:Int))]) rfl st]
   exact e
  ·by_cases q:i=j
   ·subst q
    rw [a4 _ λj hj=>Zc (by omega),wH hl,if_pos rfl]
    rw [el] at h2; cases h2; rfl
   ·exact a3 j l' (by omega) h2
  ·rw [a4 k' λj hj=>h j (by omega),wH hl,if_neg λq=>h i (Nat.le_refl _) q.symm]
open PySem L2 Hd F
mutual
noncomputable def sdG:Gm->Prop
 | .fin _=>True
 | .deal _ ws=>sdW ws
 | .move s _ ws=>(s=1\/s=2)/\sdW ws
noncomputable def sdW:Ws->Prop
 | .nil=>True
 | .cons _ g r=>sdG g/\sdW r
end
noncomputable abbrev hPl:D->Me->Option Me:=jl 2 (bj (hName 3) (bj (hName 4) iW))
theorem Wv (g:Gm):kids g=fV (yw g):=by cases g <;> rfl
theorem Ai {g0 s3 s4 s5:Sl}{ks:List (List Kt)}{ds found:List D}{w:List Int}{g:Gm}{r:Rc}(hl:ks.length=ds.length)(hv:cQ ks ds (kw w)=some (rD2 r))(hg:fP g)(hr:r.1.length<=1000/\r.2.length<=1000)
  (hs:∀s n ws,g=.move s n ws->s=1\/s=2) (hz:ks.length<=100000) (hf:found.length<=100000) (hw:w.length<=1000):
  ∃ks' ds' s5',(hPl (pD (w,g)) [g0,.ow (.dcu ks ds),.ow (.lst found),s3,s4,s5]=some [g0,.ow (.dcu ks ds),.ow (.lst found),.fz (.tup (w.map D.int)),.fz (dG g),s5])/\
   bc [g0,.ow (.dcu ks ds),.ow (.lst found),.fz (.tup (w.map D.int)),.fz (dG g),s5]=.ok (.nx,[g0,.ow (.dcu ks' ds'),.ow (.lst (found++[trD (w,g,r)])),.fz (.tup (w.map D.int)),.fz (dG g),s5'])/\ks'.length=ds'.length/\ks'.length<=ks.length+jq (yw g)/\
    (∀(j:Nat) (l:D),(eV (yw g))[j]? = some l->cQ ks' ds' (kw (w++[(j:Int)]))=some (rD2 (rbg g r l)))/\(∀k',(∀j:Nat,k'≠kw (w++[(j:Int)]))->cQ ks' ds' k'=cQ ks ds k'):=by
 have hb:=xV hg
 have hk:=Af hg
 have ek:(kids g).length=(eV (yw g)).length:=by rw [Wv,jy,tu]
 obtain ⟨ks',ds',s5',e,a1,a2,a3,a4⟩:=GX (g0:=g0) (s2:=.ow (.lst (found++[trD (w,g,r)]))) (w:=w) (g:=g) (r:=r) hg hr hs hw (kids g).length 0 ks ds s5 (by omega) hl hv (by omega)
 refine ⟨ks',ds',s5',rfl,?_,a1,by rw [← tu,← ek]; exact a2,λj l h=>a3 j l (Nat.zero_le _) h,λk' h=>a4 k' λj _=>h j⟩
 have z1:found.length<16777216:=by omega
 have z3:((kids g).length:Int)<4611686018427387904:=by omega
 have kk2:ug (.tup (w.map D.int))=some (kw w):=Rf w
 have eL:gJ [g0,.ow (.dcu ks ds),.ow (.lst (found++[trD (w,g,r)])),.fz (.tup (w.map D.int)),.fz (dG g),s5]=.ok (.nx,[g0,.ow (.dcu ks' ds'),.ow (.lst (found++[trD (w,g,r)])),.fz (.tup (w.map D.int)),.fz (dG g),s5']):=by
  have e1:(aj (aW iU (aj (fFn gh (aj (aH 4) aA)) aA)) aA) [g0,.ow (.dcu ks ds),.ow (.lst (found++[trD (w,g,r)])),.fz (.tup (w.map D.int)),.fz (dG g),s5]=.ok [.int ((kids g).length:Int)]:=by
   simp [aW,iU,fFn,aj,aA,aH,hb]
  have e2:=Ky e1 (by omega) (by omega)
  unfold gJ jD
  rw [e2]
  show bW (hName 5) cU ((List.range (kids g).length).map λ(k:Nat)=>D.int k) _=_
  rw [List.range_eq_range']
  exact e
 simp only [trD] at eL ⊢
 simp [bc,aK,iQ,aU,aj,aA,aH,au,ak,vQ,dcK,kk2,hv,pU,putL,z1,eL]
theorem Dy (ws:Ws):(fV ws).length<=((fV ws).map szG).sum:=by
 induction fV ws with
 |nil=>exact Nat.zero_le _
 |cons g l ih=>have:=yK g; simp; omega
mutual
theorem yH:∀(w:List Int) (g:Gm),(plG w g).length=szG g
 |w,.fin d=>rfl
 |w,.deal n ws=>by show (plW w 0 ws).length+1=szW ws+1; rw [Eh w 0 ws]
 |w,.move s n ws=>by show (plW w 0 ws).length+1=szW ws+1; rw [Eh w 0 ws]
theorem Eh:∀(w:List Int) (i:Nat) (ws:Ws),(plW w i ws).length=szW ws
 |w,i,.nil=>rfl
 |w,i,.cons l g r=>by show (plG (w++[(i:Int)]) g++plW w (i+1) r).length=szG g+szW r; rw [List.length_append,yH _ g,Eh w (i+1) r]
end
mutual
theorem U4 (g0:Sl):∀(g:Gm) (w:List Int) (r:Rc) (ks:List (List Kt)) (ds found:List D) (s3 s4 s5:Sl) (rest:List D),ks.length=ds.length->cQ ks ds (kw w)=some (rD2 r)->fP g->sdG g->r.1.length+dp g<=1000->r.2.length+dp g<=1000->w.length+dp g<=1000->
  ks.length+szG g<=100001->found.length+szG g<=100000->
  ∃ks' ds' s3' s4' s5',bW hPl bc ((plG w g).map pD++rest) [g0,.ow (.dcu ks ds),.ow (.lst found),s3,s4,s5]=bW hPl bc rest [g0,.ow (.dcu ks' ds'),.ow (.lst (found++(prG w r g).map trD)),s3',s4',s5']/\ks'.length=ds'.length/\ks'.length+1<=ks.length+szG g/\
   (∀k',(∀u:List Int,u≠[]->k'≠kw (w++u))->cQ ks' ds' k'=cQ ks ds k')
 | .fin d,w,r,ks,ds,found,s3,s4,s5,rest,hl,hv,hg,hs,r1,r2,hw,hz,hf=>by
  have hsz:szG (.fin d)=1:=rfl
  obtain ⟨ks',ds',s5',e1,e2,a1,a2,a3,a4⟩:=Ai (g0:=g0) (s3:=s3) (s4:=s4) (s5:=s5) (found:=found) (g:=.fin d) hl hv hg ⟨by omega,by omega⟩ (λ_ _ _ z=>by cases z) (by omega) (by omega) (by omega)
  refine ⟨ks',ds',.fz (.tup (w.map D.int)),.fz (dG (.fin d)),s5',?_,a1,by simpa [yw,jq,szG] using a2,λk' h=>a4 k' λj=>h [(j:Int)] (by simp)⟩
  show bW hPl bc (pD (w,.fin d)::rest) _=_
  rw [bT e1 e2]
  rfl
 | .deal n ws,w,r,ks,ds,found,s3,s4,s5,rest,hl,hv,hg,hs,r1,r2,hw,hz,hf=>by
  have hsz:szG (.deal n ws)=szW ws+1:=rfl
  have hdp:dp (.deal n ws)=dpW ws+1:=rfl
  have hlw:jq ws<=szW ws:=by rw [← jy,xK]; exact Dy ws
  obtain ⟨ks',ds',s5',e1,e2,a1,a2,a3,a4⟩:=Ai (g0:=g0) (s3:=s3) (s4:=s4) (s5:=s5) (found:=found) (g:=.deal n ws) hl hv hg ⟨by omega,by omega⟩ (λ_ _ _ z=>by cases z) (by omega) (by omega) (by omega)
  have a2:ks'.length<=ks.length+jq ws:=a2
  obtain ⟨kt,dt,t3,t4,t5,e,b1,b2,b3⟩:=Jw g0 ws w (λ_=>r) 0 ks' ds' (found++[trD (w,.deal n ws,r)]) (.fz (.tup (w.map D.int))) (.fz (dG (.deal n ws))) s5' rest a1 (λj l h=>by rw [Nat.zero_add]; exact a3 j l h) hg.2 hs (λl=>by omega) (λl=>by omega) (by omega) (by omega) (by rw [List.length_append,List.length_singleton]; omega)
  refine ⟨kt,dt,t3,t4,t5,?_,b1,by omega,λk' h=>?_⟩
  ·show bW hPl bc (pD (w,.deal n ws)::((plW w 0 ws).map pD++rest)) _=_
   rw [bT e1 e2,e]
   show bW _ _ _ [_,_,.ow (.lst (found++[trD (w,.deal n ws,r)]++(prW w (λ_=>r) 0 ws).map trD)),_,_,_]=bW _ _ _ [_,_,.ow (.lst (found++(trD (w,.deal n ws,r)::(prW w (λ_=>r) 0 ws).map trD))),_,_,_]
   rw [List.append_assoc]; rfl
  ·rw [b3 k' λj u hu=>h _ (by simp),a4 k' λj=>h [(j:Int)] (by simp)]
 | .move s n ws,w,r,ks,ds,found,s3,s4,s5,rest,hl,hv,hg,hs,r1,r2,hw,hz,hf=>by
  have hsz:szG (.move s n ws)=szW ws+1:=rfl
  have hdp:dp (.move s n ws)=dpW ws+1:=rfl
  have hlw:jq ws<=szW ws:=by rw [← jy,xK]; exact Dy ws
  obtain ⟨ks',ds',s5',e1,e2,a1,a2,a3,a4⟩:=Ai (g0:=g0) (s3:=s3) (s4:=s4) (s5:=s5) (found:=found) (g:=.move s n ws) hl hv hg ⟨by omega,by omega⟩ (λ_ _ _ z=>by cases z; exact hs.1) (by omega) (by omega) (by omega)
  have a2:ks'.length<=ks.length+jq ws:=a2
  have rl:∀l,(rbm s n r l).1.length<=r.1.length+1/\(rbm s n r l).2.length<=r.2.length+1:=λl=>by
   unfold rbm; split <;> simp
  obtain ⟨kt,dt,t3,t4,t5,e,b1,b2,b3⟩:=Jw g0 ws w (rbm s n r) 0 ks' ds' (found++[trD (w,.move s n ws,r)]) (.fz (.tup (w.map D.int))) (.fz (dG (.move s n ws))) s5' rest a1 (λj l h=>by rw [Nat.zero_add]; exact a3 j l h) hg.2 hs.2 (λl=>by have:=(rl l).1; omega) (λl=>by have:=(rl l).2; omega) (by omega) (by omega) (by rw [List.length_append,List.length_singleton]; omega)
  refine ⟨kt,dt,t3,t4,t5,?_,b1,by omega,λk' h=>?_⟩
  ·show bW hPl bc (pD (w,.move s n ws)::((plW w 0 ws).map pD++rest)) _=_
   rw [bT e1 e2,e]
   show bW _ _ _ [_,_,.ow (.lst (found++[trD (w,.move s n ws,r)]++(prW w (rbm s n r) 0 ws).map trD)),_,_,_]=bW _ _ _ [_,_,.ow (.lst (found++(trD (w,.move s n ws,r)::(prW w (rbm s n r) 0 ws).map trD))),_,_,_]
   rw [List.append_assoc]; rfl
  ·rw [b3 k' λj u hu=>h _ (by simp),a4 k' λj=>h [(j:Int)] (by simp)]
theorem Jw (g0:Sl):∀(ws:Ws) (w:List Int) (f:D->Rc) (i:Nat) (ks:List (List Kt)) (ds found:List D) (s3 s4 s5:Sl) (rest:List D),ks.length=ds.length->(∀(j:Nat) (l:D),(eV ws)[j]? = some l->cQ ks ds (kw (w++[((i+j:Nat):Int)]))=some (rD2 (f l)))->rN ws->sdW ws->
  (∀l,(f l).1.length+dpW ws<=1000)->(∀l,(f l).2.length+dpW ws<=1000)->w.length+1+dpW ws<=1000->ks.length+szW ws<=100000+jq ws->found.length+szW ws<=100000->
  ∃ks' ds' s3' s4' s5',bW hPl bc ((plW w i ws).map pD++rest) [g0,.ow (.dcu ks ds),.ow (.lst found),s3,s4,s5]=bW hPl bc rest [g0,.ow (.dcu ks' ds'),.ow (.lst (found++(prW w f i ws).map trD)),s3',s4',s5']/\ks'.length=ds'.length/\ks'.length+jq ws<=ks.length+szW ws/\
   (∀k',(∀(j:Nat) (u:List Int),u≠[]->k'≠kw (w++((i+j:Nat):Int)::u))->cQ ks' ds' k'=cQ ks ds k')
 | .nil,w,f,i,ks,ds,found,s3,s4,s5,rest,hl,hv,hg,hs,r1,r2,hw,hz,hf=>⟨ks,ds,s3,s4,s5,by simp [plW,prW],hl,by simp [jq,szW],λ_ _=>rfl⟩
 | .cons l g r,w,f,i,ks,ds,found,s3,s4,s5,rest,hl,hv,hg,hs,r1,r2,hw,hz,hf=>by
  have hsz:szW (.cons l g r)=szG g+szW r:=rfl
  have hdp:dpW (.cons l g r)=max (dp g) (dpW r):=rfl
  have hlw:jq (.cons l g r)=jq r+1:=rfl
  have hl2:jq r<=szW r:=by rw [← jy,xK]; exact Dy r
  have hp:=yK g
  have q1:=r1 l
  have q2:=r2 l
  obtain ⟨ks',ds',t3,t4,t5,e,a1,a2,a3⟩:=U4 g0 g (w++[(i:Int)]) (f l) ks ds found s3 s4 s5 ((plW w (i+1) r).map pD++rest) hl (hv 0 l rfl) hg.1 hs.1 (by omega) (by omega) (by rw [List.length_append,List.length_singleton]; omega) (by omega) (by omega)
  have pl:(prG (w++[(i:Int)]) (f l) g).length=szG g:=by rw [← List.length_map (f:=λp=>(p.1,p.2.1)),LK]; exact yH _ g
  obtain ⟨kt,dt,u3,u4,u5,e',b1,b2,b3⟩:=Jw g0 r w f (i+1) ks' ds' (found++(prG (w++[(i:Int)]) (f l) g).map trD) t3 t4 t5 rest a1 (λj l' h=>by
   rw [a3 _ λu hu z=>?_,← hv (j+1) l' (by simpa [eV] using h),show i+(j+1)=i+1+j by omega]
   have:=Di z
   simp at this
   omega) hg.2 hs.2 (λl=>by have:=r1 l; omega) (λl=>by have:=r2 l; omega) (by omega) (by omega) (by rw [List.length_append,List.length_map,pl]; omega)
  refine ⟨kt,dt,u3,u4,u5,?_,b1,by omega,λk' h=>?_⟩
  ·show bW _ _ ((plG (w++[(i:Int)]) g++plW w (i+1) r).map pD++rest) _=_
   rw [List.map_append,List.append_assoc,e,e']
   show _=bW _ _ _ [_,_,.ow (.lst (found++(prG (w++[(i:Int)]) (f l) g++prW w f (i+1) r).map trD)),_,_,_]
   rw [List.map_append,List.append_assoc]
  ·rw [b3 k' λj u hu=>by have:=h (j+1) u hu; rw [show i+(j+1)=i+1+j by omega] at this; exact this]
   refine a3 k' λu hu=>?_
   have:=h 0 u hu
   simpa using this
end
open PySem L2 Hd F
theorem VJ {L:Me->Res (Fl×Me)}{d:D}{ps:List D}{a s3 s4 s5:Sl}(e:L [.fz d,.ow (.dcu [[]] [rD2 ([],[])]),.ow (.lst []),.un,.un,.un]=.ok (.nx,[.fz d,a,.ow (.lst ps),s3,s4,s5])):aY 6 1 (fL L) [d]=.ok (true,.lst ps):=by
 have k0:ug (.tup [])=some []:=rfl
 simp only [rD2] at e
 simp [aY,fL,aK,jE,J6,aU,aA,aj,k0,gM,e,uw]
theorem Th {g:Gm}(h:fP g)(hs:sdG g)(hd:dp g<=50)(hz:szG g<=10000):bM [dG g]=.ok (true,.lst ((prG [] ([],[]) g).map trD)):=by
 have e:=places_eq h hd (by omega)
 obtain ⟨ks',ds',s3',s4',s5',e2,_⟩:=U4 (.fz (dG g)) g [] ([],[]) [[]] [rD2 ([],[])] [] .un .un .un [] rfl (by simp [cQ,kw]) h hs (by simp; omega) (by simp; omega) (by simp; omega) (by simp; omega) (by simp; omega)
 refine VJ (a:=.ow (.dcu ks' ds')) (s3:=s3') (s4:=s4') (s5:=s5') ?_
 have e1:fO (fFn eF (aj (aH 0) aA)) [.fz (dG g),.ow (.dcu [[]] [rD2 ([],[])]),.ow (.lst []),.un,.un,.un]=.ok ((plG [] g).map pD):=by
  simp [fO,fFn,aj,aA,aH,e]
 unfold km jD
 rw [e1]
 rw [List.append_nil] at e2
 exact e2
noncomputable def rQ (r:Rc)(s:Int):List D:=if s=1 then r.1 else r.2
noncomputable def cV (s:Int)(n:Str)(ws:Ws)(r:Rc):D:=.tup [.int s,.str n,.tup (eV ws),.tup (rQ r s)]
theorem wI:∀ws:Ws,cA (jl 2 (bj (hName 0) (bj (hName 1) iW))) dX (aH 0) [.un,.un] (dWs ws)=.ok (eV ws)
 | .nil=>rfl
 | .cons l g r=>by
  have ih:=wI r
  have e:aH 0 [.fz l,.fz (dG g)]=.ok l:=rfl
  unfold dWs cA
  simp [jl,bj,hName,iW,dX,e,ih,eV]
theorem Ur {s:Int}{n:Str}{ws:Ws}(h:jq ws<=100):pB [dG (.move s n ws)]=.ok (false,.tup (eV ws)):=by
 have x4:∀a b c d:D,atI [a,b,c,d] 3=some d:=λ_ _ _ _=>rfl
 have hz:(eV ws).length<=16777216:=by rw [tu]; omega
 have hz2:(dWs ws).length<=16777216:=by rw [jO]; omega
 have e:rE [.fz (dG (.move s n ws))]=.ok (.lst (eV ws)):=by
  simp [rE,bZ,o7,au,ak,fC,gIx,dG,x4,cMe,wI,hz,hz2]
 simp [pB,uU,uO,aY,bD,aW,aj,aA,Me.let,Sl.let,e,gP,hz]
theorem Q9 {s:Int}{n:Str}{ws:Ws}{r:Rc}(h:jq ws<=100)(hs:s=1\/s=2):nH [dG (.move s n ws),rD2 r]=.ok (false,cV s n ws r):=by
 have e:=Ur (s:=s) (n:=n) h
 have x1:∀a b c d:D,atI [a,b,c,d] 1=some b:=λ_ _ _ _=>rfl
 have x2:∀a b c d:D,atI [a,b,c,d] 2=some c:=λ_ _ _ _=>rfl
 have y0:∀a b:D,atI [a,b] 0=some a:=λ_ _=>rfl
 have y1:∀a b:D,atI [a,b] 1=some b:=λ_ _=>rfl
 simp only [dG] at e
 rcases hs with rfl | rfl
 ·simp [nH,wB,vH,aY,bD,Me.let,Sl.let,aU,aj,aA,au,ak,fC,gIx,dG,x1,x2,fFn,aH,e,rD2,F.gC,y0,y1,cV,rQ]
 ·simp [nH,wB,vH,aY,bD,Me.let,Sl.let,aU,aj,aA,au,ak,fC,gIx,dG,x1,x2,fFn,aH,e,rD2,F.gC,y0,y1,cV,rQ]
noncomputable abbrev Tb:=List (List Kt)×List D
noncomputable def kn (s:Int)(n:Str):List Kt:=[.k (.inl s),.k (.inr n)]
noncomputable def tst (T:Tb)(p:List Int×Gm×Rc):Tb:=match p.2.1 with
 | .move s n ws=>if (cQ T.1 T.2 (kn s n)).isSome then T else (T.1++[kn s n],T.2++[cV s n ws p.2.2])
 |_=>T
noncomputable def tbl (l:List (List Int×Gm×Rc)):Tb:=l.foldl tst ([],[])
theorem Wq (T:Tb)(p:List Int×Gm×Rc):(tst T p).1.length<=T.1.length+1:=by
 unfold tst
 split
 ·split <;> simp
 ·omega
noncomputable def okP (p:List Int×Gm×Rc):Prop:=match p.2.1 with
 | .move s _ ws=>(s=1\/s=2)/\jq ws<=100
 |_=>True
theorem QR {g0 s2 s3 s4:Sl}{T:Tb}{p:List Int×Gm×Rc}(hp:okP p)(hz:T.1.length<=100000):∃m1,jl 3 (bj (hName 2) (bj (hName 3) (bj (hName 4) iW))) (trD p) [g0,.ow (.dcu T.1 T.2),s2,s3,s4]=some m1/\
  iw m1=.ok (.nx,[g0,.ow (.dcu (tst T p).1 (tst T p).2),.fz (.tup (p.1.map D.int)),.fz (dG p.2.1),.fz (rD2 p.2.2)]):=by
 refine ⟨[g0,.ow (.dcu T.1 T.2),.fz (.tup (p.1.map D.int)),.fz (dG p.2.1),.fz (rD2 p.2.2)],rfl,?_⟩
 obtain ⟨w,g,r⟩:=p
 have x20:∀a b:D,atI [a,b] 0=some a:=λ_ _=>rfl
 have x30:∀a b c:D,atI [a,b,c] 0=some a:=λ_ _ _=>rfl
 have x40:∀a b c d:D,atI [a,b,c,d] 0=some a:=λ_ _ _ _=>rfl
 have x41:∀a b c d:D,atI [a,b,c,d] 1=some b:=λ_ _ _ _=>rfl
 have x42:∀a b c d:D,atI [a,b,c,d] 2=some c:=λ_ _ _ _=>rfl
 cases g with
 |fin d=>simp [iw,gIf,aM,au,ak,fC,gIx,dG,x20,gNx,tst]
 |deal n ws=>simp [iw,gIf,aM,au,ak,fC,gIx,dG,x30,gNx,tst]
 |move s n ws=>
  have hp:(s=1\/s=2)/\jq ws<=100:=hp
  have e:=Q9 (n:=n) (r:=r) hp.2 hp.1
  simp only [dG] at e
  have kk:ug (.tup [.int s,.str n])=some (kn s n):=rfl
  have z1:T.1.length<16777216:=by omega
  by_cases q:(cQ T.1 T.2 (kn s n)).isSome=true
  ·simp [iw,gIf,aM,au,ak,fC,gIx,dG,x40,x41,x42,Vw,Bk,aU,aj,aA,fFn,aH,e,kk,z1,tst,q,rO]
  ·simp [iw,gIf,aM,au,ak,fC,gIx,dG,x40,x41,x42,Vw,Bk,aU,aj,aA,fFn,aH,e,kk,z1,tst,q,rO]
theorem Ij {g0:Sl}:∀(l:List (List Int×Gm×Rc)) (T:Tb) (s2 s3 s4:Sl),(∀p∈l,okP p)->T.1.length+l.length<=100000->∃s2' s3' s4',bW (jl 3 (bj (hName 2) (bj (hName 3) (bj (hName 4) iW)))) iw (l.map trD) [g0,.ow (.dcu T.1 T.2),s2,s3,s4]=.ok (.nx,[g0,.ow (.dcu (l.foldl tst T).1 (l.foldl tst T).2),s2',s3',s4'])
 |[],T,s2,s3,s4,_,_=>⟨s2,s3,s4,rfl⟩
 |p::l,T,s2,s3,s4,hp,hz=>by
  have hz':T.1.length+(l.length+1)<=100000:=hz
  obtain ⟨m1,e1,e2⟩:=QR (g0:=g0) (s2:=s2) (s3:=s3) (s4:=s4) (T:=T) (hp p List.mem_cons_self) (by omega)
  have:=Wq T p
  obtain ⟨a,b,c,e⟩:=Ij l (tst T p) (.fz (.tup (p.1.map D.int))) (.fz (dG p.2.1)) (.fz (rD2 p.2.2)) (λq hq=>hp q (List.mem_cons_of_mem _ hq)) (by omega)
  exact ⟨a,b,c,by rw [List.map_cons,bT e1 e2,e]; rfl⟩
theorem tab_run {L:Me->Res (Fl×Me)}{d:D}{ks:List (List Kt)}{ds:List D}{s2 s3 s4:Sl}(e:L [.fz d,.ow (.dcu [] []),.un,.un,.un]=.ok (.nx,[.fz d,.ow (.dcu ks ds),s2,s3,s4])):aY 5 1 (q9 L) [d]=.ok (true,.lst ds):=by
 simp [aY,q9,aK,jE,BK,e,jz,Me.let,Sl.let,JF,ak]
mutual
theorem tL:∀(w:List Int) (r:Rc) (g:Gm),fP g->sdG g->∀p∈prG w r g,okP p
 |w,r,.fin d,_,_,p,hp=>by
  have:p=(w,.fin d,r):=by simpa [prG] using hp
  rw [this]; exact True.intro
 |w,r,.deal n ws,h,hs,p,hp=>by
  rcases List.mem_cons.mp (show p∈(w,Gm.deal n ws,r)::prW w (λ_=>r) 0 ws from hp) with e | e
  ·rw [e]; exact True.intro
  ·exact Jg w _ 0 ws h.2 hs p e
 |w,r,.move s n ws,h,hs,p,hp=>by
  rcases List.mem_cons.mp (show p∈(w,Gm.move s n ws,r)::prW w (rbm s n r) 0 ws from hp) with e | e
  ·rw [e]; exact ⟨hs.1,h.1⟩
  ·exact Jg w _ 0 ws h.2 hs.2 p e
theorem Jg:∀(w:List Int) (f:D->Rc) (i:Nat) (ws:Ws),rN ws->sdW ws->∀p∈prW w f i ws,okP p
 |w,f,i,.nil,_,_,p,hp=>by cases hp
 |w,f,i,.cons l g r,h,hs,p,hp=>by
  rcases List.mem_append.mp (show p∈prG (w++[(i:Int)]) (f l) g++prW w f (i+1) r from hp) with e | e
  ·exact tL _ _ g h.1 hs.1 p e
  ·exact Jg w f (i+1) r h.2 hs.2 p e
end
theorem w6 (w:List Int)(r:Rc)(g:Gm):(prG w r g).length=szG g:=by rw [← List.length_map (f:=λp=>(p.1,p.2.1)),LK]; exact yH _ g
theorem table_eq {g:Gm}(h:fP g)(hs:sdG g)(hd:dp g<=50)(hz:szG g<=10000):mH [dG g]=.ok (true,.lst (tbl (prG [] ([],[]) g)).2):=by
 have e:=Th h hs hd hz
 obtain ⟨a,b,c,e2⟩:=Ij (g0:=.fz (dG g)) (prG [] ([],[]) g) ([],[]) .un .un .un (tL _ _ g h hs) (by rw [w6]; simp; omega)
 refine tab_run (ks:=(tbl (prG [] ([],[]) g)).1) (s2:=a) (s3:=b) (s4:=c) ?_
 have e1:fO (fFn bM (aj (aH 0) aA)) [.fz (dG g),.ow (.dcu [] []),.un,.un,.un]=.ok ((prG [] ([],[]) g).map trD):=by
  simp [fO,fFn,aj,aA,aH,e]
 unfold wG jD
 rw [e1]
 exact e2
end Pk
namespace F
open PySem L2 Hd
noncomputable def rq (r:Rat):Q2:=(r.num,(r.den:Int))
noncomputable def rD (r:Rat):D:=qD (rq r)
theorem NP (r:Rat):rD r=.tup [.int r.num,.int r.den]:=rfl
theorem qX (r:Rat):1<=(r.den:Int):=by have:=r.den_pos; omega
theorem aax (r:Rat):gI r.num r.den=1:=by
 unfold gI
 have:=r.reduced
 unfold Nat.Coprime at this
 show ((Int.gcd r.num (r.den:Int):Nat):Int)=1
 unfold Int.gcd
 simp [this]
theorem Fw {t b:Int}(hb:b≠0):(lt t b,lb t b)=rq (Rat.divInt t b):=by
 have h:=Rat.num_divInt_den (Rat.divInt t b)
 have hd:((Rat.divInt t b).den:Int)≠0:=by have:=qX (Rat.divInt t b); omega
 have h2:=(Rat.divInt_eq_divInt_iff hd hb).mp h
 obtain ⟨z1,z2⟩:=Y6 hb (qX (Rat.divInt t b)) (aax (Rat.divInt t b)) (t:=t) h2.symm
 exact Prod.ext z1 z2
theorem RW (r:Rat):Rat.divInt r.num r.den=r:=Rat.num_divInt_den r
theorem Up (a b:Rat):Rat.divInt (a.num * b.den+b.num * a.den) (a.den * b.den)=a+b:=by
 have ha:=qX a
 have hb:=qX b
 rw [← Rat.divInt_add_divInt _ _ (by omega) (by omega),RW,RW]
noncomputable def Sz (k:Nat)(r:Rat):Prop:=r.num.natAbs<2 ^ k/\r.den<2 ^ k
theorem QF {t b:Int}{k:Nat}(hb:b≠0)(h1:t.natAbs<2 ^ k)(h2:b.natAbs<2 ^ k):Sz k (Rat.divInt t b):=by
 have e:=Fw (t:=t) hb
 have e1:=congrArg Prod.fst e
 have e2:=congrArg Prod.snd e
 have e1:lt t b=(Rat.divInt t b).num:=e1
 have e2:lb t b=((Rat.divInt t b).den:Int):=e2
 have l1:=XN (t:=t) hb
 have l2:=XQ (t:=t) hb
 rw [e1] at l1
 rw [e2] at l2
 exact ⟨by omega,by omega⟩
theorem Yx {a b:Rat}{k l:Nat}(ha:Sz k a)(hb:Sz l b):Sz (k+l+1) (a+b):=by
 rw [← Up]
 have pa:=qX a
 have pb:=qX b
 have h1:(a.num * b.den).natAbs<2 ^ (k+l):=Fp ha.1 (by simpa using hb.2)
 have h2:(b.num * a.den).natAbs<2 ^ (k+l):=by rw [Nat.add_comm]; exact Fp hb.1 (by simpa using ha.2)
 have h3:((a.den:Int) * b.den).natAbs<2 ^ (k+l):=Fp (by simpa using ha.2) (by simpa using hb.2)
 refine QF ?_ (YQ h1 h2) (wu h3 (by omega))
 exact Int.mul_ne_zero (by omega) (by omega)
theorem Gj:Sz 1 0:=⟨by decide,by decide⟩
theorem Cy {k:Nat}{r:Rat}(h:Sz k r)(hk:k<=4000):Bg r.num/\Bg (r.den:Int):=⟨wu h.1 hk,by unfold Bg; exact wu (by simpa using h.2) hk⟩
theorem RZ {k l:Nat}{a b:Rat}(h:Sz k a)(g:Sz l b)(hk:k+l<=4000):Bg ((a.den:Int) * b.den):=wu (Fp (by simpa using h.2) (by simpa using g.2)) hk
theorem Ii (a b:Rat):(a.den:Int) * b.den≠0:=Int.mul_ne_zero (by have:=qX a; omega) (by have:=qX b; omega)
end F
namespace Pk
open PySem L2 Hd F
theorem VL (x y:Sl):∀(n:Nat) (a b:Int) (z:Sl),b.toNat=n->0<=a->0<=b->∃k z',wh jW jZ k [x,y,.fz (.int a),.fz (.int b),z] =
  some (.ok (.nx,[x,y,.fz (.int (gI a b)),.fz (.int 0),z'])):=by
 intro n
 induction n using Nat.strongRecOn with
 |_ n ih=>
  intro a b z hn ha hb
  by_cases h0:b=0
  ·subst h0
   refine ⟨1,z,?_⟩
   rw [K4 ha]
   exact Dq rfl
  ·have hb':0<b:=by omega
   have hm:=Int.emod_lt_of_pos a hb'
   have hm0:=Int.emod_nonneg a h0
   obtain ⟨k,z',e⟩:=ih (a % b).toNat (by omega) b (a % b) (.fz (.int (a % b))) rfl hb hm0
   rw [My ha hb'] at e
   refine ⟨k+1,z',Gu (m':=[x,y,.fz (.int b),.fz (.int (a % b)),.fz (.int (a % b))]) ?_ ?_ e⟩
   ·simp [jW,aM,ak,fC,h0]
   ·simp [jZ,aK,bu,au,ak,aH,bO,mdI,h0,hb']
theorem oE (a b:Int):gU [.int a,.int b]=.ok (false,.int (gI a b)):=by
 obtain ⟨k,z',e⟩:=VL (.fz (.int a)) (.fz (.int b)) _ (if a<0 then -a else a) (if b<0 then -b else b) .un rfl (by split <;> omega) (by split <;> omega)
 rw [Rn] at e
 have e2:=xH k e
 simp [gU,aY,mV,mK,o9,aK,bu,aW,aj,aA,ak,Ho,e2,bD,Me.let,Sl.let,aH]
theorem abi {i:Int}{k:Nat}(h:i.natAbs<2 ^ k)(hk:k<=4000:=by decide):Bg i:=wu h hk
theorem Hc {t b:Int}(hb:b≠0)(hB:Bg b):lO [.int t,.int b]=.ok (false,.tup [.int (lt t b),.int (lb t b)]):=by
 have hd:=K7 (t:=t) hb
 have hB':Bg (dv t b):=by
  have h1:=Yc (a:=t) hb
  have h2:=Sv t b
  unfold Bg at hB ⊢
  omega
 have e1:dvI t (dv t b)=lt t b:=by
  unfold dvI lt
  split
  ·rw [Int.fdiv_eq_ediv_of_nonneg t (by omega)]
  ·rfl
 have e2:dvI b (dv t b)=lb t b:=by
  unfold dvI lb
  split
  ·rw [Int.fdiv_eq_ediv_of_nonneg b (by omega)]
  ·rfl
 by_cases h:b<0
 ·have e:dv t b=-gI t b:=if_pos h
  rw [e] at e1 e2 hd hB'
  have hg:gI t b≠0:=by omega
  simp [hg,lO,aY,wF,vZ,aK,bu,fFn,aj,aA,aH,ak,oE,gIf,aM,fC,gLt,h,fUn,uc,bD,Me.let,Sl.let,aU,au,eQ,hB',e1,e2]
 ·have e:dv t b=gI t b:=if_neg h
  rw [e] at e1 e2 hd hB'
  have hg:gI t b≠0:=by omega
  simp [hg,lO,aY,wF,vZ,aK,bu,fFn,aj,aA,aH,ak,oE,gIf,aM,fC,gLt,h,gNx,bD,Me.let,Sl.let,aU,au,eQ,hB',e1,e2,hd]
theorem ix0 {a b:D}:atI [a,b] 0=some a:=rfl
theorem ix1 {a b:D}:atI [a,b] 1=some b:=rfl
theorem Ao {t b:Int}(hb:b≠0)(hB:Bg b):lO [.int t,.int b]=.ok (false,rD (Rat.divInt t b)):=by
 rw [Hc hb hB]
 have e:=Fw (t:=t) hb
 show _=Res.ok (false,qD (rq (Rat.divInt t b)))
 rw [← e]
 rfl
theorem T7 {a b:Rat}{k l:Nat}(ha:Sz k a)(hb:Sz l b)(hk:k+l<=4000):zX [rD a,rD b]=.ok (false,rD (a+b)):=by
 obtain ⟨a1,a2⟩:=Cy ha (by omega)
 obtain ⟨b1,b2⟩:=Cy hb (by omega)
 have e:=Ao (t:=a.num * b.den+b.num * a.den) (Ii a b) (RZ ha hb hk)
 rw [Up] at e
 simp [zX,aY,JL,Jt,bD,Me.let,Sl.let,fFn,aj,aA,au,ak,fC,gIx,NP,ix0,ix1,lM,cF,a1,a2,b1,b2]
 rw [e]
 simp [NP]
theorem Ox {a b:Rat}{k l:Nat}(ha:Sz k a)(hb:Sz l b)(hk:k+l<=4000):wC [rD a,rD b]=.ok (false,.bl (decide (a.num * b.den<b.num * a.den))):=by
 obtain ⟨a1,a2⟩:=Cy ha (by omega)
 obtain ⟨b1,b2⟩:=Cy hb (by omega)
 simp [wC,aY,FQ,Dj,bD,Me.let,Sl.let,rn,aj,aA,au,ak,fC,gIx,NP,ix0,ix1,lM,a1,a2,b1,b2,gLt]
theorem HF {a:Sl}(k:Nat):∀(l:List Rat) (q:Rat) (j:Nat) (s2:Sl),Sz j q->(∀x∈l,Sz k x)->j+l.length * (k+1)<=2000->k<=2000->
  ∃s2',bW (hName 2) xP (l.map rD) [a,.fz (rD q),s2]=.ok (.nx,[a,.fz (rD (q+l.sum)),s2'])
 |[],q,j,s2,_,_,_,_=>⟨s2,by simp [bW,Rat.add_zero]⟩
 |x::l,q,j,s2,hq,hl,hj,hk=>by
  have hx:=hl x List.mem_cons_self
  have hj':j+(l.length+1) * (k+1)<=2000:=hj
  rw [Nat.add_mul] at hj'
  have e:=T7 hq hx (by omega)
  obtain ⟨s2',e'⟩:=HF k l (q+x) (j+k+1) (.fz (rD x)) (Yx hq hx) (λy hy=>hl y (List.mem_cons_of_mem _ hy)) (by omega) hk
  refine ⟨s2',?_⟩
  rw [List.map_cons,bT (m1:=[a,.fz (rD q),.fz (rD x)]) (m2:=[a,.fz (rD (q+x)),.fz (rD x)]) rfl (by simp [xP,bu,fFn,aj,aA,aH,e]),e',List.sum_cons,Rat.add_assoc]
theorem Pa {l:List Rat}{k:Nat}(hl:∀x∈l,Sz k x)(hj:1+l.length * (k+1)<=2000)(hk:k<=2000):vX [.lst (l.map rD)]=.ok (false,rD l.sum):=by
 obtain ⟨s2',e⟩:=HF (a:=.fz (.lst (l.map rD))) k l 0 1 .un Gj hl hj hk
 have e0:rD 0=.tup [.int 0,.int 1]:=rfl
 rw [Rat.zero_add,e0] at e
 simp [vX,aY,Dc,Fg,BZ,aK,bu,fC,jD,fO,aH,ak,e,bD,Me.let,Sl.let]
open PySem L2 Hd F
mutual
theorem Qs:∀(w:List Int) (g:Gm),∀p∈plG w g,p.1.length<=w.length+dp g
 |w,.fin d,p,hp=>by
  have:p=(w,.fin d):=by simpa [plG] using hp
  rw [this]; simp
 |w,.deal n ws,p,hp=>by
  rcases List.mem_cons.mp (show p∈(w,Gm.deal n ws)::plW w 0 ws from hp) with e | e
  ·rw [e]; simp
  ·have:=Eo w 0 ws p e
   show p.1.length<=w.length+(dpW ws+1)
   omega
 |w,.move s n ws,p,hp=>by
  rcases List.mem_cons.mp (show p∈(w,Gm.move s n ws)::plW w 0 ws from hp) with e | e
  ·rw [e]; simp
  ·have:=Eo w 0 ws p e
   show p.1.length<=w.length+(dpW ws+1)
   omega
theorem Eo:∀(w:List Int) (i:Nat) (ws:Ws),∀p∈plW w i ws,p.1.length<=w.length+1+dpW ws
 |w,i,.nil,p,hp=>by cases hp
 |w,i,.cons l g r,p,hp=>by
  have hd:dpW (.cons l g r)=max (dp g) (dpW r):=rfl
  rcases List.mem_append.mp (show p∈plG (w++[(i:Int)]) g++plW w (i+1) r from hp) with e | e
  ·have:=Qs _ g p e
   rw [List.length_append,List.length_singleton] at this
   omega
  ·have:=Eo w (i+1) r p e
   omega
end
theorem xn {α:Type}{f:α->D}{b:α->Bool}:∀l:List α,(∀x∈l,f x=.bl (b x))->vm (l.map f)=some (l.map b)
 |[],_=>rfl
 |x::l,h=>by
  have ih:=xn l λy hy=>h y (List.mem_cons_of_mem _ hy)
  simp [vm,h x List.mem_cons_self,ih]
theorem Rp {α:Type}{f:α->D}{l:List α}(h:∀x∈l,f x=.bl false):Wf [.lst (l.map f)]=some (.bl false):=by
 have:=xn (b:=λ_=>false) l h
 show (vm (l.map f)).map (λbs=>D.bl (bs.any id))=_
 rw [this]
 simp
theorem Zv {g:Gm}(h:fP g)(hd:dp g<=12)(hz:szG g<=64):dq [dG g]=.ok (false,.non):=by
 have e:=places_eq h (by omega) (by omega)
 have hl:(plG [] g).length<=64:=by rw [yH]; exact hz
 have ec:cA (jl 2 (bj (hName 0) (bj (hName 1) iW))) dX gH [.un,.un] ((plG [] g).map pD)=.ok ((plG [] g).map λ_=>.bl false):=iG _ λp hp=>by
  refine ⟨[.fz (.tup (p.1.map D.int)),.fz (dG p.2)],rfl,rfl,?_⟩
  have:=Qs [] g p hp
  have q:¬((p.1.length:Int) > 12):=by simp at this; omega
  have q':¬(12:Int)<(p.1.length:Int):=q
  simp [gH,rn,aW,iU,aj,aA,ak,fC,gGt,q,q']
 have q1:¬((plG [] g).length:Int) > 64:=by omega
 have z1:(plG [] g).length<=16777216:=by omega
 have eq:gK [.fz (dG g),.fz (.lst ((plG [] g).map pD))]=.ok (.lst ((plG [] g).map λ_=>.bl false)):=by
  simp [gK,bZ,fO,ak,cMe,ec,z1]
 have ea:=Rp (f:=λ_:List Int×Gm=>D.bl false) (l:=plG [] g) λ_ _=>rfl
 simp [dq,iI,iK,aY,aK,bu,fFn,aj,aA,aH,e,gIf,aM,aW,iU,ak,fC,gGt,q1,gNx,fTv,eq,ea]
noncomputable def sdD:D->Int
 | .tup [.int s,_,_,_]=>s
 |_=>0
noncomputable def wdD:D->Nat
 | .tup [_,_,.tup ws,_]=>ws.length
 |_=>0
noncomputable def U0 (d:D):Prop:=∃s n ws r,d=cV s n ws r
theorem xX {h:D->Me->Option Me}{ft:Me->Res Bool}{fe:Me->Res D}{m0:Me}(P:D->Bool):∀ds:List D,(∀d∈ds,∃m1,h d m0=some m1/\ft m1=.ok (P d)/\fe m1=.ok d)->cA h ft fe m0 ds=.ok (ds.filter P)
 |[],_=>rfl
 |d::ds,H=>by
  obtain ⟨m1,e1,e2,e3⟩:=H d List.mem_cons_self
  have ih:=xX P ds λd hd=>H d (List.mem_cons_of_mem _ hd)
  unfold cA
  rw [List.filter_cons]
  by_cases q:P d=true
  ·simp only [e1,e2,q,e3,ih,if_pos]
  ·have q':P d=false:=by simpa using q
   simp only [e1,e2,q',ih]
   simp
theorem vL:∀(l:List (List Int×Gm×Rc)) (T:Tb) (d:D),d∈(l.foldl tst T).2->d∈T.2\/∃p∈l,∃s n ws,p.2.1=.move s n ws/\d=cV s n ws p.2.2
 |[],T,d,h=>.inl h
 |p::l,T,d,h=>by
  rcases vL l (tst T p) d h with e | ⟨q,hq,e⟩
  ·unfold tst at e
   split at e
   ·rename_i s n ws ep
    split at e
    ·exact .inl e
    ·rcases List.mem_append.mp e with e | e
     ·exact .inl e
     ·exact .inr ⟨p,List.mem_cons_self,s,n,ws,ep,by simpa using e⟩
   ·exact .inl e
  ·exact .inr ⟨q,List.mem_cons_of_mem _ hq,e⟩
theorem K1 {l:List (List Int×Gm×Rc)}{d:D}(h:d∈(tbl l).2):U0 d:=by
 rcases vL l ([],[]) d h with e | ⟨p,_,s,n,ws,_,e⟩
 ·cases e
 ·exact ⟨s,n,ws,p.2.2,e⟩
theorem Vd {g:Gm}{s:Int}(h:fP g)(hs:sdG g)(hd:dp g<=50)(hz:szG g<=10000):qx [dG g,.int s]=.ok (true,.lst ((tbl (prG [] ([],[]) g)).2.filter λd=>decide (sdD d=s))):=by
 have e:=table_eq h hs hd hz
 have ec:cA (hName 0) (aM gEq (au gIx (ak 0) (fC (.int 0))) (ak 1)) (aH 0) [.un,.fz (.int s)] (tbl (prG [] ([],[]) g)).2=.ok ((tbl (prG [] ([],[]) g)).2.filter λd=>decide (sdD d=s)):=xX _ _ λd hd=>by
  obtain ⟨a,n,ws,r,rfl⟩:=K1 hd
  refine ⟨[.fz (cV a n ws r),.fz (.int s)],rfl,?_,rfl⟩
  have x0:∀a b c d:D,atI [a,b,c,d] 0=some a:=λ_ _ _ _=>rfl
  simp [aM,au,ak,fC,gIx,cV,x0,sdD]
  exact decide_eq_decide.mpr Iff.rfl
 have z1:(tbl (prG [] ([],[]) g)).2.length<=16777216:=by
  have:∀(l:List (List Int×Gm×Rc)) (T:Tb),(l.foldl tst T).2.length<=T.2.length+l.length:=by
   intro l
   induction l with
   |nil=>intro T; simp
   |cons p l ih=>
    intro T
    have:=ih (tst T p)
    have q:(tst T p).2.length<=T.2.length+1:=by
     unfold tst
     split
     ·split <;> simp
     ·omega
    simp only [List.foldl_cons,List.length_cons]
    omega
  have:=this (prG [] ([],[]) g) ([],[])
  rw [w6] at this
  simp at this
  have e:tbl (prG [] ([],[]) g)=(prG [] ([],[]) g).foldl tst ([],[]):=rfl
  rw [e]
  omega
 have eq:su [.fz (dG g),.fz (.int s)]=.ok (.lst ((tbl (prG [] ([],[]) g)).2.filter λd=>decide (sdD d=s))):=by
  simp [su,bZ,fO,fFn,aj,aA,aH,e,cMe,Sl.bor,ec,z1]
 simp [qx,wZ,w5,aY,jz,Me.let,Sl.let,eq]
theorem HJ:∀l:List D,wk (l.map λd=>D.int (wdD d:Int))=some (l.map λd=>(wdD d:Int))
 |[]=>rfl
 |d::l=>by simp [wk,HJ l]
theorem count_eq {l:List D}(h:∀d∈l,U0 d)(hz:l.length<=10000):jH [.lst l]=.ok (false,.int (l.map λd=>(wdD d:Int)).sum):=by
 have ec:cA (hName 0) dX n6 [.un] (l.map id)=.ok (l.map λd=>D.int (wdD d:Int)):=iG l λd hd=>by
  obtain ⟨a,n,ws,r,rfl⟩:=h d hd
  refine ⟨[.fz (cV a n ws r)],rfl,rfl,?_⟩
  have x2:∀a b c d:D,atI [a,b,c,d] 2=some c:=λ_ _ _ _=>rfl
  simp [n6,aW,iU,aj,aA,au,ak,fC,gIx,cV,x2,wdD]
 rw [List.map_id] at ec
 have z1:l.length<=16777216:=by omega
 have eq:nZ [.fz (.lst l)]=.ok (.lst (l.map λd=>D.int (wdD d:Int))):=by
  simp [nZ,bZ,fO,ak,cMe,ec,z1]
 have es:RK [.lst (l.map λd=>D.int (wdD d:Int))]=some (.int (l.map λd=>(wdD d:Int)).sum):=by
  show (wk _).map _=_
  rw [HJ]; rfl
 simp [jH,pZ,p7,aY,bD,Me.let,Sl.let,aW,aj,aA,eq,es]
noncomputable def okT (l:List D)(s:Int):Prop:=(l.filter λd=>decide (sdD d=s)).length<=8/\((l.filter λd=>decide (sdD d=s)).map λd=>(wdD d:Int)).sum<=24
theorem Hj {g:Gm}{s:Int}{s1 s2:Sl}(h:fP g)(hs:sdG g)(hd:dp g<=50)(hz:szG g<=10000)(ht:okT (tbl (prG [] ([],[]) g)).2 s):∃s2',dW [.fz (dG g),.fz (.int s),s2]=.ok (.nx,[.fz (dG g),.fz (.int s),s2']):=by
 have e:=Vd (s:=s) h hs hd hz
 generalize hl:((tbl (prG [] ([],[]) g)).2.filter λd=>decide (sdD d=s))=l at e
 have hr:∀d∈l,U0 d:=λd hd=>by rw [← hl] at hd; exact K1 (List.mem_filter.mp hd).1
 have t1:l.length<=8:=by rw [← hl]; exact ht.1
 have t2:(l.map λd=>(wdD d:Int)).sum<=24:=by rw [← hl]; exact ht.2
 have ec:=count_eq hr (by omega)
 have q1:¬(l.length:Int) > 8:=by omega
 have q2:¬(l.map λd=>(wdD d:Int)).sum > 24:=by omega
 refine ⟨.fz (.lst l),?_⟩
 simp [dW,aK,bu,fFn,aj,aA,aH,e,gIf,aM,aW,iU,ak,fC,gGt,q1,gNx,ec,q2]
theorem Y7 {g:Gm}(h:fP g)(hs:sdG g)(hd:dp g<=50)(hz:szG g<=10000)(h1:okT (tbl (prG [] ([],[]) g)).2 1)(h2:okT (tbl (prG [] ([],[]) g)).2 2):dN [dG g]=.ok (false,.non):=by
 obtain ⟨a,e1⟩:=Hj (s1:=.un) (s2:=.un) h hs hd hz h1
 obtain ⟨b,e2⟩:=Hj (s1:=.un) (s2:=a) h hs hd hz h2
 have e:ik [.fz (dG g),.un,.un]=.ok (.nx,[.fz (dG g),.fz (.int 2),b]):=by
  have ei:o7 (aU (aj (fC (.int 1)) (aj (fC (.int 2)) aA))) [.fz (dG g),.un,.un]=.ok [.int 1,.int 2]:=rfl
  unfold ik jD
  rw [ei]
  show bW (hName 1) dW [.int 1,.int 2] _=_
  rw [bT (m1:=[.fz (dG g),.fz (.int 1),.un]) rfl e1,bT (m1:=[.fz (dG g),.fz (.int 2),a]) rfl e2]
  rfl
 simp [dN,jd,jh,aY,e]
theorem ZX {g:Gm}(h:fP g)(hs:sdG g)(hd:dp g<=12)(hz:szG g<=64)(h1:okT (tbl (prG [] ([],[]) g)).2 1)(h2:okT (tbl (prG [] ([],[]) g)).2 2):dO [dG g]=.ok (false,.non):=by
 have e1:=Zv h hd hz
 have e2:=Y7 h hs (by omega) (by omega) h1 h2
 simp [dO,iY,iV,aY,aK,gEx,fFn,aj,aA,aH,e1,e2]
open PySem L2 Hd F
noncomputable def smQ (d:Q2):Prop:=d.1.natAbs<=999999999999/\d.2<=999
noncomputable def Jv (ws:Ws):Prop:=∃l:List Rat,eV ws=l.map rD/\(∀x∈l,Sz 20 x/\smQ (rq x)/\0<x.num)/\l.length<=3/\l.sum=1
noncomputable def okF (g:Gm):Prop:=match g with
 | .fin d=>smQ d
 | .deal _ ws=>Jv ws
 |_=>True
theorem Zg {d:Q2}:bY [dG (.fin d)]=.ok (true,.lst [qD d]):=by
 have x0:∀a b:D,atI [a,b] 0=some a:=λ_ _=>rfl
 have x1:∀a b:D,atI [a,b] 1=some b:=λ_ _=>rfl
 simp [bY,jm,jc,aY,aK,gIf,aM,au,ak,fC,gIx,dG,x0,x1,jz,Me.let,Sl.let,gM,aj,aA]
theorem NT {n:Str}{ws:Ws}(h:jq ws<=100):bY [dG (.deal n ws)]=.ok (true,.lst (eV ws)):=by
 have x0:∀a b c:D,atI [a,b,c] 0=some a:=λ_ _ _=>rfl
 have x2:∀a b c:D,atI [a,b,c] 2=some c:=λ_ _ _=>rfl
 have hz:(eV ws).length<=16777216:=by rw [tu]; omega
 have hz2:(dWs ws).length<=16777216:=by rw [jO]; omega
 have e:mW [.fz (dG (.deal n ws))]=.ok (.lst (eV ws)):=by
  simp [mW,bZ,o7,au,ak,fC,gIx,dG,x2,cMe,wI,hz,hz2]
 simp only [dG] at e
 simp [bY,jm,jc,aY,aK,gIf,aM,au,ak,fC,gIx,dG,x0,jz,Me.let,Sl.let,gNx,e]
theorem Wx {s:Int}{n:Str}{ws:Ws}:bY [dG (.move s n ws)]=.ok (true,.lst []):=by
 have x0:∀a b c d:D,atI [a,b,c,d] 0=some a:=λ_ _ _ _=>rfl
 simp [bY,jm,jc,aY,aK,gIf,aM,au,ak,fC,gIx,dG,x0,jz,Me.let,Sl.let,gNx,gM,aA]
theorem RX {d:Q2}(h:smQ d):o4 [qD d]=.ok (false,.bl false):=by
 have x0:∀a b:D,atI [a,b] 0=some a:=λ_ _=>rfl
 have x1:∀a b:D,atI [a,b] 1=some b:=λ_ _=>rfl
 have q1:¬(if d.1<0 then -d.1 else d.1) > 999999999999:=by have:=h.1; split <;> omega
 have q2:¬d.2 > 999:=by have:=h.2; omega
 simp [o4,uX,uZ,aY,bD,Me.let,Sl.let,fOr,fTv,rn,aW,Ho,aj,aA,au,ak,fC,gIx,qD,x0,x1,gGt,q1,q2]
theorem Rq {g0 : Sl} {w : D} {g : Gm} (h : okF g) (hl : fP g) : cC [g0, .fz w, .fz (dG g)] = .ok (.nx, [g0, .fz w, .fz (dG g)]) := by
  have main : ∀ l : List Q2, (∀ d ∈ l, smQ d) → l.length ≤ 1000 → bY [dG g] = .ok (true, .lst (l.map qD)) → cC [g0, .fz w, .fz (dG g)] = .ok (.nx, [g0, .fz w, .fz (dG g)]) := λl hl hz e => by
    have ec : cA (hName 0) dX eZ [.un] (l.map qD) = .ok (l.map λ_ => .bl false) := iG l λd hd => by
      refine ⟨[.fz (qD d)], rfl, rfl, ?_⟩
      simp [eZ, fFn, aj, aA, aH, RX (hl d hd)]
    have z1 : l.length ≤ 16777216 := by omega
    have eq : fJ [g0, .fz w, .fz (dG g)] = .ok (.lst (l.map λ_ => .bl false)) := by
      simp [fJ, bZ, fO, fFn, aj, aA, aH, e, cMe, ec, z1]
    have ea := Rp (f := λ_ : Q2 => D.bl false) (l := l) λ_ _ => rfl
    simp [cC, gIf, fTv, aW, aj, aA, eq, ea, gNx]
  cases g with
  | fin d => exact main [d] (fun x hx => by have : x = d := by simpa using hx
                                            rw [this]; exact h) (by simp) Zg
  | deal n ws =>
    obtain ⟨l, e, h1, h2, _⟩ := h
    refine main (l.map rq) (λd hd => ?_) (by simp; omega) ?_
    · obtain ⟨x, hx, rfl⟩ := List.mem_map.mp hd
      exact (h1 x hx).2.1
    · rw [NT hl.1, e, List.map_map]; rfl
  | move s n ws => exact main [] (λ_ z => by cases z) (by simp) Wx
theorem GK {g0:Sl}:∀(l:List (List Int×Gm)) (s1 s2:Sl),(∀p∈l,okF p.2/\fP p.2)->∃s1' s2',bW (jl 2 (bj (hName 1) (bj (hName 2) iW))) cC (l.map pD) [g0,s1,s2]=.ok (.nx,[g0,s1',s2'])
 |[],s1,s2,_=>⟨s1,s2,rfl⟩
 |p::l,s1,s2,h=>by
  obtain ⟨a,b,e⟩:=GK l (.fz (.tup (p.1.map D.int))) (.fz (dG p.2)) λq hq=>h q (List.mem_cons_of_mem _ hq)
  obtain ⟨h1,h2⟩:=h p List.mem_cons_self
  exact ⟨a,b,by rw [List.map_cons,bT (m1:=[g0,.fz (.tup (p.1.map D.int)),.fz (dG p.2)]) rfl (Rq h1 h2),e]⟩
theorem aat {g:Gm}(h:fP g)(hd:dp g<=50)(hz:szG g<=10000)(hf:∀p∈plG [] g,okF p.2/\fP p.2):cJ [dG g]=.ok (false,.non):=by
 have e:=places_eq h hd (by omega)
 obtain ⟨a,b,e2⟩:=GK (g0:=.fz (dG g)) (plG [] g) .un .un hf
 have eL:eY [.fz (dG g),.un,.un]=.ok (.nx,[.fz (dG g),a,b]):=by
  have e1:fO (fFn eF (aj (aH 0) aA)) [.fz (dG g),.un,.un]=.ok ((plG [] g).map pD):=by
   simp [fO,fFn,aj,aA,aH,e]
  unfold eY jD
  rw [e1]
  exact e2
 simp [cJ,gq,gk,aY,eL]
theorem Nf {α:Type}{f:α->D}{l:List α}(h:∀x∈l,f x=.bl true):VF [.lst (l.map f)]=some (.bl true):=by
 have:=xn (b:=λ_=>true) l h
 show (vm (l.map f)).map (λbs=>D.bl (bs.all id))=_
 rw [this]
 simp
theorem O3 {ws:Ws}(h:Jv ws):lV [.lst (eV ws)]=.ok (false,.bl true):=by
 obtain ⟨l,e,h1,h2,h3⟩:=h
 rw [e]
 have et:=Pa (k:=20) (λx hx=>(h1 x hx).1) (by omega) (by omega)
 rw [h3] at et
 have ec:cA (hName 0) dX o8 [.un] (l.map rD)=.ok (l.map λ_=>.bl true):=iG l λx hx=>by
  refine ⟨[.fz (rD x)],rfl,rfl,?_⟩
  have eu:=Ox Gj (h1 x hx).1 (by omega)
  have e0:rD 0=.tup [.int 0,.int 1]:=rfl
  have q:(0:Rat).num * x.den<x.num * (0:Rat).den:=by
   have:=(h1 x hx).2.2
   show 0 * (x.den:Int)<x.num * 1
   omega
  rw [e0,decide_eq_true q] at eu
  simp [o8,fFn,aj,aA,fC,aH,eu]
 have z1:l.length<=16777216:=by omega
 have eq:pA [.fz (.lst (l.map rD))]=.ok (.lst (l.map λ_=>.bl true)):=by
  simp [pA,bZ,fO,ak,cMe,ec,z1]
 have ea:=Nf (f:=λ_:Rat=>D.bl true) (l:=l) λ_ _=>rfl
 have e1:rD 1=.tup [.int 1,.int 1]:=rfl
 rw [e1] at et
 have eg:gEq (.tup [.int 1,.int 1]) (.tup [.int 1,.int 1])=some true:=Ba (by simp [okD,jx]) (by simp [iT,gw])
 simp [lV,qQ,qK,aY,bD,Me.let,Sl.let,Px,fTv,aW,aj,aA,eq,ea,rn,fFn,aH,et,fC,eg]
open PySem L2 Hd F
noncomputable def okR (d:D):Prop:=okD d=true/\iT d<=20
theorem Uu {w w':D}{s:Int}{n:Str}{ws:Ws}{r:Rc}(h:okR (cV s n ws r)):dF [w,cV s n ws r,w',cV s n ws r]=.ok (false,.non):=by
 have x2:∀a b c d:D,atI [a,b,c,d] 2=some c:=λ_ _ _ _=>rfl
 have x3:∀a b c d:D,atI [a,b,c,d] 3=some d:=λ_ _ _ _=>rfl
 obtain ⟨h1,h2⟩:=h
 simp [cV,okD,jx] at h1
 simp [cV,iT,gw] at h2
 have e1:gNe (.tup (eV ws)) (.tup (eV ws))=some false:=zN (by simp [okD,h1]) (by simp [iT]; omega)
 have e2:gNe (.tup (rQ r s)) (.tup (rQ r s))=some false:=zN (by simp [okD,h1]) (by simp [iT]; omega)
 simp [dF,j0,jU,aY,aK,gIf,aM,au,ak,fC,gIx,cV,x2,x3,e1,e2,gNx]
theorem xR {s t:Int}{n m:Str}(h:kn s n=kn t m):s=t/\n=m:=by
 unfold kn at h
 injection h with h1 h2
 injection h1 with h1
 injection h1 with h1
 injection h2 with h2
 injection h2 with h2
 injection h2 with h2
 exact ⟨h1,h2⟩
noncomputable def Oi (ρ:Int->Str->D)(p:List Int×Gm×Rc):Prop:=∀s n ws,p.2.1=.move s n ws->cV s n ws p.2.2=ρ s n/\okR (ρ s n)
noncomputable def Fst (ρ:Int->Str->D)(ks:List (List Kt))(ds:List D):Prop:=∀s n d,cQ ks ds (kn s n)=some d->∃w:D,d=.tup [w,ρ s n]
theorem U9 {ρ:Int->Str->D}{g0 s2 s3 s4 s5 s6:Sl}{ks:List (List Kt)}{ds:List D}{p:List Int×Gm×Rc}(hl:ks.length=ds.length)(hz:ks.length<=100000)(hp:okP p)(hf:okF p.2.1)(hg:fP p.2.1)(hs:Oi ρ p)(hi:Fst ρ ks ds):
  ∃m1 ks' ds' s5' s6',jl 3 (bj (hName 2) (bj (hName 3) (bj (hName 4) iW))) (trD p) [g0,.ow (.dcu ks ds),s2,s3,s4,s5,s6]=some m1/\
   cP m1=.ok (.nx,[g0,.ow (.dcu ks' ds'),.fz (.tup (p.1.map D.int)),.fz (dG p.2.1),.fz (rD2 p.2.2),s5',s6'])/\ks'.length=ds'.length/\ks'.length<=ks.length+1/\Fst ρ ks' ds':=by
 obtain ⟨w,g,r⟩:=p
 have x20:∀a b:D,atI [a,b] 0=some a:=λ_ _=>rfl
 have x21:∀a b:D,atI [a,b] 1=some b:=λ_ _=>rfl
 have x30:∀a b c:D,atI [a,b,c] 0=some a:=λ_ _ _=>rfl
 have x40:∀a b c d:D,atI [a,b,c,d] 0=some a:=λ_ _ _ _=>rfl
 have x41:∀a b c d:D,atI [a,b,c,d] 1=some b:=λ_ _ _ _=>rfl
 have x42:∀a b c d:D,atI [a,b,c,d] 2=some c:=λ_ _ _ _=>rfl
 cases g with
 |fin d=>
  refine ⟨_,ks,ds,s5,s6,rfl,?_,hl,by omega,hi⟩
  simp [cP,aK,gIf,sJ,aM,au,ak,fC,gIx,dG,x20,gNx]
 |deal n ws=>
  have e1:=NT (n:=n) hg.1
  have e2:=O3 hf
  simp only [dG] at e1
  refine ⟨_,ks,ds,s5,s6,rfl,?_,hl,by omega,hi⟩
  simp [cP,aK,gIf,sJ,aM,au,ak,fC,gIx,dG,x30,gNx,kO,fTv,fFn,aj,aA,aH,e1,e2]
 |move s n ws=>
  have hp:(s=1\/s=2)/\jq ws<=100:=hp
  obtain ⟨hr,hk⟩:=hs s n ws rfl
  have hr:cV s n ws r=ρ s n:=hr
  have e:=Q9 (n:=n) (r:=r) hp.2 hp.1
  have kk:ug (.tup [.int s,.str n])=some (kn s n):=rfl
  have z1:ks.length<16777216:=by omega
  have eo:∀a b:D,dF [a,cV s n ws r,b,cV s n ws r]=.ok (false,.non):=λa b=>Uu (by rw [hr]; exact hk)
  simp only [dG] at e
  cases q:cQ ks ds (kn s n) with
  |some d=>
   obtain ⟨w',rfl⟩:=hi s n d q
   rw [← hr] at q
   refine ⟨_,ks,ds,.fz (cV s n ws r),.fz (.tup [w',cV s n ws r]),rfl,?_,hl,by omega,hi⟩
   simp [cP,aK,gIf,sJ,aM,au,ak,fC,gIx,dG,x40,x41,x42,gNx,bu,fFn,aj,aA,aH,e,zx,Lh,Bk,aU,kk,z1,q,gEx,x20,x21,eo]
  |none=>
   have hn:kn s n∉ks:=λhk=>by
    have:∀{ks:List (List Kt)} {ds:List D},ks.length=ds.length->kn s n∈ks->cQ ks ds (kn s n)≠none:=by
     intro ks
     induction ks with
     |nil=>intro ds _ h; cases h
     |cons a ks ih=>
      intro ds hl h
      cases ds with
      |nil=>simp at hl
      |cons x ds=>
       unfold cQ
       by_cases qa:a=kn s n
       ·rw [if_pos qa]; simp
       ·rw [if_neg qa]
        rcases List.mem_cons.mp h with e | e
        ·exact absurd e.symm qa
        ·exact ih (by simpa using hl) e
    exact this hl hk q
   refine ⟨_,ks++[kn s n],ds++[.tup [.tup (w.map D.int),cV s n ws r]],.fz (cV s n ws r),.fz (.tup [.tup (w.map D.int),cV s n ws r]),rfl,?_,by simp [hl],by simp,λs' n' d' h=>?_⟩
   ·simp [cP,aK,gIf,sJ,aM,au,ak,fC,gIx,dG,x40,x41,x42,gNx,bu,fFn,aj,aA,aH,e,zx,Lh,Bk,aU,kk,z1,q,gEx,x20,x21,eo,rO]
   ·rw [Ga hl hn] at h
    by_cases qk:kn s n=kn s' n'
    ·rw [if_pos qk] at h
     obtain ⟨rfl,rfl⟩:=xR qk
     cases h
     exact ⟨_,by rw [hr]⟩
    ·rw [if_neg qk] at h
     exact hi s' n' d' h
theorem Lx {ρ:Int->Str->D}{g0:Sl}:∀(l:List (List Int×Gm×Rc)) (ks:List (List Kt)) (ds:List D) (s2 s3 s4 s5 s6:Sl),ks.length=ds.length->ks.length+l.length<=100000->(∀p∈l,okP p/\okF p.2.1/\fP p.2.1/\Oi ρ p)->Fst ρ ks ds->
  ∃m',bW (jl 3 (bj (hName 2) (bj (hName 3) (bj (hName 4) iW)))) cP (l.map trD) [g0,.ow (.dcu ks ds),s2,s3,s4,s5,s6]=.ok (.nx,m')
 |[],ks,ds,s2,s3,s4,s5,s6,_,_,_,_=>⟨_,rfl⟩
 |p::l,ks,ds,s2,s3,s4,s5,s6,hl,hz,hp,hi=>by
  have hz':ks.length+(l.length+1)<=100000:=hz
  obtain ⟨p1,p2,p3,p4⟩:=hp p List.mem_cons_self
  obtain ⟨m1,ks',ds',s5',s6',e1,e2,a1,a2,a3⟩:=U9 (g0:=g0) (s2:=s2) (s3:=s3) (s4:=s4) (s5:=s5) (s6:=s6) hl (by omega) p1 p2 p3 p4 hi
  obtain ⟨m',e⟩:=Lx (ρ:=ρ) (g0:=g0) l ks' ds' (.fz (.tup (p.1.map D.int))) (.fz (dG p.2.1)) (.fz (rD2 p.2.2)) s5' s6' a1 (by omega) (λq hq=>hp q (List.mem_cons_of_mem _ hq)) a3
  exact ⟨m',by rw [List.map_cons,bT e1 e2,e]⟩
structure Gd (g:Gm):Prop where
 len:fP g
 sd:sdG g
 dep:dp g<=12
 sz:szG g<=64
 row:∃ρ,∀p∈prG [] ([],[]) g,Oi ρ p
 fr:∀p∈prG [] ([],[]) g,okF p.2.1/\fP p.2.1
 t1:okT (tbl (prG [] ([],[]) g)).2 1
 t2:okT (tbl (prG [] ([],[]) g)).2 2
theorem abb {g:Gm}(G:Gd g):gW [dG g]=.ok (false,.non):=by
 have e:=Th G.len G.sd (by have:=G.dep; omega) (by have:=G.sz; omega)
 obtain ⟨ρ,hr⟩:=G.row
 have ok:=tL [] ([],[]) g G.len G.sd
 obtain ⟨m',e2⟩:=Lx (ρ:=ρ) (g0:=.fz (dG g)) (prG [] ([],[]) g) [] [] .un .un .un .un .un rfl (by rw [w6]; have:=G.sz; simp; omega) (λp hp=>⟨ok p hp,(G.fr p hp).1,(G.fr p hp).2,hr p hp⟩) (λs n d h=>by cases h)
 have eL:j8 [.fz (dG g),.ow (.dcu [] []),.un,.un,.un,.un,.un]=.ok (.nx,m'):=by
  have e1:fO (fFn bM (aj (aH 0) aA)) [.fz (dG g),.ow (.dcu [] []),.un,.un,.un,.un,.un]=.ok ((prG [] ([],[]) g).map trD):=by
   simp [fO,fFn,aj,aA,aH,e]
  unfold j8 jD
  rw [e1]
  exact e2
 simp [gW,mQ,mL,aY,aK,jE,BK,eL]
theorem v9 {g:Gm}(G:Gd g):jf [dG g]=.ok (true,.lst (tbl (prG [] ([],[]) g)).2):=by
 have e1:=ZX G.len G.sd G.dep G.sz G.t1 G.t2
 have e2:=aat G.len (by have:=G.dep; omega) (by have:=G.sz; omega) λp hp=>by
  rw [← LK [] ([],[]) g] at hp
  obtain ⟨q,hq,rfl⟩:=List.mem_map.mp hp
  exact G.fr q hq
 have e3:=abb G
 have e4:=table_eq G.len G.sd (by have:=G.dep; omega) (by have:=G.sz; omega)
 simp [jf,Kv,JD,aY,aK,gEx,fFn,aj,aA,aH,e1,e2,e3,jz,Me.let,Sl.let,aaf,e4]
end Pk
namespace Lw
open PySem L2 Hd F Pk
noncomputable def ch (w:List Int)(L:List (Gm×Rc))(i:Nat):List (List Int×Gm×Rc):=(L.zipIdx i).map λp=>(w++[(p.2:Int)],p.1.1,p.1.2)
open PySem L2 Hd F Pk
noncomputable abbrev Tr:=List Int×Gm×Rc
open PySem L2 Hd F Pk
noncomputable def prd (d:D):Prop:=∃a b:Str,d=.tup [.str a,.str b]
noncomputable def wrd (d:D):Prop:=∃a:Str,d=.str a
theorem CT (a:Str):dJ [.str a]=.ok (false,.bl true):=rfl
theorem Ig {f0:Sl}:∀(l:List D) (s1:Sl),(∀d∈l,prd d)->∃s1',bW (hName 1) jV l [f0,s1]=.ok (.nx,[f0,s1'])
 |[],s1,_=>⟨s1,rfl⟩
 |d::l,s1,h=>by
  obtain ⟨a,b,rfl⟩:=h d List.mem_cons_self
  obtain ⟨s',e⟩:=Ig (f0:=f0) l (.fz (.tup [.str a,.str b])) λx hx=>h x (List.mem_cons_of_mem _ hx)
  refine ⟨s',?_⟩
  have x20:∀a b:D,atI [a,b] 0=some a:=λ_ _=>rfl
  have x21:∀a b:D,atI [a,b] 1=some b:=λ_ _=>rfl
  rw [bT (m1:=[f0,.fz (.tup [.str a,.str b])]) (m2:=[f0,.fz (.tup [.str a,.str b])]) rfl ?_,e]
  simp [jV,gIf,pC,kO,fTv,xm,ak,aM,aW,iU,aj,aA,fC,fFn,au,gIx,x20,x21,CT,gNx,lZ,O7]
theorem ZG {l:List D}(h:∀d∈l,prd d):gG [.tup l]=.ok (false,.bl true):=by
 obtain ⟨s',e⟩:=Ig (f0:=.fz (.tup l)) l .un h
 have eL:oV [.fz (.tup l),.un]=.ok (.nx,[.fz (.tup l),s']):=e
 simp [gG,mG,mq,aY,aK,gIf,kO,fTv,xm,ak,gNx,eL,bD,Me.let,Sl.let,fC,lZ,O7]
noncomputable def DG (d:D):Prop:=∃s n ws rc,d=.tup [.int s,.str n,.tup ws,.tup rc]/\(∀x∈ws,wrd x)/\ws.length<=1000/\∀x∈rc,prd x
theorem Hu {f0:Sl}:∀(l:List D) (s1:Sl),(∀d∈l,DG d)->∃s1',bW (hName 1) lE l [f0,s1]=.ok (.nx,[f0,s1'])
 |[],s1,_=>⟨s1,rfl⟩
 |d::l,s1,h=>by
  obtain ⟨s,n,ws,rc,rfl,h1,h2,h3⟩:=h d List.mem_cons_self
  obtain ⟨s',e⟩:=Hu (f0:=f0) l (.fz (.tup [.int s,.str n,.tup ws,.tup rc])) λx hx=>h x (List.mem_cons_of_mem _ hx)
  refine ⟨s',?_⟩
  have x0:∀a b c d:D,atI [a,b,c,d] 0=some a:=λ_ _ _ _=>rfl
  have x1:∀a b c d:D,atI [a,b,c,d] 1=some b:=λ_ _ _ _=>rfl
  have x2:∀a b c d:D,atI [a,b,c,d] 2=some c:=λ_ _ _ _=>rfl
  have x3:∀a b c d:D,atI [a,b,c,d] 3=some d:=λ_ _ _ _=>rfl
  have er:=ZG h3
  have ec:cA (hName 0) dX lJ [.un] (ws.map id)=.ok (ws.map λ_=>.bl true):=iG ws λx hx=>by
   obtain ⟨a,rfl⟩:=h1 x hx
   exact ⟨[.fz (.str a)],rfl,rfl,by simp [lJ,fFn,aj,aA,aH,CT]⟩
  rw [List.map_id] at ec
  have z1:ws.length<=16777216:=by omega
  have eq:lB [f0,.fz (.tup [.int s,.str n,.tup ws,.tup rc])]=.ok (.lst (ws.map λ_=>.bl true)):=by
   simp [lB,bZ,o7,au,ak,fC,gIx,x2,cMe,ec,z1]
  have ea:=Nf (f:=λ_:D=>D.bl true) (l:=ws) λ_ _=>rfl
  rw [bT (m1:=[f0,.fz (.tup [.int s,.str n,.tup ws,.tup rc])]) (m2:=[f0,.fz (.tup [.int s,.str n,.tup ws,.tup rc])]) rfl ?_,e]
  simp [lE,aK,gIf,pC,kO,fTv,xm,ak,aM,aW,iU,aj,aA,fC,fFn,au,gIx,x0,x1,x2,x3,CT,gNx,lZ,O7,er,eq,ea]
theorem S8 {l:List D}(h:∀d∈l,DG d):iC [.lst l]=.ok (false,.bl true):=by
 obtain ⟨s',e⟩:=Hu (f0:=.fz (.lst l)) l .un h
 have eL:pI [.fz (.lst l),.un]=.ok (.nx,[.fz (.lst l),s']):=e
 simp [iC,oh,nU,aY,aK,gIf,kO,fTv,xm,ak,gNx,eL,bD,Me.let,Sl.let,fC,lZ,O7]
open PySem L2 Hd F Pk
theorem Wc (x y:Sl):∀(n:Nat) (a b:Int),b.toNat=n->0<=a->0<=b->∃k,wh nR nW k [x,y,.fz (.int a),.fz (.int b)] =
  some (.ok (.nx,[x,y,.fz (.int (gI a b)),.fz (.int 0)])):=by
 intro n
 induction n using Nat.strongRecOn with
 |_ n ih=>
  intro a b hn ha hb
  by_cases h0:b=0
  ·subst h0
   refine ⟨1,?_⟩
   rw [K4 ha]
   exact Dq rfl
  ·have hb':0<b:=by omega
   have hm:=Int.emod_lt_of_pos a hb'
   have hm0:=Int.emod_nonneg a h0
   obtain ⟨k,e⟩:=ih (a % b).toNat (by omega) b (a % b) rfl hb hm0
   rw [My ha hb'] at e
   refine ⟨k+1,Gu (m':=[x,y,.fz (.int b),.fz (.int (a % b))]) ?_ ?_ e⟩
   ·simp [nR,aM,ak,fC,h0]
   ·simp [nW,Zn,aj,aA,au,ak,aH,bO,mdI,h0,hb']
theorem JP {t b:Int}(hb:0<b)(hB:Bg b):gm [.int t,.int b]=.ok (false,rD (Rat.divInt t b)):=by
 obtain ⟨k,e⟩:=Wc (.fz (.int t)) (.fz (.int b)) _ (if t<0 then -t else t) b rfl (by split <;> omega) (by omega)
 have eb:(if b<0 then -b else b)=b:=if_neg (by omega)
 have ga:=Rn t b
 rw [eb] at ga
 rw [ga] at e
 have e2:=xH k e
 have hg:=Gz (a:=t) (show b≠0 by omega)
 have hdv:dv t b=gI t b:=if_neg (by omega)
 have hB':Bg (gI t b):=by
  have h1:=Yc (a:=t) (show b≠0 by omega)
  unfold Bg at hB ⊢
  omega
 have e3:dvI t (gI t b)=lt t b:=by
  unfold dvI lt
  rw [if_pos hg,hdv,Int.fdiv_eq_ediv_of_nonneg t (by omega)]
 have e4:dvI b (gI t b)=lb t b:=by
  unfold dvI lb
  rw [if_pos hg,hdv,Int.fdiv_eq_ediv_of_nonneg b (by omega)]
 have el:=Fw (t:=t) (show b≠0 by omega)
 have hr:rD (Rat.divInt t b)=.tup [.int (lt t b),.int (lb t b)]:=by
  show qD (rq (Rat.divInt t b))=_
  rw [← el]; rfl
 have hne:gI t b≠0:=by omega
 rw [hr]
 simp [gm,pR,qj,aY,rJ,aK,bu,aW,Ho,aj,aA,ak,aH,e2,bD,Me.let,Sl.let,aU,au,eQ,hne,hB',e3,e4]
theorem xO {t b:Int}(hb:0<b)(h1:t.natAbs<=999999999999)(h2:b<=999):smQ (rq (Rat.divInt t b)):=by
 have e:=Fw (t:=t) (show b≠0 by omega)
 have e1:lt t b=(Rat.divInt t b).num:=congrArg Prod.fst e
 have e2:lb t b=((Rat.divInt t b).den:Int):=congrArg Prod.snd e
 have l1:=XN (t:=t) (show b≠0 by omega)
 have l2:=XQ (t:=t) (show b≠0 by omega)
 rw [e1] at l1
 rw [e2] at l2
 exact ⟨by show (Rat.divInt t b).num.natAbs<=_; omega,by show ((Rat.divInt t b).den:Int)<=_; omega⟩
theorem bgS {i:Int}(h:i.natAbs<=10000000000000):Bg i:=by
 refine abi (k:=50) ?_
 have:(2:Nat) ^ 50=1125899906842624:=by decide
 omega
noncomputable def sm (x:Int):Prop:=0<=x/\x<2147483647
theorem zr {x:Int}(h:0<=x/\x<=9000000000):∃q:Rat,bN [.int x]=.ok (false,rD q)/\smQ (rq q):=by
 obtain ⟨h0,h1⟩:=h
 have b1:Bg x:=bgS (by omega)
 have b2:Bg 48271:=bgS (by decide)
 have b3:Bg 8:=bgS (by decide)
 have b4:Bg 104:=bgS (by decide)
 by_cases q:x % 8=3
 ·have hb:0<1+x / 8 % 999:=by omega
  have hb2:1+x / 8 % 999<=999:=by omega
  have e:=JP (t:=x * 48271 % 1999999999999 - 999999999999) hb (bgS (by omega))
  refine ⟨_,?_,xO hb (t:=x * 48271 % 1999999999999 - 999999999999) (by omega) hb2⟩
  simp [bN,oJ,oF,aY,aK,gIf,aM,au,ak,fC,bO,mdI,q,bD,Me.let,Sl.let,fFn,aj,aA,lM,b1,b2,F.gC,cF,eQ,dvI,b3,e]
 ·have hb:0<1+x / 104 % 3:=by omega
  have hb2:1+x / 104 % 3<=999:=by omega
  have e:=JP (t:=x / 8 % 13 - 6) hb (bgS (by omega))
  refine ⟨_,?_,xO hb (t:=x / 8 % 13 - 6) (by omega) hb2⟩
  simp [bN,oJ,oF,aY,aK,gIf,aM,au,ak,fC,bO,mdI,q,gNx,bD,Me.let,Sl.let,fFn,aj,aA,F.gC,cF,eQ,dvI,b3,b4,e]
theorem Kw (c k:Int)(hk:0<=k/\k<=1000):∃x,cW [.int c,.int k]=.ok (false,.int x)/\sm x:=by
 have b1:Bg (c % 2147483647+1):=bgS (by omega)
 have b2:Bg (48271+7 * k):=bgS (by omega)
 have b3:Bg 7:=bgS (by decide)
 have b4:Bg k:=bgS (by omega)
 refine ⟨(c % 2147483647+1) * (48271+7 * k) % 2147483647,?_,by constructor <;> omega⟩
 simp [cW,uM,uE,aY,bD,Me.let,Sl.let,au,ak,fC,bO,mdI,lM,cF,b1,b2,b3,b4]
noncomputable def pt (x:Int):Int:=1+x % 4+x / 4 % 8 / 7 * (x / 32 % 200)
theorem abv (x:Int):1<=pt x/\pt x<=203:=by
 unfold pt
 have h1:x / 4 % 8 / 7=0\/x / 4 % 8 / 7=1:=by omega
 rcases h1 with h | h <;> rw [h] <;> omega
theorem Vp {s1 s3:Sl}{x:Int}{P:List D}(h:sm x)(hP:P.length<=100):fQ [.fz (.int x),s1,.ow (.lst P),s3]=.ok (.nx,[.fz (.int (x * 48271 % 2147483647)),s1,.ow (.lst (P++[.int (pt x)])),s3]):=by
 obtain ⟨h0,h1⟩:=h
 have b1:Bg x:=bgS (by omega)
 have b2:Bg 48271:=bgS (by decide)
 have b3:Bg 4:=bgS (by decide)
 have b4:Bg 7:=bgS (by decide)
 have b5:Bg 32:=bgS (by decide)
 have b6:Bg (x / 4 % 8 / 7):=bgS (by omega)
 have b7:Bg (x / 32 % 200):=bgS (by omega)
 have z1:P.length<16777216:=by omega
 simp [fQ,aK,iQ,pU,putL,au,ak,fC,cF,bO,mdI,lM,eQ,dvI,b1,b2,b3,b4,b5,b6,b7,z1,bu,pt]
theorem Ng {s1:Sl}:∀(c i:Nat) (x:Int) (P:List Int) (s3:Sl),sm x->P.length+c<=100->(∀p∈P,1<=p/\p<=203)->∃(x' s3':Sl) (Q:List Int),bW (hName 3) fQ ((List.range' i c).map λ(k:Nat)=>D.int k) [.fz (.int x),s1,.ow (.lst (P.map D.int)),s3]=.ok (.nx,[x',s1,.ow (.lst (Q.map D.int)),s3'])/\Q.length=P.length+c/\∀p∈Q,1<=p/\p<=203
 |0,i,x,P,s3,_,_,hp=>⟨_,s3,P,rfl,rfl,hp⟩
 |c+1,i,x,P,s3,hx,hz,hp=>by
  have st:=Vp (s1:=s1) (s3:=.fz (.int (i:Int))) (P:=P.map D.int) hx (by simp; omega)
  obtain ⟨x',s',Q,e,l,h⟩:=Ng (s1:=s1) c (i+1) (x * 48271 % 2147483647) (P++[pt x]) (.fz (.int (i:Int))) (by constructor <;> omega) (by simp; omega) λp hp'=>by
   rcases List.mem_append.mp hp' with e | e
   ·exact hp p e
   ·rw [List.mem_singleton.mp e]; exact abv x
  refine ⟨x',s',Q,?_,by rw [l]; simp; omega,h⟩
  rw [List.range'_succ,List.map_cons,bT (m1:=[.fz (.int x),s1,.ow (.lst (P.map D.int)),.fz (.int (i:Int))]) rfl st]
  rw [List.map_append] at e
  exact e
theorem N6 (S:Int):∀Q:List Int,(Q.map λp=>Rat.divInt p S).sum=Rat.divInt Q.sum S
 |[]=>by simp
 |p::Q=>by
  rw [List.map_cons,List.sum_cons,List.sum_cons,N6 S Q,Rat.divInt_eq_div,Rat.divInt_eq_div,Rat.divInt_eq_div,Rat.div_def,Rat.div_def,Rat.div_def,← Rat.add_mul,Rat.intCast_add]
theorem div_self {S:Int}(h:0<S):Rat.divInt S S=1:=by
 rw [Rat.divInt_self' (by omega)]
theorem div_pos {p S:Int}(hp:0<p)(h:0<S):0<(Rat.divInt p S).num:=by
 have hd:0<((Rat.divInt p S).den:Int):=by have:=qX (Rat.divInt p S); omega
 have h2:=(Rat.divInt_eq_divInt_iff (by omega) (by omega)).mp (Rat.num_divInt_den (Rat.divInt p S))
 have h3:0<p * ((Rat.divInt p S).den:Int):=Int.mul_pos hp hd
 rw [← h2] at h3
 exact Int.pos_of_mul_pos_left h3 h
theorem Sy:∀Q:List Int,(∀p∈Q,1<=p/\p<=203)->(Q.length:Int)<=Q.sum/\Q.sum<=203 * Q.length
 |[],_=>by simp
 |p::Q,h=>by
  have:=Sy Q λx hx=>h x (List.mem_cons_of_mem _ hx)
  have:=h p List.mem_cons_self
  simp only [List.sum_cons,List.length_cons]
  omega
theorem GQ:∀Q:List Int,wk (Q.map D.int)=some Q
 |[]=>rfl
 |p::Q=>by simp [wk,GQ Q]
theorem Xw (Q:List Int):RK [.lst (Q.map D.int)]=some (.int Q.sum):=by
 show (wk _).map _=_
 rw [GQ]; rfl
theorem aai {Q:List Int}{u v:Sl}{c:Int}(hS:0<Q.sum)(hS2:Q.sum<=609)(z1:Q.length<=1000):n8 [u,.fz (.int c),.fz (.lst (Q.map D.int)),v]=.ok (.lst (Q.map λp=>rD (Rat.divInt p Q.sum))):=by
 have bS:Bg Q.sum:=bgS (by omega)
 have ec':cA (hName 0) dX nT [.un,.fz (.lst (Q.map D.int))] (Q.map D.int)=.ok (Q.map λp=>rD (Rat.divInt p Q.sum)):=iG Q λp hp=>by
  refine ⟨[.fz (.int p),.fz (.lst (Q.map D.int))],rfl,rfl,?_⟩
  have el:=JP (t:=p) hS bS
  simp [nT,fFn,aj,aA,aH,aW,ak,Xw Q,el]
 have z2:Q.length<=16777216:=by omega
 simp [n8,bZ,fO,ak,cMe,Sl.bor,ec',z2]
theorem Zy {x:Int}{c:Nat}{x' s':Sl}{Q:List Int}(hc:c<=3)(e:bW (hName 3) fQ ((List.range' 0 c).map λ(k:Nat)=>D.int k) [.fz (.int x),.fz (.int (c:Int)),.ow (.lst []),.un]=.ok (.nx,[x',.fz (.int (c:Int)),.ow (.lst (Q.map D.int)),s'])):
  jN [.fz (.int x),.fz (.int (c:Int)),.ow (.lst []),.un]=.ok (.nx,[x',.fz (.int (c:Int)),.ow (.lst (Q.map D.int)),s']):=by
 have e1:(aj (ak 1) aA) [.fz (.int x),.fz (.int (c:Int)),.ow (.lst []),.un]=.ok [.int (c:Int)]:=by simp [aj,ak,aA]
 have e2:=Ky e1 (by omega) (by omega)
 unfold jN jD
 rw [e2]
 show bW (hName 3) fQ ((List.range c).map λ(k:Nat)=>D.int k) _=_
 rw [List.range_eq_range']
 exact e
theorem Jp {L:Me->Res (Fl×Me)}{QQ:Me->Res D}{x c r:D}{x' s':Sl}{l:D}(eL:L [.fz x,.fz c,.ow (.lst []),.un]=.ok (.nx,[x',.fz c,.ow l,s']))(eq:∀u v:Sl,QQ [u,.fz c,.fz l,v]=.ok r):aY 4 2 (mZ L QQ) [x,c]=.ok (true,r):=by
 simp [aY,mZ,aK,jE,gM,aA,eL,jz,Me.let,Sl.let,eq]
theorem Zi {x:Int}{c:Nat}{x' s':Sl}{Q:List Int}(hS:0<Q.sum)(hS2:Q.sum<=609)(z1:Q.length<=1000)(eL:jN [.fz (.int x),.fz (.int (c:Int)),.ow (.lst []),.un]=.ok (.nx,[x',.fz (.int (c:Int)),.ow (.lst (Q.map D.int)),s'])):
  jJ [.int x,.int (c:Int)]=.ok (true,.lst (Q.map λp=>rD (Rat.divInt p Q.sum))):=
 Jp eL λu v=>aai hS hS2 z1
theorem Je {x:Int}{c:Nat}(h:sm x)(hc:1<=c/\c<=3):∃l:List Rat,jJ [.int x,.int (c:Int)]=.ok (true,.lst (l.map rD))/\(∀q∈l,Sz 20 q/\smQ (rq q)/\0<q.num)/\l.length=c/\l.sum=1:=by
 obtain ⟨x',s',Q,e,hl,hQ⟩:=Ng (s1:=.fz (.int (c:Int))) c 0 x [] .un h (by simp; omega) (λ_ z=>by cases z)
 have hl:Q.length=c:=by simpa using hl
 have sb:=Sy Q hQ
 have hS:0<Q.sum:=by omega
 have hS2:Q.sum<=609:=by omega
 refine ⟨Q.map λp=>Rat.divInt p Q.sum,?_,λq hq=>?_,by simp [hl],by rw [N6,div_self hS]⟩
 ·rw [List.map_map]
  exact Zi hS hS2 (by omega) (Zy hc.2 e)
 ·obtain ⟨p,hp,rfl⟩:=List.mem_map.mp hq
  have hb:=hQ p hp
  have p20:(1000:Nat)<2 ^ 20:=by decide
  exact ⟨QF (by omega) (Nat.lt_of_le_of_lt (show p.natAbs<=1000 by omega) p20) (Nat.lt_of_le_of_lt (show Q.sum.natAbs<=1000 by omega) p20),xO hS (by omega) (by omega),div_pos (by omega) hS⟩
open PySem L2 Hd F Pk
structure En where
 cells:List Int
 pool:List Str
 turn:Int
 lev:Bool
noncomputable def sk (x:String):Key:=.inr (Str.ofString x)
noncomputable def wO:List Key:=[sk "at",sk "room",sk "names",sk "many",sk "pool",sk "turn",sk "level"]
noncomputable def stD (e:En)(A:Addr×Addr)(at_ room:Int):D:=.dct wO [.int at_,.int room,.adr A.1,.adr A.2,.lst (e.pool.map D.str),.int e.turn,.bl e.lev]
theorem abk (e:En)(A:Addr×Addr)(a r:Int):bR (stD e A a r) (.str "at")=some (.int a):=by
 simp [bR,stD,wO,qN,uK,sk]
theorem Dt (e:En)(A:Addr×Addr)(a r:Int):bR (stD e A a r) (.str "room")=some (.int r):=by
 simp [bR,stD,wO,qN,uK,sk]
theorem Hm (e:En)(A:Addr×Addr)(a r:Int):bR (stD e A a r) (.str "names")=some (.adr A.1):=by
 simp [bR,stD,wO,qN,uK,sk]
theorem KQ (e:En)(A:Addr×Addr)(a r:Int):bR (stD e A a r) (.str "many")=some (.adr A.2):=by
 simp [bR,stD,wO,qN,uK,sk]
theorem KH (e:En)(A:Addr×Addr)(a r:Int):bR (stD e A a r) (.str "pool")=some (.lst (e.pool.map D.str)):=by
 simp [bR,stD,wO,qN,uK,sk]
theorem Lp (e:En)(A:Addr×Addr)(a r:Int):bR (stD e A a r) (.str "turn")=some (.int e.turn):=by
 simp [bR,stD,wO,qN,uK,sk]
theorem RM (e:En)(A:Addr×Addr)(a r:Int):bR (stD e A a r) (.str "level")=some (.bl e.lev):=by
 simp [bR,stD,wO,qN,uK,sk]
theorem aan {fk fv:Me->Res D}{m:Me}{e:En}{A:Addr×Addr}{a r a':Int}{i:Nat}(h:m[i]? = some (.io (stD e A a r)))(hk:fk m=.ok (.str "at"))(hv:fv m=.ok (.int a')):lL i fk fv m=.ok (.nx,m.set i (.io (stD e A a' r))):=by
 have ho:yx m i=some (false,wO,[.int a,.int r,.adr A.1,.adr A.2,.lst (e.pool.map D.str),.int e.turn,.bl e.lev]):=by
  unfold yx; rw [h]; rfl
 unfold lL
 rw [hv,ho]
 simp [hk,qN,yo,putD,wO,sk,BP,stD]
theorem HQ {fk fv:Me->Res D}{m:Me}{e:En}{A:Addr×Addr}{a r r':Int}{i:Nat}(h:m[i]? = some (.io (stD e A a r)))(hk:fk m=.ok (.str "room"))(hv:fv m=.ok (.int r')):lL i fk fv m=.ok (.nx,m.set i (.io (stD e A a r'))):=by
 have ho:yx m i=some (false,wO,[.int a,.int r,.adr A.1,.adr A.2,.lst (e.pool.map D.str),.int e.turn,.bl e.lev]):=by
  unfold yx; rw [h]; rfl
 unfold lL
 rw [hv,ho]
 simp [hk,qN,yo,putD,wO,sk,BP,stD]
noncomputable def kp:D->Kt
 | .tup [.str a,.str b]=>.t [.k (.inr a),.k (.inr b)]
 |_=>.t []
noncomputable def kN (s:Int)(rc:List D)(c b:Int):List Kt:=[.k (.inl s),.t (rc.map kp),.k (.inl c),.k (.inl b)]
noncomputable abbrev Pr (rc:List D):Prop:=∀d∈rc,prd d
theorem Ym {n:Nat}:∀{rc:List D},Pr rc->nu (ktD (n+1)) rc=some (rc.map kp)
 |[],_=>rfl
 |d::rc,h=>by
  obtain ⟨a,b,rfl⟩:=h d List.mem_cons_self
  have ih:=Ym (n:=n) λx hx=>h x (List.mem_cons_of_mem _ hx)
  have e:ktD (n+1) (.tup [.str a,.str b])=some (.t [.k (.inr a),.k (.inr b)]):=by
   cases n <;> rfl
  show ((ktD (n+1) (.tup [.str a,.str b])).bind λk=>(nu (ktD (n+1)) rc).map λks=>k::ks)=_
  rw [e,ih]
  rfl
theorem abe {s:Int}{rc:List D}{c b:Int}(h:Pr rc):ug (.tup [.int s,.tup rc,.int c,.int b])=some (kN s rc c b):=by
 have e:ktD 7 (.tup rc)=some (.t (rc.map kp)):=by
  show (nu (ktD 6) rc).map Kt.t=_
  rw [Ym h]; rfl
 show ((ktD 7 (.int s)).bind λk=>((ktD 7 (.tup rc)).bind λk=>((ktD 7 (.int c)).bind λk=>((ktD 7 (.int b)).bind λk=>(some []).map λks=>k::ks).map λks=>k::ks).map λks=>k::ks).map λks=>k::ks)=_
 rw [e]
 rfl
theorem QT:∀{r r':List D},Pr r->Pr r'->r.map kp=r'.map kp->r=r'
 |[],[],_,_,_=>rfl
 |[],_::_,_,_,h=>by cases h
 |_::_,[],_,_,h=>by cases h
 |d::r,d'::r',h1,h2,h=>by
  obtain ⟨a,b,rfl⟩:=h1 d List.mem_cons_self
  obtain ⟨a',b',rfl⟩:=h2 d' List.mem_cons_self
  have h:Kt.t [.k (.inr a),.k (.inr b)]::r.map kp=Kt.t [.k (.inr a'),.k (.inr b')]::r'.map kp:=h
  injection h with e1 e2
  injection e1 with e1
  injection e1 with e3 e4
  injection e3 with e3
  injection e3 with e3
  injection e4 with e4 _
  injection e4 with e4
  injection e4 with e4
  rw [e3,e4,QT (λx hx=>h1 x (List.mem_cons_of_mem _ hx)) (λx hx=>h2 x (List.mem_cons_of_mem _ hx)) e2]
theorem DR {s s':Int}{r r':List D}{c b c' b':Int}(h1:Pr r)(h2:Pr r')(h:kN s r c b=kN s' r' c' b'):s=s'/\r=r'/\c=c'/\b=b':=by
 unfold kN at h
 injection h with e1 h
 injection h with e2 h
 injection h with e3 h
 injection h with e4 _
 injection e1 with e1
 injection e1 with e1
 injection e2 with e2
 injection e3 with e3
 injection e3 with e3
 injection e4 with e4
 injection e4 with e4
 exact ⟨e1,QT h1 h2 e2,e3,e4⟩
noncomputable abbrev Nd:=List (List Kt)×List D
noncomputable def mOf (m:Int×Int)(s:Int):Int:=if s=1 then m.1 else m.2
structure qd (N:Nd)(m:Int×Int):Prop where
 len:N.1.length=N.2.length
 sz:N.1.length<=1000
 nn:0<=m.1/\0<=m.2
 num:∀s rc c b d,(s=1\/s=2)->Pr rc->cQ N.1 N.2 (kN s rc c b)=some d->∃n:Int,d=.int n/\0<=n/\n<mOf m s
 inj:∀s rc c b rc' c' b' d,(s=1\/s=2)->Pr rc->Pr rc'->cQ N.1 N.2 (kN s rc c b)=some d->cQ N.1 N.2 (kN s rc' c' b')=some d->rc=rc'/\c=c'
noncomputable def Sub (N N':Nd):Prop:=∀k d,cQ N.1 N.2 k=some d->cQ N'.1 N'.2 k=some d
noncomputable def upM (m:Int×Int)(s:Int):Int×Int:=if s=1 then (m.1+1,m.2) else (m.1,m.2+1)
theorem ZD {N:Nd}{m:Int×Int}{s:Int}{rc:List D}{c b:Int}(I:qd N m)(hs:s=1\/s=2)(hr:Pr rc)(hz:N.1.length<1000)(hn:cQ N.1 N.2 (kN s rc c b)=none):
  qd (lA N.1 N.2 (kN s rc c b) (.int (mOf m s))) (upM m s)/\Sub N (lA N.1 N.2 (kN s rc c b) (.int (mOf m s))):=by
 have hp:=λk'=>wH (ks:=N.1) (ds:=N.2) (k:=kN s rc c b) (k':=k') (d:=.int (mOf m s)) I.len
 obtain ⟨l1,l2⟩:=Ft (ks:=N.1) (ds:=N.2) (k:=kN s rc c b) (d:=.int (mOf m s)) I.len
 have nn:=I.nn
 have m0:0<=mOf m s:=by unfold mOf; split <;> omega
 have mle:∀t,mOf m t<=mOf (upM m s) t:=λt=>by
  unfold mOf upM
  by_cases q:s=1 <;> by_cases q2:t=1 <;> simp [q,q2] <;> omega
 have mlt:mOf m s<mOf (upM m s) s:=by
  unfold mOf upM
  by_cases q:s=1 <;> simp [q] <;> omega
 refine ⟨⟨l1,by omega,?_,?_,?_⟩,?_⟩
 ·unfold upM; split <;> simp <;> omega
 ·intro t r c' b' d ht hr' h
  rw [hp] at h
  by_cases q:kN s rc c b=kN t r c' b'
  ·rw [if_pos q] at h
   cases h
   obtain ⟨rfl,_⟩:=DR hr hr' q
   exact ⟨_,rfl,m0,mlt⟩
  ·rw [if_neg q] at h
   obtain ⟨n,e,h0,h1⟩:=I.num t r c' b' d ht hr' h
   exact ⟨n,e,h0,Int.lt_of_lt_of_le h1 (mle t)⟩
 ·intro t r c1 b1 r' c2 b2 d ht h1 h2 e1 e2
  rw [hp] at e1 e2
  by_cases q1:kN s rc c b=kN t r c1 b1
  ·rw [if_pos q1] at e1
   cases e1
   obtain ⟨rfl,rfl,rfl,rfl⟩:=DR hr h1 q1
   by_cases q2:kN s rc c b=kN s r' c2 b2
   ·obtain ⟨_,rfl,rfl,_⟩:=DR hr h2 q2
    exact ⟨rfl,rfl⟩
   ·rw [if_neg q2] at e2
    obtain ⟨n,e,_,h⟩:=I.num s r' c2 b2 _ ht h2 e2
    cases e
    omega
  ·rw [if_neg q1] at e1
   by_cases q2:kN s rc c b=kN t r' c2 b2
   ·rw [if_pos q2] at e2
    cases e2
    obtain ⟨rfl,rfl,rfl,rfl⟩:=DR hr h2 q2
    obtain ⟨n,e,_,h⟩:=I.num s r c1 b1 _ ht h1 e1
    cases e
    omega
   ·rw [if_neg q2] at e2
    exact I.inj t r c1 b1 r' c2 b2 d ht h1 h2 e1 e2
 ·intro k d h
  rw [hp,if_neg λq=>by rw [← q,hn] at h; cases h]
  exact h
theorem O9 {e:En}{N:Nd}{m:Int×Int}{s a r:Int}{rc:List D}{c b:Int}(I:qd N m)(hs:s=1\/s=2)(hr:Pr rc)(hz:N.1.length<1000):
  ∃(n:Int) (N':Nd) (m':Int×Int),(∀A:Addr×Addr,cB [.int s,.tup rc,.int c,.int b] (stD e A a r) (A.1,.dcu N.1 N.2) (A.2,.lst [.int m.1,.int m.2])=.ok (.int n,stD e A a r,.dcu N'.1 N'.2,.lst [.int m'.1,.int m'.2]))/\
   0<=n/\cQ N'.1 N'.2 (kN s rc c b)=some (.int n)/\qd N' m'/\Sub N N'/\N'.1.length<=N.1.length+1:=by
 have kk:=abe (s:=s) (c:=c) (b:=b) hr
 have z1:N.1.length<16777216:=by omega
 have x0:∀a b:D,atI [a,b] 0=some a:=λ_ _=>rfl
 have x1:∀a b:D,atI [a,b] 1=some b:=λ_ _=>rfl
 have n0:ixN 2 0=some 0:=rfl
 have n1:ixN 2 1=some 1:=rfl
 cases q:cQ N.1 N.2 (kN s rc c b) with
 |some d=>
  obtain ⟨n,rfl,h0,h1⟩:=I.num s rc c b d hs hr q
  refine ⟨n,N,m,λA=>?_,h0,q,I,λ_ _ h=>h,by omega⟩
  have g1:=Hm e A a r
  have g2:=KQ e A a r
  generalize hst:stD e A a r=ST at *
  simp [cB,fB,fH,F.runST,lX,aK,bu,aU,aj,aA,aH,gIf,aM,ak,G6,au,fC,g1,g2,Jc,W5,vQ,dcK,kk,q,gNx,bD,Me.let,Sl.let,qp,lW]
 |none=>
  obtain ⟨I',S'⟩:=ZD I hs hr hz q
  have l2:=(Ft (ks:=N.1) (ds:=N.2) (k:=kN s rc c b) (d:=.int (mOf m s)) I.len).2
  have hv:cQ (lA N.1 N.2 (kN s rc c b) (.int (mOf m s))).1 (lA N.1 N.2 (kN s rc c b) (.int (mOf m s))).2 (kN s rc c b)=some (.int (mOf m s)):=by rw [wH I.len,if_pos rfl]
  have m0:0<=mOf m s:=by have:=I.nn; unfold mOf; split <;> omega
  refine ⟨mOf m s,lA N.1 N.2 (kN s rc c b) (.int (mOf m s)),upM m s,λA=>?_,m0,hv,I',S',l2⟩
  have g1:=Hm e A a r
  have g2:=KQ e A a r
  generalize hst:stD e A a r=ST at *
  rcases hs with rfl | rfl
  ·simp only [mOf,upM,show ((1:Int)=1)=True by simp,if_true] at hv ⊢
   simp [cB,fB,fH,F.runST,lX,aK,bu,aU,aj,aA,aH,gIf,aM,ak,G6,au,fC,g1,g2,Jc,W5,vQ,dcK,kk,q,bD,Me.let,Sl.let,qp,lW,vy,tW,vB,gIx,F.gC,x0,x1,n0,n1,z1,cF,hv]
  ·simp only [mOf,upM,show ((2:Int)=1)=False by simp,if_false] at hv ⊢
   simp [cB,fB,fH,F.runST,lX,aK,bu,aU,aj,aA,aH,gIf,aM,ak,G6,au,fC,g1,g2,Jc,W5,vQ,dcK,kk,q,bD,Me.let,Sl.let,qp,lW,vy,tW,vB,gIx,F.gC,x0,x1,n0,n1,z1,cF,hv]
open PySem L2 Hd F Pk
noncomputable def nameAt (e:En)(n:Int):Str:=e.pool.getD ((n+e.turn) % 8).toNat ⟨#[]⟩
noncomputable def wordAt (e:En)(n k:Int):Str:=e.pool.getD ((3 * n+k+e.turn / 8) % 8).toNat ⟨#[]⟩
structure oM (e:En):Prop where
 c1:1<=e.cells.length
 c2:e.cells.length<=100
 p8:e.pool.length=8
 t0:0<=e.turn/\e.turn<64
 pok:∀x∈e.pool,PyData.strOk x=true
theorem vz {e:En}(E:oM e){i:Int}(h:0<=i/\i<8):atI (e.pool.map D.str) i=some (.str (e.pool.getD i.toNat ⟨#[]⟩)):=by
 have hl:i.toNat<e.pool.length:=by rw [E.p8]; omega
 have e1:(e.pool.map D.str)[i.toNat]? = some (.str (e.pool.getD i.toNat ⟨#[]⟩)):=by
  rw [List.getElem?_map,List.getElem?_eq_getElem hl,List.getD_eq_getElem?_getD,List.getElem?_eq_getElem hl]
  rfl
 have:=pN e1
 rwa [show ((i.toNat:Nat):Int)=i by omega] at this
theorem yG {e:En}(E:oM e)(i:Nat)(h:i<8):PyData.strOk (e.pool.getD i ⟨#[]⟩)=true:=by
 have hl:i<e.pool.length:=by rw [E.p8]; exact h
 rw [List.getD_eq_getElem?_getD,List.getElem?_eq_getElem hl]
 exact E.pok _ (List.getElem_mem hl)
noncomputable def Row (e:En)(N:Nd)(s:Int)(nm:Str)(d:D):Prop:=∃(rc:List D) (c:Nat) (b n:Int),Pr rc/\jx rc=true/\cQ N.1 N.2 (kN s rc (c:Int) b)=some (.int n)/\0<=n/\n<8/\(1<=c/\c<=3)/\nm=nameAt e n/\d=.tup [.int s,.str nm,.tup ((List.range c).map λ(k:Nat)=>.str (wordAt e n k)),.tup rc]
theorem Row.mono {e:En}{N N':Nd}{s:Int}{nm:Str}{d:D}(h:Row e N s nm d)(S:Sub N N'):Row e N' s nm d:=by
 obtain ⟨rc,c,b,n,h1,h2,h3,h4⟩:=h
 exact ⟨rc,c,b,n,h1,h2,S _ _ h3,h4⟩
noncomputable def Rm (e:En)(N:Nd)(p:Tr):Prop:=match p.2.1 with
 | .fin d=>smQ d/\∃q:Rat,d=rq q
 | .deal n ws=>Jv ws/\n∈e.pool
 | .move s n ws=>Row e N s n (cV s n ws p.2.2)
theorem Rm.mono {e:En}{N N':Nd}{p:Tr}(h:Rm e N p)(S:Sub N N'):Rm e N' p:=by
 obtain ⟨w,g,r⟩:=p
 cases g with
 |fin d=>exact h
 |deal n ws=>exact h
 |move s n ws=>exact Row.mono h S
structure Grw (e:En)(N:Nd)(rc:Rc)(g:Gm)(dep:Nat):Prop where
 len:fP g
 sd:sdG g
 dep:dp g<=dep
 pl:∀w,∀p∈prG w rc g,Rm e N p
theorem Grw.mono {e:En}{N N':Nd}{rc:Rc}{g:Gm}{dep:Nat}(h:Grw e N rc g dep)(S:Sub N N'):Grw e N' rc g dep:=⟨h.len,h.sd,h.dep,λw p hp=>(h.pl w p hp).mono S⟩
noncomputable abbrev Bf:=List D->D->Addr×D->Addr×D->Res (D×D×D×D)
noncomputable def Hw (rc:Rc)(dep:Nat):Prop:=Pr rc.1/\Pr rc.2/\jx rc.1=true/\jx rc.2=true/\rc.1.length+dep<=12/\rc.2.length+dep<=12
noncomputable def cD (e:En):D:=.lst (e.cells.map D.int)
noncomputable def rcD (rc:Rc):D:=.lst [.tup rc.1,.tup rc.2]
noncomputable def nD (N:Nd):D:=.dcu N.1 N.2
noncomputable def mD (m:Int×Int):D:=.lst [.int m.1,.int m.2]
noncomputable def Gives (e:En)(R:Addr×Addr->Res (D×D×D×D))(a r:Nat)(N:Nd)(rc:Rc)(dep:Nat):Prop:=∃(g:Gm) (a' r':Nat) (N':Nd) (m':Int×Int),(∀A,R A=.ok (dG g,stD e A a' r',nD N',mD m'))/\qd N' m'/\Sub N N'/\N'.1.length<=a'/\r'+szG g=r+1/\a'+r'=a+r+1/\Grw e N' rc g dep
noncomputable def SpB (e:En)(Φ:Bf)(dep:Nat):Prop:=∀(a r:Nat) (N:Nd) (m:Int×Int) (rc:Rc),qd N m->N.1.length<=a->a+r<=63->Hw rc dep->Gives e (λA=>Φ [cD e,.int (dep:Int),rcD rc] (stD e A a r) (A.1,nD N) (A.2,mD m)) a r N rc dep
noncomputable def ofL:List (D×Gm)->Ws
 |[]=>.nil
 |p::l=>.cons p.1 p.2 (ofL l)
theorem Jf:∀l:List (D×Gm),dWs (ofL l)=l.map λp=>.tup [p.1,dG p.2]
 |[]=>rfl
 |p::l=>by show _::dWs (ofL l)=_; rw [Jf l]; rfl
theorem Dp:∀l:List (D×Gm),eV (ofL l)=l.map (·.1)
 |[]=>rfl
 |p::l=>by show _::eV (ofL l)=_; rw [Dp l]; rfl
noncomputable def mvM (e:En)(A:Addr×Addr)(a r:Int)(N:Nd)(m:Int×Int)(rc:Rc)(dep draw s c n:Int)(seen:Str)(ways:List D)(s11 s12 s13:Sl):Me:=
 [.fz (cD e),.io (stD e A a r),.fz (.int dep),.fz (rcD rc),.fz (.int draw),.fz (.int s),.fz (.int c),.fz (.int n),.fz (.lst (e.pool.map D.str)),.fz (.str seen),.ow (.lst ways),s11,s12,s13,.hd false A.1 (nD N),.hd false A.2 (mD m)]
theorem ZJ {rc:Rc}{dep:Nat}{s:Int}{n x:Str}(h:Hw rc (dep+1))(hn:PyData.strOk n=true)(hx:PyData.strOk x=true):Hw (rbm s n rc (.str x)) dep:=by
 obtain ⟨h1,h2,h3,h4,h5,h6⟩:=h
 have app:∀l:List D,jx l=true->jx (l++[.tup [.str n,.str x]])=true:=by
  intro l
  induction l with
  |nil=>intro _; simp [jx,okD,hn,hx]
  |cons d l ih=>intro h; simp [jx] at h ⊢; exact ⟨h.1,ih h.2⟩
 have prp:∀l:List D,Pr l->Pr (l++[.tup [.str n,.str x]]):=λl h d hd=>by
  rcases List.mem_append.mp hd with e | e
  ·exact h d e
  ·exact ⟨n,x,List.mem_singleton.mp e⟩
 unfold rbm
 split
 ·exact ⟨prp _ h1,h2,app _ h3,h4,by simp; omega,by simp; omega⟩
 ·exact ⟨h1,prp _ h2,h3,app _ h4,by simp; omega,by simp; omega⟩
theorem W8 {e:En}(E:oM e){Φ:Bf}{dep:Nat}(hΦ:SpB e Φ dep){a r:Nat}{N:Nd}{m:Int×Int}{rc:Rc}{draw s c n k:Int}{seen:Str}{ways:List D}{s12 s13:Sl}(I:qd N m)(hN:N.1.length<=a)(har:a+r<=63)(hr:Hw rc (dep+1))(hs:s=1\/s=2)(hn:0<=n/\n<8)(hk:0<=k/\k<3)(hse:PyData.strOk seen=true)(hw:ways.length<=100):
  ∃(g:Gm) (a' r':Nat) (N':Nd) (m':Int×Int) (t12 t13:Sl),(∀A:Addr×Addr,iD Φ (mvM e A a r N m rc (dep+1:Nat) draw s c n seen ways (.fz (.int k)) s12 s13)=.ok (.nx,mvM e A a' r' N' m' rc (dep+1:Nat) draw s c n seen (ways++[.tup [.str (wordAt e n k),dG g]]) (.fz (.int k)) t12 t13))/\
   qd N' m'/\Sub N N'/\N'.1.length<=a'/\r'+szG g=r+1/\a'+r'=a+r+1/\Grw e N' (rbm s seen rc (.str (wordAt e n k))) g dep:=by
 have t0:=E.t0
 have hwok:PyData.strOk (wordAt e n k)=true:=yG E _ (by omega)
 obtain ⟨g,a',r',N',m',e1,i1,i2,i3,i4,i5,i6⟩:=hΦ a r N m _ I hN har (ZJ (s:=s) hr hse hwok)
 refine ⟨g,a',r',N',m',.fz (.str (wordAt e n k)),.fz (rcD (rbm s seen rc (.str (wordAt e n k)))),λA=>?_,i1,i2,i3,i4,i5,i6⟩
 have e1:Φ [cD e,.int (dep:Int),rcD (rbm s seen rc (.str (wordAt e n k)))] (stD e A a r) (A.1,nD N) (A.2,mD m)=.ok (dG g,stD e A a' r',nD N',mD m'):=e1 A
 have pa:=vz E (i:=(3 * n+k+e.turn / 8) % 8) (by omega)
 have b3:Bg 3:=bgS (by decide)
 have bn:Bg n:=bgS (by omega)
 have b8:Bg 8:=bgS (by decide)
 have gt:=Lp e A a r
 have x0:∀a b:D,atI [a,b] 0=some a:=λ_ _=>rfl
 have x1:∀a b:D,atI [a,b] 1=some b:=λ_ _=>rfl
 have n0:ixN 2 0=some 0:=rfl
 have n1:ixN 2 1=some 1:=rfl
 have z1:rc.1.length+1<=16777216:=by have:=hr.2.2.2.2.1; omega
 have z2:rc.2.length+1<=16777216:=by have:=hr.2.2.2.2.2; omega
 have z3:ways.length<16777216:=by omega
 have ed:((dep+1:Nat):Int) - 1=(dep:Int):=by omega
 have wd:wordAt e n k=e.pool.getD ((3 * n+k+e.turn / 8) % 8).toNat ⟨#[]⟩:=rfl
 rw [← wd] at pa
 simp only [mvM]
 generalize wordAt e n k=X at *
 generalize hst:stD e A a r=ST at *
 generalize hst':stD e A (a':Int) (r':Int)=ST' at *
 generalize cD e=C at *
 generalize nD N=NN at *
 generalize nD N'=NN' at *
 generalize mD m=MM at *
 generalize mD m'=MM' at *
 generalize hdp:((dep+1:Nat):Int)=DP at *
 rcases hs with rfl | rfl
 ·simp only [rbm,rcD,if_pos] at e1
  simp [iD,aK,bu,au,ak,gIx,bO,mdI,cF,lM,fC,gt,eQ,dvI,b3,bn,b8,hst,hst',pa,jE,aW,yj,aj,aA,rcD,FJ,F.gC,x0,x1,pU,putL,n0,n1,aU,aH,z1,z2,Sd,ql,CP,sX,fX,uQ,Gq,vB,ed,e1,yF,Cr,z3,rbm]
 ·simp only [rbm,rcD,show ((2:Int)=1)=False by simp,if_false] at e1
  simp [iD,aK,bu,au,ak,gIx,bO,mdI,cF,lM,fC,gt,eQ,dvI,b3,bn,b8,hst,hst',pa,jE,aW,yj,aj,aA,rcD,FJ,F.gC,x0,x1,pU,putL,n0,n1,aU,aH,z1,z2,Sd,ql,CP,sX,fX,uQ,Gq,vB,ed,e1,yF,Cr,z3,rbm]
open PySem L2 Hd F Pk
noncomputable def szL (L:List (D×Gm)):Nat:=(L.map λp=>szG p.2).sum
noncomputable def Ka (p:D×Gm):D:=.tup [p.1,dG p.2]
theorem Sub.refl (N:Nd):Sub N N:=λ_ _ h=>h
theorem Sub.trans {A B C:Nd}(h:Sub A B)(k:Sub B C):Sub A C:=λx d z=>k x d (h x d z)
theorem Mh {e:En}(E:oM e){Φ:Bf}{dep:Nat}(hΦ:SpB e Φ dep){rc:Rc}{draw s cc n:Int}{seen:Str}(hr:Hw rc (dep+1))(hs:s=1\/s=2)(hn:0<=n/\n<8)(hse:PyData.strOk seen=true):
  ∀(c i a r:Nat) (N:Nd) (m:Int×Int) (ways:List D) (s11 s12 s13:Sl),qd N m->N.1.length<=a->a+r+c<=64->i+c<=3->ways.length+c<=100->
  ∃(L:List (D×Gm)) (a' r':Nat) (N':Nd) (m':Int×Int) (t11 t12 t13:Sl),(∀A:Addr×Addr,bW (hName 11) (iD Φ) ((List.range' i c).map λ(k:Nat)=>D.int k) (mvM e A a r N m rc (dep+1:Nat) draw s cc n seen ways s11 s12 s13)=.ok (.nx,mvM e A a' r' N' m' rc (dep+1:Nat) draw s cc n seen (ways++L.map Ka) t11 t12 t13))/\
   qd N' m'/\Sub N N'/\N'.1.length<=a'/\r'+szL L=r+c/\a'+r'=a+r+c/\L.map (·.1)=(List.range' i c).map (λ(k:Nat)=>D.str (wordAt e n k))/\∀p∈L,Grw e N' (rbm s seen rc p.1) p.2 dep
 |0,i,a,r,N,m,ways,s11,s12,s13,I,hN,har,hi,hw=>⟨[],a,r,N,m,s11,s12,s13,λA=>by simp [bW],I,Sub.refl N,hN,by simp [szL],by omega,rfl,λ_ z=>by cases z⟩
 |c+1,i,a,r,N,m,ways,s11,s12,s13,I,hN,har,hi,hw=>by
  obtain ⟨g,a1,r1,N1,m1,t12,t13,e1,i1,i2,i3,i4,i5,i6⟩:=W8 E hΦ (a:=a) (r:=r) (draw:=draw) (c:=cc) (s12:=s12) (s13:=s13) (k:=(i:Int)) I hN (by omega) hr hs hn (by omega) hse (by omega:ways.length<=100)
  obtain ⟨L,a',r',N',m',u11,u12,u13,e2,j1,j2,j3,j4,j5,j6,j7⟩:=Mh E hΦ (draw:=draw) (cc:=cc) (n:=n) (seen:=seen) hr hs hn hse c (i+1) a1 r1 N1 m1 (ways++[.tup [.str (wordAt e n i),dG g]]) (.fz (.int (i:Int))) t12 t13 i1 i3 (by omega) (by omega) (by simp; omega)
  refine ⟨(.str (wordAt e n i),g)::L,a',r',N',m',u11,u12,u13,λA=>?_,j1,i2.trans j2,j3,?_,by omega,?_,λp hp=>?_⟩
  ·rw [List.range'_succ,List.map_cons,bT (m1:=mvM e A a r N m rc (dep+1:Nat) draw s cc n seen ways (.fz (.int (i:Int))) s12 s13) rfl (e1 A),e2 A,List.append_assoc]
   rfl
  ·show r'+(szG g+szL L)=r+(c+1)
   omega
  ·rw [List.range'_succ,List.map_cons,List.map_cons,j6]
  ·rcases List.mem_cons.mp hp with q | q
   ·rw [q]; exact i6.mono j2
   ·exact j7 p q
theorem JR:∀L:List (D×Gm),szW (ofL L)=szL L
 |[]=>rfl
 |p::L=>by show szG p.2+szW (ofL L)=szG p.2+szL L; rw [JR L]
theorem Ep:∀L:List (D×Gm),jq (ofL L)=L.length
 |[]=>rfl
 |p::L=>by show jq (ofL L)+1=_; rw [Ep L]; rfl
theorem Ak:∀L:List (D×Gm),(∀p∈L,fP p.2)->rN (ofL L)
 |[],_=>trivial
 |p::L,h=>⟨h p List.mem_cons_self,Ak L λq hq=>h q (List.mem_cons_of_mem _ hq)⟩
theorem Kq:∀L:List (D×Gm),(∀p∈L,sdG p.2)->sdW (ofL L)
 |[],_=>trivial
 |p::L,h=>⟨h p List.mem_cons_self,Kq L λq hq=>h q (List.mem_cons_of_mem _ hq)⟩
theorem J0 {k:Nat}:∀L:List (D×Gm),(∀p∈L,dp p.2<=k)->dpW (ofL L)<=k
 |[],_=>Nat.zero_le _
 |p::L,h=>Nat.max_le.mpr ⟨h p List.mem_cons_self,J0 L λq hq=>h q (List.mem_cons_of_mem _ hq)⟩
theorem Jk {w:List Int}{f:D->Rc}:∀(L:List (D×Gm)) (i:Nat) (p:Tr),p∈prW w f i (ofL L)->∃q∈L,∃w',p∈prG w' (f q.1) q.2
 |[],i,p,h=>by cases h
 |q::L,i,p,h=>by
  rcases List.mem_append.mp (show p∈prG (w++[(i:Int)]) (f q.1) q.2++prW w f (i+1) (ofL L) from h) with z | z
  ·exact ⟨q,List.mem_cons_self,_,z⟩
  ·obtain ⟨q',h1,h2⟩:=Jk L (i+1) p z
   exact ⟨q',List.mem_cons_of_mem _ h1,h2⟩
theorem Q8 {e:En}{N:Nd}{rc:Rc}{dep:Nat}{s:Int}{nm:Str}{L:List (D×Gm)}(hs:s=1\/s=2)(hl:L.length<=3)(h:∀p∈L,Grw e N (rbm s nm rc p.1) p.2 dep)(hrow:Row e N s nm (cV s nm (ofL L) rc)):Grw e N rc (.move s nm (ofL L)) (dep+1) where
 len:=⟨by rw [Ep]; omega,Ak L λp hp=>(h p hp).len⟩
 sd:=⟨hs,Kq L λp hp=>(h p hp).sd⟩
 dep:=Nat.succ_le_succ (J0 L λp hp=>(h p hp).dep)
 pl:=λw p hp=>by
  rcases List.mem_cons.mp (show p∈(w,Gm.move s nm (ofL L),rc)::prW w (rbm s nm rc) 0 (ofL L) from hp) with z | z
  ·rw [z]; exact hrow
  ·obtain ⟨q,hq,w',h2⟩:=Jk L 0 p z
   exact (h q hq).pl w' p h2
theorem Q0 {e:En}{N:Nd}{rc:Rc}{dep:Nat}{nm:Str}{L:List (D×Gm)}(hl:L.length<=3)(h:∀p∈L,Grw e N rc p.2 dep)(hsh:Jv (ofL L))(hnm:nm∈e.pool):Grw e N rc (.deal nm (ofL L)) (dep+1) where
 len:=⟨by rw [Ep]; omega,Ak L λp hp=>(h p hp).len⟩
 sd:=Kq L λp hp=>(h p hp).sd
 dep:=Nat.succ_le_succ (J0 L λp hp=>(h p hp).dep)
 pl:=λw p hp=>by
  rcases List.mem_cons.mp (show p∈(w,Gm.deal nm (ofL L),rc)::prW w (λ_=>rc) 0 (ofL L) from hp) with z | z
  ·rw [z]; exact ⟨hsh,hnm⟩
  ·obtain ⟨q,hq,w',h2⟩:=Jk L 0 p z
   exact (h q hq).pl w' p h2
theorem Nb {e:En}{N:Nd}{rc:Rc}{dep:Nat}{q:Rat}(h:smQ (rq q)):Grw e N rc (.fin (rq q)) dep where
 len:=trivial
 sd:=trivial
 dep:=Nat.zero_le _
 pl:=λw p hp=>by
  have:p=(w,.fin (rq q),rc):=by simpa [prG] using hp
  rw [this]; exact ⟨h,q,rfl⟩
theorem gs {g k:Me->Res (Fl×Me)}{m m1:Me}(h:g m=.ok (.nx,m1)):aK g k m=k m1:=by unfold aK; rw [h]
theorem KN {g k:Me->Res (Fl×Me)}{m m1:Me}{f:Bool}{d:D}(h:g m=.ok (.rt f d,m1)):aK g k m=.ok (.rt f d,m1):=by unfold aK; rw [h]
theorem zW {p N n:Nat}{g:Me->Res (Fl×Me)}{ds:List D}{d:D}{x y:Addr×D}{m0 m':Me}{fr:Bool}{r d' e f:D}(hl:ds.length+1=n)(h0:lX p (.io d) (ds.map Sl.fz)++(List.replicate (N - n - 2) Sl.un++[.hd false x.1 x.2,.hd false y.1 y.2])=m0)(hg:g m0=.ok (.rt fr r,m'))(h1:qp m' p=some d')(h2:lW m' (N - 2) x.1=some e)(h3:lW m' (N - 1) y.1=some f):
  F.runST p N n g ds d x y=.ok (r,d',e,f):=by
 unfold F.runST
 rw [if_pos hl,h0,hg]
 simp [h1,h2,h3]
noncomputable def mx (e:En)(A:Addr×Addr)(a r:Int)(N:Nd)(m:Int×Int)(rc:Rc)(dep draw:Int)(s5 s6 s7 s8 s9 s10 s11 s12 s13:Sl):Me:=
 [.fz (cD e),.io (stD e A a r),.fz (.int dep),.fz (rcD rc),.fz (.int draw),s5,s6,s7,s8,s9,s10,s11,s12,s13,.hd false A.1 (nD N),.hd false A.2 (mD m)]
theorem Ua {φs:List D->Res (Bool×D)}{φn:Bf}{L:Me->Res (Fl×Me)}{e:En}{A:Addr×Addr}{a r:Nat}{N N1:Nd}{m m1:Int×Int}{rc:Rc}{DP draw s c b n:Int}(E:oM e)
  (hs:s=1+draw % 2) (hc:c=1+draw / 16 % 3) (hb:b=draw / 48 % 2) (en:φn [.int s,.tup (rQ rc s),.int c,.int b] (stD e A a r) (A.1,nD N) (A.2,mD m)=.ok (.int n,stD e A a r,nD N1,mD m1)):
  (8<=n->∀q,φs [.int draw]=.ok (false,q)->F.runST 1 16 5 (kI φs φn L) [cD e,.int DP,rcD rc,.int draw] (stD e A a r) (A.1,nD N) (A.2,mD m)=.ok (.tup [.str "end",q],stD e A a r,nD N1,mD m1))/\
  (0<=n->n<8->∀(a' r':Nat) (N':Nd) (m':Int×Int) (ws:List D) (t11 t12 t13:Sl),ws.length<=100->L (mvM e A a ((r:Int) - c) N1 m1 rc DP draw s c n (nameAt e n) [] .un .un .un)=.ok (.nx,mvM e A a' r' N' m' rc DP draw s c n (nameAt e n) ws t11 t12 t13)->
   F.runST 1 16 5 (kI φs φn L) [cD e,.int DP,rcD rc,.int draw] (stD e A a r) (A.1,nD N) (A.2,mD m)=.ok (.tup [.str "move",.int s,.str (nameAt e n),.tup ws],stD e A a' r',nD N',mD m')):=by
 have b16:Bg 16:=bgS (by decide)
 have b48:Bg 48:=bgS (by decide)
 have x0:∀a b:D,atI [a,b] 0=some a:=λ_ _=>rfl
 have x1:∀a b:D,atI [a,b] 1=some b:=λ_ _=>rfl
 have hs1:s=1\/s=2:=by omega
 have ex:gIx (rcD rc) (.int (s - 1))=some (.tup (rQ rc s)):=by
  rcases hs1 with q | q
  ·rw [q]; exact x0 _ _
  ·rw [q]; exact x1 _ _
 have e1:∀k,aK (bu 5 (au cF (fC (.int 1)) (au bO (ak 4) (fC (.int 2))))) k (mx e A a r N m rc DP draw .un .un .un .un .un .un .un .un .un)=k (mx e A a r N m rc DP draw (.fz (.int s)) .un .un .un .un .un .un .un .un):=λk=>gs (by
  simp [mx,bu,au,fC,ak,bO,mdI,cF,hs])
 have e2:∀k,aK (bu 6 (au cF (fC (.int 1)) (au bO (au eQ (ak 4) (fC (.int 16))) (fC (.int 3))))) k (mx e A a r N m rc DP draw (.fz (.int s)) .un .un .un .un .un .un .un .un)=k (mx e A a r N m rc DP draw (.fz (.int s)) (.fz (.int c)) .un .un .un .un .un .un .un):=λk=>gs (by
  simp [mx,bu,au,fC,ak,bO,mdI,cF,eQ,dvI,b16,hc])
 have e3:∀k,aK (zx 7 (uQ φn 1 0 14 15 (aj (aH 5) (aj (au gIx (ak 3) (au gC (ak 5) (fC (.int 1)))) (aj (aH 6) (aj (au bO (au eQ (ak 4) (fC (.int 48))) (fC (.int 2))) aA)))))) k (mx e A a r N m rc DP draw (.fz (.int s)) (.fz (.int c)) .un .un .un .un .un .un .un)=k (mx e A a r N1 m1 rc DP draw (.fz (.int s)) (.fz (.int c)) (.fz (.int n)) .un .un .un .un .un .un):=λk=>gs (by
  rw [hb] at en
  simp [mx,zx,uQ,Gq,vB,aj,aA,aH,au,ak,fC,F.gC,ex,bO,mdI,eQ,dvI,b48,en,yF])
 have start:lX 1 (.io (stD e A a r)) ([cD e,.int DP,rcD rc,.int draw].map Sl.fz)++(List.replicate (16 - 5 - 2) Sl.un++[.hd false A.1 (nD N),.hd false A.2 (mD m)])=mx e A a r N m rc DP draw .un .un .un .un .un .un .un .un .un:=rfl
 constructor
 ·intro h8 q eq
  have e4:∀k,aK (gIf (aM gGe (ak 7) (fC (.int 8))) (bD (aU (aj (fC (.str "end")) (aj (fFn φs (aj (aH 4) aA)) aA)))) gNx) k (mx e A a r N1 m1 rc DP draw (.fz (.int s)) (.fz (.int c)) (.fz (.int n)) .un .un .un .un .un .un)=.ok (.rt false (.tup [.str "end",q]),mx e A a r N1 m1 rc DP draw (.fz (.int s)) (.fz (.int c)) (.fz (.int n)) .un .un .un .un .un .un):=λk=>KN (by
   have:n ≥ 8:=h8
   simp [mx,gIf,aM,ak,fC,gGe,this,bD,Me.let,Sl.let,aU,aj,aA,fFn,aH,eq])
  refine zW (m0:=mx e A a r N m rc DP draw .un .un .un .un .un .un .un .un .un) (m':=mx e A a r N1 m1 rc DP draw (.fz (.int s)) (.fz (.int c)) (.fz (.int n)) .un .un .un .un .un .un) (fr:=false) rfl start ?_ rfl (by simp [mx,lW]) (by simp [mx,lW])
  unfold kI
  rw [e1,e2,e3,e4]
 ·intro h0 h8 a' r' N' m' ws t11 t12 t13 hw eL
  have t0:=E.t0
  have pa:=vz E (i:=(n+e.turn) % 8) (by omega)
  have wd:nameAt e n=e.pool.getD ((n+e.turn) % 8).toNat ⟨#[]⟩:=rfl
  rw [← wd] at pa
  have gt:=Lp e A a ((r:Int) - c)
  have gp:=KH e A a ((r:Int) - c)
  have gr:=Dt e A a r
  have e4:∀k,aK (gIf (aM gGe (ak 7) (fC (.int 8))) (bD (aU (aj (fC (.str "end")) (aj (fFn φs (aj (aH 4) aA)) aA)))) gNx) k (mx e A a r N1 m1 rc DP draw (.fz (.int s)) (.fz (.int c)) (.fz (.int n)) .un .un .un .un .un .un)=k (mx e A a r N1 m1 rc DP draw (.fz (.int s)) (.fz (.int c)) (.fz (.int n)) .un .un .un .un .un .un):=λk=>gs (by
   have:¬n ≥ 8:=by omega
   simp [mx,gIf,aM,ak,fC,gGe,this,gNx])
  have e5:∀k,aK (lL 1 (fC (.str "room")) (au gC (au bR (ak 1) (fC (.str "room"))) (ak 6))) k (mx e A a r N1 m1 rc DP draw (.fz (.int s)) (.fz (.int c)) (.fz (.int n)) .un .un .un .un .un .un)=k (mx e A a ((r:Int) - c) N1 m1 rc DP draw (.fz (.int s)) (.fz (.int c)) (.fz (.int n)) .un .un .un .un .un .un):=λk=>gs (HQ (e:=e) (A:=A) (a:=a) (r:=r) rfl rfl (by
   simp [mx,au,ak,fC,gr,F.gC]))
  have e6:∀k,aK (bu 8 (au bR (ak 1) (fC (.str "pool")))) k (mx e A a ((r:Int) - c) N1 m1 rc DP draw (.fz (.int s)) (.fz (.int c)) (.fz (.int n)) .un .un .un .un .un .un)=k (mx e A a ((r:Int) - c) N1 m1 rc DP draw (.fz (.int s)) (.fz (.int c)) (.fz (.int n)) (.fz (.lst (e.pool.map D.str))) .un .un .un .un .un):=λk=>gs (by
   simp [mx,bu,au,ak,fC,gp])
  have e7:∀k,aK (bu 9 (au gIx (ak 8) (au bO (au cF (ak 7) (au bR (ak 1) (fC (.str "turn")))) (fC (.int 8))))) k (mx e A a ((r:Int) - c) N1 m1 rc DP draw (.fz (.int s)) (.fz (.int c)) (.fz (.int n)) (.fz (.lst (e.pool.map D.str))) .un .un .un .un .un)=k (mx e A a ((r:Int) - c) N1 m1 rc DP draw (.fz (.int s)) (.fz (.int c)) (.fz (.int n)) (.fz (.lst (e.pool.map D.str))) (.fz (.str (nameAt e n))) .un .un .un .un):=λk=>gs (by
   simp [mx,bu,au,ak,fC,gt,gIx,bO,mdI,cF,pa])
  have e8:∀k,aK (jE 10 (gM aA)) k (mx e A a ((r:Int) - c) N1 m1 rc DP draw (.fz (.int s)) (.fz (.int c)) (.fz (.int n)) (.fz (.lst (e.pool.map D.str))) (.fz (.str (nameAt e n))) .un .un .un .un)=k (mvM e A a ((r:Int) - c) N1 m1 rc DP draw s c n (nameAt e n) [] .un .un .un):=λk=>gs (by
   simp [mx,mvM,jE,gM,aA])
  have e9:∀k,aK L k (mvM e A a ((r:Int) - c) N1 m1 rc DP draw s c n (nameAt e n) [] .un .un .un)=k (mvM e A a' r' N' m' rc DP draw s c n (nameAt e n) ws t11 t12 t13):=λk=>gs eL
  have z1:ws.length<=16777216:=by omega
  refine zW (m0:=mx e A a r N m rc DP draw .un .un .un .un .un .un .un .un .un) (m':=Me.let (mvM e A a' r' N' m' rc DP draw s c n (nameAt e n) ws t11 t12 t13)) (fr:=false) rfl start ?_ rfl (by simp [mvM,lW,Me.let,Sl.let]) (by simp [mvM,lW,Me.let,Sl.let])
  unfold kI
  rw [e1,e2,e3,e4,e5,e6,e7,e8,e9]
  simp [mvM,bD,Me.let,Sl.let,aU,aj,aA,fC,aH,aW,ak,gP,z1]
open PySem L2 Hd F Pk
theorem Ww {e:En}(E:oM e){Φ:Bf}{dep:Nat}(hΦ:SpB e Φ dep){a r:Nat}{N:Nd}{m:Int×Int}{rc:Rc}{draw:Int}(I:qd N m)(hN:N.1.length+1<=a)(har:a+r<=64)(h3:3<=r)(hr:Hw rc (dep+1))(hd:0<=draw/\draw<=9000000000):
  ∃(g:Gm) (a' r':Nat) (N':Nd) (m':Int×Int),(∀A:Addr×Addr,nP Φ [cD e,.int ((dep+1:Nat):Int),rcD rc,.int draw] (stD e A a r) (A.1,nD N) (A.2,mD m)=.ok (dG g,stD e A a' r',nD N',mD m'))/\qd N' m'/\Sub N N'/\N'.1.length<=a'/\r'+szG g=r+1/\a'+r'=a+r/\Grw e N' rc g (dep+1):=by
 obtain ⟨cN,hcN⟩:∃cN:Nat,(cN:Int)=1+draw / 16 % 3:=⟨(1+draw / 16 % 3).toNat,by omega⟩
 have hs:1+draw % 2=1\/1+draw % 2=2:=by omega
 have hpr:Pr (rQ rc (1+draw % 2))/\jx (rQ rc (1+draw % 2))=true:=by
  unfold rQ
  split
  ·exact ⟨hr.1,hr.2.2.1⟩
  ·exact ⟨hr.2.1,hr.2.2.2.1⟩
 have hsz:N.1.length<1000:=by omega
 obtain ⟨n,N1,m1,en,n0,nv,I1,S1,l1⟩:=O9 (e:=e) (a:=a) (r:=r) (c:=(cN:Int)) (b:=draw / 48 % 2) I hs hpr.1 hsz
 have W:=λA:Addr×Addr=>Ua (A:=A) (φs:=bN) (φn:=cB) (L:=nj Φ) (DP:=((dep+1:Nat):Int)) E rfl hcN rfl (en A)
 by_cases h8:8<=n
 ·obtain ⟨q,eq,hq⟩:=zr (x:=draw) hd
  exact ⟨.fin (rq q),a,r,N1,m1,λA=>(W A).1 h8 _ eq,I1,S1,by omega,rfl,rfl,Nb hq⟩
 ·have h8':n<8:=by omega
  have hsub:(r:Int) - (cN:Int)=((r - cN:Nat):Int):=by omega
  have t0:=E.t0
  obtain ⟨L,a',r',N',m',t11,t12,t13,eL,j1,j2,j3,j4,j5,j6,j7⟩:=Mh E hΦ (rc:=rc) (draw:=draw) (cc:=(cN:Int)) (seen:=nameAt e n) hr hs ⟨n0,h8'⟩ (yG E _ (by omega)) cN 0 a (r - cN) N1 m1 [] .un .un .un I1 (by omega) (by omega) (by omega) (by simp; omega)
  have hL:L.length=cN:=by
   have:=congrArg List.length j6
   simpa using this
  have eL2:∀A:Addr×Addr,nj Φ (mvM e A a ((r:Int) - (cN:Int)) N1 m1 rc ((dep+1:Nat):Int) draw (1+draw % 2) (cN:Int) n (nameAt e n) [] .un .un .un)=.ok (.nx,mvM e A a' r' N' m' rc ((dep+1:Nat):Int) draw (1+draw % 2) (cN:Int) n (nameAt e n) (L.map Ka) t11 t12 t13):=λA=>by
   have e1:(aj (ak 6) aA) (mvM e A a ((r:Int) - (cN:Int)) N1 m1 rc ((dep+1:Nat):Int) draw (1+draw % 2) (cN:Int) n (nameAt e n) [] .un .un .un)=.ok [.int (cN:Int)]:=by simp [mvM,aj,aA,ak]
   have e2:=Ky e1 (by omega) (by omega)
   unfold nj jD
   rw [e2]
   show bW (hName 11) (iD Φ) ((List.range cN).map λ(k:Nat)=>D.int k) _=_
   rw [List.range_eq_range',hsub]
   exact eL A
  have hw:=λA:Addr×Addr=>(W A).2 n0 h8' a' r' N' m' (L.map Ka) t11 t12 t13 (by simp; omega) (eL2 A)
  refine ⟨.move (1+draw % 2) (nameAt e n) (ofL L),a',r',N',m',λA=>?_,j1,S1.trans j2,j3,?_,by omega,Q8 hs (by omega) j7 ?_⟩
  ·have:dG (.move (1+draw % 2) (nameAt e n) (ofL L))=.tup [.str "move",.int (1+draw % 2),.str (nameAt e n),.tup (L.map Ka)]:=by
    show D.tup [_,_,_,.tup (dWs (ofL L))]=_
    rw [Jf]; rfl
   rw [this]
   exact hw A
  ·show r'+(szW (ofL L)+1)=r+1
   rw [JR]; omega
  ·refine ⟨rQ rc (1+draw % 2),cN,draw / 48 % 2,n,hpr.1,hpr.2,j2 _ _ nv,n0,h8',by omega,rfl,?_⟩
   show D.tup [_,_,.tup (eV (ofL L)),_]=_
   rw [Dp,j6,List.range_eq_range']
noncomputable def bm (e:En)(A:Addr×Addr)(a r:Int)(N:Nd)(m:Int×Int)(rc:Rc)(dep:Int)(s4 s5 s6 s7 s8 s9:Sl):Me:=
 [.fz (cD e),.io (stD e A a r),.fz (.int dep),.fz (rcD rc),s4,s5,s6,s7,s8,s9,.hd false A.1 (nD N),.hd false A.2 (mD m)]
theorem dl_step {e:En}{Φ:Bf}{dep:Nat}(hΦ:SpB e Φ dep){a r:Nat}{N:Nd}{m:Int×Int}{rc:Rc}{s4 s5 s6 s7:Sl}{l:D}{ways:List D}(I:qd N m)(hN:N.1.length<=a)(har:a+r<=63)(hr:Hw rc (dep+1))(hw:ways.length<=100):
  ∃(g:Gm) (a' r':Nat) (N':Nd) (m':Int×Int),(∀A:Addr×Addr,lH Φ (bm e A a r N m rc (dep+1:Nat) s4 s5 s6 s7 (.ow (.lst ways)) (.fz l))=.ok (.nx,bm e A a' r' N' m' rc (dep+1:Nat) s4 s5 s6 s7 (.ow (.lst (ways++[.tup [l,dG g]]))) (.fz l)))/\
   qd N' m'/\Sub N N'/\N'.1.length<=a'/\r'+szG g=r+1/\a'+r'=a+r+1/\Grw e N' rc g dep:=by
 obtain ⟨h1,h2,h3,h4,h5,h6⟩:=hr
 obtain ⟨g,a',r',N',m',e1,i1,i2,i3,i4,i5,i6⟩:=hΦ a r N m rc I hN har ⟨h1,h2,h3,h4,by omega,by omega⟩
 refine ⟨g,a',r',N',m',λA=>?_,i1,i2,i3,i4,i5,i6⟩
 have e1:Φ [cD e,.int (dep:Int),rcD rc] (stD e A a r) (A.1,nD N) (A.2,mD m)=.ok (dG g,stD e A a' r',nD N',mD m'):=e1 A
 have z3:ways.length<16777216:=by omega
 have ed:((dep+1:Nat):Int) - 1=(dep:Int):=by omega
 simp only [bm]
 generalize hst:stD e A a r=ST at *
 generalize hst':stD e A (a':Int) (r':Int)=ST' at *
 generalize cD e=C at *
 generalize nD N=NN at *
 generalize nD N'=NN' at *
 generalize mD m=MM at *
 generalize mD m'=MM' at *
 generalize rcD rc=RC at *
 generalize hdp:((dep+1:Nat):Int)=DP at *
 simp [lH,ql,pU,putL,CP,sX,fX,aH,uQ,Gq,vB,aj,aA,au,ak,fC,F.gC,ed,e1,yF,Cr,z3]
theorem M5 {e:En}{Φ:Bf}{dep:Nat}(hΦ:SpB e Φ dep){rc:Rc}{s4 s5 s6 s7:Sl}(hr:Hw rc (dep+1)):
  ∀(ls:List D) (a r:Nat) (N:Nd) (m:Int×Int) (ways:List D) (s9:Sl),qd N m->N.1.length<=a->a+r+ls.length<=64->ways.length+ls.length<=100->
  ∃(L:List (D×Gm)) (a' r':Nat) (N':Nd) (m':Int×Int) (t9:Sl),(∀A:Addr×Addr,bW (hName 9) (lH Φ) ls (bm e A a r N m rc (dep+1:Nat) s4 s5 s6 s7 (.ow (.lst ways)) s9)=.ok (.nx,bm e A a' r' N' m' rc (dep+1:Nat) s4 s5 s6 s7 (.ow (.lst (ways++L.map Ka))) t9))/\
   qd N' m'/\Sub N N'/\N'.1.length<=a'/\r'+szL L=r+ls.length/\a'+r'=a+r+ls.length/\L.map (·.1)=ls/\∀p∈L,Grw e N' rc p.2 dep
 |[],a,r,N,m,ways,s9,I,hN,har,hw=>⟨[],a,r,N,m,s9,λA=>by simp [bW],I,Sub.refl N,hN,by simp [szL],by simp,rfl,λ_ z=>by cases z⟩
 |l::ls,a,r,N,m,ways,s9,I,hN,har,hw=>by
  have har':a+r+(ls.length+1)<=64:=har
  have hw':ways.length+(ls.length+1)<=100:=hw
  obtain ⟨g,a1,r1,N1,m1,e1,i1,i2,i3,i4,i5,i6⟩:=dl_step hΦ (a:=a) (r:=r) (s4:=s4) (s5:=s5) (s6:=s6) (s7:=s7) (l:=l) I hN (by omega) hr (by omega:ways.length<=100)
  obtain ⟨L,a',r',N',m',u9,e2,j1,j2,j3,j4,j5,j6,j7⟩:=M5 hΦ (s4:=s4) (s5:=s5) (s6:=s6) (s7:=s7) hr ls a1 r1 N1 m1 (ways++[.tup [l,dG g]]) (.fz l) i1 i3 (by omega) (by simp; omega)
  refine ⟨(l,g)::L,a',r',N',m',u9,λA=>?_,j1,i2.trans j2,j3,?_,by simp; omega,by rw [List.map_cons,j6],λp hp=>?_⟩
  ·rw [bT (m1:=bm e A a r N m rc (dep+1:Nat) s4 s5 s6 s7 (.ow (.lst ways)) (.fz l)) rfl (e1 A),e2 A,List.append_assoc]
   rfl
  ·show r'+(szG g+szL L)=r+(ls.length+1)
   omega
  ·rcases List.mem_cons.mp hp with q | q
   ·rw [q]; exact i6.mono j2
   ·exact j7 p q
open PySem L2 Hd F Pk
theorem Oq {e:En}(E:oM e):∃v:Int,atI (e.cells.map D.int) (-1)=some (.int v):=by
 have h:=E.c1
 have hne:e.cells≠[]:=λz=>by rw [z] at h; simp at h
 refine ⟨e.cells.getLast hne,?_⟩
 have:=QV (e.cells.dropLast.map D.int) (D.int (e.cells.getLast hne))
 rwa [← List.map_singleton,← List.map_append,List.dropLast_concat_getLast hne] at this
theorem IK {e:En}{i:Nat}(h:i<e.cells.length):∃v:Int,atI (e.cells.map D.int) (i:Int)=some (.int v):=by
 refine ⟨e.cells[i],pN ?_⟩
 rw [List.getElem?_map,List.getElem?_eq_getElem h]
 rfl
theorem Ub {e:En}{i:Int}(h0:0<=i)(h:i<e.cells.length):∃v:Int,atI (e.cells.map D.int) i=some (.int v):=by
 obtain ⟨v,hv⟩:=IK (e:=e) (i:=i.toNat) (by omega)
 exact ⟨v,by rwa [show ((i.toNat:Nat):Int)=i by omega] at hv⟩
section
variable {e:En}{A:Addr×Addr}{a r dep:Nat}{N:Nd}{m:Int×Int}{rc:Rc}
theorem bs1 (k:Me->Res (Fl×Me)):aK (bu 4 (au bR (ak 1) (fC (.str "at")))) k (bm e A a r N m rc dep .un .un .un .un .un .un)=k (bm e A a r N m rc dep (.fz (.int a)) .un .un .un .un .un):=gs (by
 have g:=abk e A a r
 simp [bm,bu,au,ak,fC,g])
theorem bs2 (k:Me->Res (Fl×Me)):aK (lL 1 (fC (.str "at")) (au cF (ak 4) (fC (.int 1)))) k (bm e A a r N m rc dep (.fz (.int a)) .un .un .un .un .un)=k (bm e A (a+1:Nat) r N m rc dep (.fz (.int a)) .un .un .un .un .un):=gs (by
 have:=aan (e:=e) (A:=A) (a:=a) (r:=r) (a':=((a+1:Nat):Int)) (fk:=fC (.str "at")) (fv:=au cF (ak 4) (fC (.int 1))) (i:=1) (m:=bm e A a r N m rc dep (.fz (.int a)) .un .un .un .un .un) rfl rfl (by simp [bm,au,ak,fC,cF])
 exact this)
theorem bs3 (E:oM e)(ha:a<=64)(h:e.cells.length<=a):∃q:Rat,smQ (rq q)/\∀(A:Addr×Addr) k,aK (gIf (aM gGe (ak 4) (aW iU (aj (ak 0) aA))) (bD (aU (aj (fC (.str "end")) (aj (fFn bN (aj (fFn cW (aj (au cF (au gIx (ak 0) (fUn uc (fC (.int 1)))) (au lM (ak 4) (ak 4))) (aj (aH 4) aA))) aA)) aA)))) gNx) k (bm e A (a+1:Nat) r N m rc dep (.fz (.int a)) .un .un .un .un .un)=.ok (.rt false (dG (.fin (rq q))),bm e A (a+1:Nat) r N m rc dep (.fz (.int a)) .un .un .un .un .un):=by
 obtain ⟨v,hv⟩:=Oq E
 obtain ⟨x,ex,hx⟩:=Kw (v+(a:Int) * a) a (by omega)
 obtain ⟨q,eq,hq⟩:=zr (x:=x) ⟨hx.1,by have:=hx.2; omega⟩
 refine ⟨q,hq,λA k=>KN ?_⟩
 have ba:Bg (a:Int):=bgS (by omega)
 have hge:(a:Int) ≥ (e.cells.length:Int):=by omega
 have en:-(1:Int)=-1:=rfl
 show _=Res.ok (Fl.rt false (.tup [.str "end",rD q]),_)
 simp only [bm]
 generalize stD e A ((a+1:Nat):Int) (r:Int)=ST
 generalize bN=FS at *
 generalize cW=FM at *
 simp [cD,gIf,aM,ak,aW,iU,aj,aA,gGe,hge,bD,Me.let,Sl.let,aU,fC,fFn,au,fUn,uc,gIx,hv,lM,ba,cF,aH,ex,eq]
theorem Z1 (k:Me->Res (Fl×Me)){X:Me->Res (Fl×Me)}(h:a<e.cells.length):aK (gIf (aM gGe (ak 4) (aW iU (aj (ak 0) aA))) X gNx) k (bm e A (a+1:Nat) r N m rc dep (.fz (.int a)) .un .un .un .un .un)=k (bm e A (a+1:Nat) r N m rc dep (.fz (.int a)) .un .un .un .un .un):=gs (by
 have hge:¬(a:Int) ≥ (e.cells.length:Int):=by omega
 simp only [bm]
 generalize stD e A ((a+1:Nat):Int) (r:Int)=ST
 simp [cD,gIf,aM,ak,aW,iU,aj,aA,gGe,hge,gNx])
theorem bs4 (h:a<e.cells.length)(ha:a<=64):∃x,sm x/\∀(A:Addr×Addr) k,aK (bu 5 (fFn cW (aj (au gIx (ak 0) (ak 4)) (aj (aH 4) aA)))) k (bm e A (a+1:Nat) r N m rc dep (.fz (.int a)) .un .un .un .un .un)=k (bm e A (a+1:Nat) r N m rc dep (.fz (.int a)) (.fz (.int x)) .un .un .un .un):=by
 obtain ⟨v,hv⟩:=IK h
 obtain ⟨x,ex,hx⟩:=Kw v a (by omega)
 refine ⟨x,hx,λA k=>gs ?_⟩
 simp only [bm]
 generalize stD e A ((a+1:Nat):Int) (r:Int)=ST
 generalize cW=FM at *
 simp [cD,bu,fFn,aj,aA,au,gIx,ak,aH,hv,ex]
theorem bs5 (k:Me->Res (Fl×Me)){x:Int}:aK (bu 6 (aH 5)) k (bm e A (a+1:Nat) r N m rc dep (.fz (.int a)) (.fz (.int x)) .un .un .un .un)=k (bm e A (a+1:Nat) r N m rc dep (.fz (.int a)) (.fz (.int x)) (.fz (.int x)) .un .un .un):=gs rfl
theorem bs6 (E:oM e)(hd:dep<=12){x:Int}(hx:sm x):∃y:Int,(0<=y/\y<=9000000000)/\∀(A:Addr×Addr) k,aK (gIf (fTv (au bR (ak 1) (fC (.str "level")))) (bu 6 (au cF (au gC (ak 5) (au bO (ak 5) (fC (.int 48)))) (au bO (fFn cW (aj (au gIx (ak 0) (au bO (ak 2) (aW iU (aj (ak 0) aA)))) (aj (aH 2) aA))) (fC (.int 48))))) gNx) k (bm e A (a+1:Nat) r N m rc dep (.fz (.int a)) (.fz (.int x)) (.fz (.int x)) .un .un .un)=k (bm e A (a+1:Nat) r N m rc dep (.fz (.int a)) (.fz (.int x)) (.fz (.int y)) .un .un .un):=by
 have gl:=λA:Addr×Addr=>RM e A ((a+1:Nat):Int) r
 cases hl:e.lev with
 |false=>
  rw [hl] at gl
  refine ⟨x,⟨hx.1,by have:=hx.2; omega⟩,λA k=>gs ?_⟩
  replace gl:=gl A
  simp only [bm]
  generalize stD e A ((a+1:Nat):Int) (r:Int)=ST at *
  simp [gIf,fTv,au,ak,fC,gl,gNx]
 |true=>
  rw [hl] at gl
  have hc:=E.c1
  have hpos:(0:Int)<(e.cells.length:Int):=by omega
  obtain ⟨v,hv⟩:=Ub (e:=e) (i:=(dep:Int) % (e.cells.length:Int)) (Int.emod_nonneg _ (by omega)) (Int.emod_lt_of_pos _ hpos)
  obtain ⟨y,ey,hy⟩:=Kw v dep (by omega)
  have hne:(e.cells.length:Int)≠0:=by omega
  have hne2:e.cells.length≠0:=by omega
  have hne3:e.cells≠[]:=λz=>by rw [z] at hc; simp at hc
  have hc':0<e.cells.length:=by omega
  refine ⟨x - x % 48+y % 48,⟨by have:=hx.1; omega,by have:=hx.2; omega⟩,λA k=>gs ?_⟩
  replace gl:=gl A
  simp only [bm]
  generalize stD e A ((a+1:Nat):Int) (r:Int)=ST at *
  generalize cW=FM at *
  simp [cD,gIf,fTv,au,ak,fC,gl,bu,bO,mdI,cF,F.gC,fFn,aj,aA,gIx,aW,iU,hne,hne2,hne3,hpos,hc',hv,aH,ey]
end
open PySem L2 Hd F Pk
section
variable {e:En}{A:Addr×Addr}{a r dep:Nat}{N:Nd}{m:Int×Int}{rc:Rc}{x y:Int}
noncomputable abbrev xZ:Me->Res Bool:=(pC (aM gEq (ak 2) (fC (.int 0))) (pC (aM gLt (au bR (ak 1) (fC (.str "room"))) (fC (.int 3))) (sJ (aM gEq (au bO (ak 6) (fC (.int 8))) (fC (.int 0))) (aM gGt (ak 4) (fC (.int 0))))))
theorem c7:xZ (bm e A (a+1:Nat) r N m rc dep (.fz (.int a)) (.fz (.int x)) (.fz (.int y)) .un .un .un)=.ok (decide (dep=0\/r<3\/(y % 8=0/\0<a))):=by
 have gr:=Dt e A ((a+1:Nat):Int) r
 simp only [bm]
 generalize stD e A ((a+1:Nat):Int) (r:Int)=ST at *
 by_cases h1:dep=0
 ·simp [xZ,pC,aM,ak,fC,h1]
 ·have h1':¬(dep:Int)=0:=by omega
  by_cases h2:r<3
  ·have h2':(r:Int)<3:=by omega
   simp [xZ,pC,aM,ak,fC,h1,h1',au,gr,gLt,h2,h2']
  ·have h2':¬(r:Int)<3:=by omega
   by_cases h3:y % 8=0
   ·have h3':y.emod 8=0:=h3
    by_cases h4:0<a
    ·have h4':(a:Int) > 0:=by omega
     simp [xZ,pC,sJ,aM,ak,fC,h1,h1',au,gr,gLt,h2,h2',bO,mdI,h3,gGt,h4,h4']
    ·have h4':¬(a:Int) > 0:=by omega
     simp [xZ,pC,sJ,aM,ak,fC,h1,h1',au,gr,gLt,h2,h2',bO,mdI,h3,gGt,h4,h4']
   ·simp [xZ,pC,sJ,aM,ak,fC,h1,h1',au,gr,gLt,h2,h2',bO,mdI,h3]
theorem bs7 (hx:sm x)(h:dep=0\/r<3\/(y % 8=0/\0<a)):∃q:Rat,smQ (rq q)/\∀(A:Addr×Addr) k,aK (gIf xZ (bD (aU (aj (fC (.str "end")) (aj (fFn bN (aj (aH 5) aA)) aA)))) gNx) k (bm e A (a+1:Nat) r N m rc dep (.fz (.int a)) (.fz (.int x)) (.fz (.int y)) .un .un .un)=.ok (.rt false (dG (.fin (rq q))),bm e A (a+1:Nat) r N m rc dep (.fz (.int a)) (.fz (.int x)) (.fz (.int y)) .un .un .un):=by
 obtain ⟨q,eq,hq⟩:=zr (x:=x) ⟨hx.1,by have:=hx.2; omega⟩
 refine ⟨q,hq,λA k=>KN ?_⟩
 have c:=c7 (e:=e) (A:=A) (a:=a) (r:=r) (dep:=dep) (N:=N) (m:=m) (rc:=rc) (x:=x) (y:=y)
 rw [decide_eq_true h] at c
 unfold gIf
 rw [c]
 show bD _ _=Res.ok (Fl.rt false (.tup [.str "end",rD q]),_)
 simp only [bm]
 generalize stD e A ((a+1:Nat):Int) (r:Int)=ST
 generalize bN=FS at *
 simp [bD,Me.let,Sl.let,aU,aj,aA,fC,fFn,aH,eq]
theorem aa8 (k:Me->Res (Fl×Me)){X:Me->Res (Fl×Me)}(h:¬(dep=0\/r<3\/(y % 8=0/\0<a))):aK (gIf xZ X gNx) k (bm e A (a+1:Nat) r N m rc dep (.fz (.int a)) (.fz (.int x)) (.fz (.int y)) .un .un .un)=k (bm e A (a+1:Nat) r N m rc dep (.fz (.int a)) (.fz (.int x)) (.fz (.int y)) .un .un .un):=gs (by
 have c:=c7 (e:=e) (A:=A) (a:=a) (r:=r) (dep:=dep) (N:=N) (m:=m) (rc:=rc) (x:=x) (y:=y)
 rw [decide_eq_false h] at c
 unfold gIf
 rw [c]
 rfl)
theorem bs8 (h:y % 8 > 2){Ψ:Bf}{d:D}{a' r':Nat}{N':Nd}{m':Int×Int}(eΨ:Ψ [cD e,.int (dep:Int),rcD rc,.int y] (stD e A (a+1:Nat) r) (A.1,nD N) (A.2,mD m)=.ok (d,stD e A a' r',nD N',mD m'))(k:Me->Res (Fl×Me)):
  aK (gIf (aM gGt (au bO (ak 6) (fC (.int 8))) (fC (.int 2))) (uC (uQ Ψ 1 1 10 11 (aj (aH 0) (aj (aH 2) (aj (aH 3) (aj (aH 6) aA)))))) gNx) k (bm e A (a+1:Nat) r N m rc dep (.fz (.int a)) (.fz (.int x)) (.fz (.int y)) .un .un .un)=.ok (.rt false d,bm e A a' r' N' m' rc dep (.fz (.int a)) (.fz (.int x)) (.fz (.int y)) .un .un .un):=KN (by
 simp only [bm]
 generalize stD e A ((a+1:Nat):Int) (r:Int)=ST at *
 generalize stD e A (a':Int) (r':Int)=ST' at *
 generalize cD e=C at *
 generalize nD N=NN at *
 generalize nD N'=NN' at *
 generalize mD m=MM at *
 generalize mD m'=MM' at *
 generalize rcD rc=RC at *
 simp [gIf,aM,au,ak,fC,bO,mdI,gGt,h,uC,uQ,Gq,vB,aj,aA,aH,eΨ,yF])
theorem acj (h:¬y % 8 > 2){X:Me->Res (Fl×Me)}(k:Me->Res (Fl×Me)):
  aK (gIf (aM gGt (au bO (ak 6) (fC (.int 8))) (fC (.int 2))) X gNx) k (bm e A (a+1:Nat) r N m rc dep (.fz (.int a)) (.fz (.int x)) (.fz (.int y)) .un .un .un)=k (bm e A (a+1:Nat) r N m rc dep (.fz (.int a)) (.fz (.int x)) (.fz (.int y)) .un .un .un):=gs (by
 simp only [bm]
 generalize stD e A ((a+1:Nat):Int) (r:Int)=ST at *
 simp [gIf,aM,au,ak,fC,bO,mdI,gGt,h,gNx])
theorem bs9 {c:Int}(hc:c=1+y / 16 % 3)(k:Me->Res (Fl×Me)):aK (bu 7 (au cF (fC (.int 1)) (au bO (au eQ (ak 6) (fC (.int 16))) (fC (.int 3))))) k (bm e A (a+1:Nat) r N m rc dep (.fz (.int a)) (.fz (.int x)) (.fz (.int y)) .un .un .un)=k (bm e A (a+1:Nat) r N m rc dep (.fz (.int a)) (.fz (.int x)) (.fz (.int y)) (.fz (.int c)) .un .un):=gs (by
 have b16:Bg 16:=bgS (by decide)
 simp only [bm]
 generalize stD e A ((a+1:Nat):Int) (r:Int)=ST at *
 simp [bu,au,ak,fC,bO,mdI,cF,eQ,dvI,b16,hc])
theorem acI {c:Int}{r1:Nat}(hr:(r:Int) - c=r1)(k:Me->Res (Fl×Me)):aK (lL 1 (fC (.str "room")) (au gC (au bR (ak 1) (fC (.str "room"))) (ak 7))) k (bm e A (a+1:Nat) r N m rc dep (.fz (.int a)) (.fz (.int x)) (.fz (.int y)) (.fz (.int c)) .un .un)=k (bm e A (a+1:Nat) r1 N m rc dep (.fz (.int a)) (.fz (.int x)) (.fz (.int y)) (.fz (.int c)) .un .un):=gs (by
 have gr:=Dt e A ((a+1:Nat):Int) r
 have:=HQ (e:=e) (A:=A) (a:=((a+1:Nat):Int)) (r:=r) (r':=(r1:Int)) (fk:=fC (.str "room")) (fv:=au gC (au bR (ak 1) (fC (.str "room"))) (ak 7)) (i:=1) (m:=bm e A (a+1:Nat) r N m rc dep (.fz (.int a)) (.fz (.int x)) (.fz (.int y)) (.fz (.int c)) .un .un) rfl rfl (by simp only [bm]; generalize stD e A ((a+1:Nat):Int) (r:Int)=ST at *; simp [au,ak,fC,gr,F.gC,hr])
 exact this)
theorem acu {c:Int}(k:Me->Res (Fl×Me)):aK (jE 8 (gM aA)) k (bm e A (a+1:Nat) r N m rc dep (.fz (.int a)) (.fz (.int x)) (.fz (.int y)) (.fz (.int c)) .un .un)=k (bm e A (a+1:Nat) r N m rc dep (.fz (.int a)) (.fz (.int x)) (.fz (.int y)) (.fz (.int c)) (.ow (.lst [])) .un):=gs rfl
theorem ack (E:oM e){ws:List D}{s4 s6 s7 s9:Sl}(hw:ws.length<=100):bD (aU (aj (fC (.str "deal")) (aj (au gIx (au bR (ak 1) (fC (.str "pool"))) (au bO (au eQ (ak 5) (fC (.int 48))) (fC (.int 8)))) (aj (aW gP (aj (ak 8) aA)) aA)))) (bm e A a r N m rc dep s4 (.fz (.int y)) s6 s7 (.ow (.lst ws)) s9)=.ok (.rt false (.tup [.str "deal",.str (e.pool.getD (y / 48 % 8).toNat ⟨#[]⟩),.tup ws]),Me.let (bm e A a r N m rc dep s4 (.fz (.int y)) s6 s7 (.ow (.lst ws)) s9)):=by
 have gp:=KH e A a r
 have pa:=vz E (i:=y / 48 % 8) (by omega)
 have b48:Bg 48:=bgS (by decide)
 have z1:ws.length<=16777216:=by omega
 generalize e.pool.getD (y / 48 % 8).toNat ⟨#[]⟩=Z at *
 simp only [bm]
 generalize stD e A (a:Int) (r:Int)=ST at *
 simp [bD,Me.let,Sl.let,aU,aj,aA,fC,au,ak,gp,gIx,bO,mdI,eQ,dvI,b48,pa,aW,gP,z1]
end
theorem wJ {e:En}{A:Addr×Addr}{a r:Int}{N:Nd}{m:Int×Int}{rc:Rc}{dep:Int}{s4 s5 s6 s7 s8 s9:Sl}:qp (bm e A a r N m rc dep s4 s5 s6 s7 s8 s9) 1=some (stD e A a r)/\lW (bm e A a r N m rc dep s4 s5 s6 s7 s8 s9) (12 - 2) A.1=some (nD N)/\lW (bm e A a r N m rc dep s4 s5 s6 s7 s8 s9) (12 - 1) A.2=some (mD m):=⟨rfl,by simp [bm,lW],by simp [bm,lW]⟩
theorem Eu {e:En}{A:Addr×Addr}{a r:Int}{N:Nd}{m:Int×Int}{rc:Rc}{dep:Int}{s4 s5 s6 s7 s8 s9:Sl}:qp (Me.let (bm e A a r N m rc dep s4 s5 s6 s7 s8 s9)) 1=some (stD e A a r)/\lW (Me.let (bm e A a r N m rc dep s4 s5 s6 s7 s8 s9)) (12 - 2) A.1=some (nD N)/\lW (Me.let (bm e A a r N m rc dep s4 s5 s6 s7 s8 s9)) (12 - 1) A.2=some (mD m):=⟨rfl,by simp [bm,lW,Me.let,Sl.let],by simp [bm,lW,Me.let,Sl.let]⟩
theorem V7 {FS:List D->Res (Bool×D)}{B:Me->Res (Fl×Me)}{e:En}{A:Addr×Addr}{a r:Int}{N:Nd}{m:Int×Int}{rc:Rc}{dep:Int}{s4 s6 s8 s9:Sl}{x c:D}{ls:List D}{R:Res (Fl×Me)}(h:FS [x,c]=.ok (true,.lst ls))(k:bW (hName 9) B ls (bm e A a r N m rc dep s4 (.fz x) s6 (.fz c) s8 s9)=R):
  jD (fO (fFn FS (aj (aH 5) (aj (aH 7) aA)))) (hName 9) B (bm e A a r N m rc dep s4 (.fz x) s6 (.fz c) s8 s9)=R:=by
 have e1:fO (fFn FS (aj (aH 5) (aj (aH 7) aA))) (bm e A a r N m rc dep s4 (.fz x) s6 (.fz c) s8 s9)=.ok ls:=by
  simp only [bm]
  generalize stD e A a r=ST
  simp [fO,fFn,aj,aA,aH,h]
 unfold jD
 rw [e1]
 exact k
theorem Jq (n:Nat):bf (n+1)=F.runST 1 12 4 (dU bN cW (bf n) (gF (bf n))):=by rw [bf]
theorem Js {e:En}(E:oM e){n dep:Nat}(hd:dep<=12)(ih:∀d,d+1=dep->SpB e (bf n) d):SpB e (bf (n+1)) dep:=by
 rw [Jq]
 intro a r N m rc I hN har hr
 have start:∀A:Addr×Addr,lX 1 (.io (stD e A a r)) ([cD e,.int (dep:Int),rcD rc].map Sl.fz)++(List.replicate (12 - 4 - 2) Sl.un++[.hd false (A.1,nD N).1 (A.1,nD N).2,.hd false (A.2,mD m).1 (A.2,mD m).2])=bm e A a r N m rc dep .un .un .un .un .un .un:=λ_=>rfl
 have fin:∀(q:Rat) (s4 s5 s6 s7 s8 s9:Sl),smQ (rq q)->(∀A:Addr×Addr,(dU bN cW (bf n) (gF (bf n))) (bm e A a r N m rc dep .un .un .un .un .un .un)=.ok (.rt false (dG (.fin (rq q))),bm e A (a+1:Nat) r N m rc dep s4 s5 s6 s7 s8 s9))->Gives e (λA=>F.runST 1 12 4 (dU bN cW (bf n) (gF (bf n))) [cD e,.int (dep:Int),rcD rc] (stD e A a r) (A.1,nD N) (A.2,mD m)) a r N rc dep:=λq s4 s5 s6 s7 s8 s9 hq eq=>
  ⟨.fin (rq q),a+1,r,N,m,λA=>zW rfl (start A) (eq A) wJ.1 wJ.2.1 wJ.2.2,I,Sub.refl N,by omega,rfl,by omega,Nb hq⟩
 by_cases h1:e.cells.length<=a
 ·obtain ⟨q,hq,eq⟩:=bs3 (r:=r) (N:=N) (m:=m) (rc:=rc) (dep:=dep) E (by omega) h1
  refine fin q (.fz (.int a)) .un .un .un .un .un hq λA=>?_
  unfold dU
  rw [bs1,bs2,eq]
 have h1:a<e.cells.length:=by omega
 obtain ⟨x,hx,e4⟩:=bs4 (r:=r) (N:=N) (m:=m) (rc:=rc) (dep:=dep) h1 (by omega)
 obtain ⟨y,hy,e6⟩:=bs6 (a:=a) (r:=r) (N:=N) (m:=m) (rc:=rc) E hd hx
 by_cases h7:dep=0\/r<3\/(y % 8=0/\0<a)
 ·obtain ⟨q,hq,eq⟩:=bs7 (e:=e) (N:=N) (m:=m) (rc:=rc) hx h7
  refine fin q (.fz (.int a)) (.fz (.int x)) (.fz (.int y)) .un .un .un hq λA=>?_
  unfold dU
  rw [bs1,bs2,Z1 _ h1,e4,bs5,e6,eq]
 obtain ⟨dep,rfl⟩:∃d,dep=d+1:=⟨dep - 1,by omega⟩
 have hΦ:=ih dep rfl
 by_cases h8:y % 8 > 2
 ·obtain ⟨g,a',r',N',m',em,j1,j2,j3,j4,j5,j6⟩:=Ww E hΦ (a:=a+1) (r:=r) (draw:=y) I (by omega) (by omega) (by omega) hr hy
  refine ⟨g,a',r',N',m',λA=>zW (fr:=false) (m':=bm e A a' r' N' m' rc ((dep+1:Nat):Int) (.fz (.int a)) (.fz (.int x)) (.fz (.int y)) .un .un .un) rfl (start A) ?_ wJ.1 wJ.2.1 wJ.2.2,j1,j2,j3,j4,by omega,j6⟩
  unfold dU
  rw [bs1,bs2,Z1 _ h1,e4,bs5,e6,aa8 _ h7,bs8 h8 (em A)]
 obtain ⟨cN,hcN⟩:∃cN:Nat,(cN:Int)=1+y / 16 % 3:=⟨(1+y / 16 % 3).toNat,by omega⟩
 obtain ⟨l,el,hl,hl2,hl3⟩:=Je (x:=x) (c:=cN) hx (by omega)
 obtain ⟨L,a',r',N',m',t9,eL,j1,j2,j3,j4,j5,j6,j7⟩:=M5 hΦ (rc:=rc) (s4:=.fz (.int a)) (s5:=.fz (.int x)) (s6:=.fz (.int y)) (s7:=.fz (.int (cN:Int))) hr (l.map rD) (a+1) (r - cN) N m [] .un I (by omega) (by simp; omega) (by simp; omega)
 rw [List.length_map,hl2] at j4 j5
 have hL:L.length=cN:=by
  have:=congrArg List.length j6
  simpa [hl2] using this
 have eL2:∀A:Addr×Addr,gF (bf n) (bm e A (a+1:Nat) (r - cN:Nat) N m rc ((dep+1:Nat):Int) (.fz (.int a)) (.fz (.int x)) (.fz (.int y)) (.fz (.int (cN:Int))) (.ow (.lst [])) .un)=.ok (.nx,bm e A a' r' N' m' rc ((dep+1:Nat):Int) (.fz (.int a)) (.fz (.int x)) (.fz (.int y)) (.fz (.int (cN:Int))) (.ow (.lst (L.map Ka))) t9):=λA=>by
  unfold gF
  exact V7 el (eL A)
 refine ⟨.deal (e.pool.getD (x / 48 % 8).toNat ⟨#[]⟩) (ofL L),a',r',N',m',λA=>zW (fr:=false) (m':=Me.let (bm e A a' r' N' m' rc ((dep+1:Nat):Int) (.fz (.int a)) (.fz (.int x)) (.fz (.int y)) (.fz (.int (cN:Int))) (.ow (.lst (L.map Ka))) t9)) rfl (start A) ?_ Eu.1 Eu.2.1 Eu.2.2,j1,j2,j3,?_,by omega,Q0 (by omega) j7 ?_ ?_⟩
 ·unfold dU
  rw [bs1,bs2,Z1 _ h1,e4,bs5,e6,aa8 _ h7,acj h8,bs9 hcN,acI (r1:=r - cN) (by omega),acu,gs (eL2 A),ack E (by simp; omega)]
  show _=Res.ok (Fl.rt false (D.tup [_,_,.tup (dWs (ofL L))]),_)
  rw [Jf]; rfl
 ·show r'+(szW (ofL L)+1)=r+1
  rw [JR]; omega
 ·exact ⟨l,by rw [Dp,j6],hl,by omega,hl3⟩
 ·have hlt:(x / 48 % 8).toNat<e.pool.length:=by rw [E.p8]; omega
  rw [List.getD_eq_getElem?_getD,List.getElem?_eq_getElem hlt]
  exact List.getElem_mem hlt
theorem Io {e:En}(E:oM e):∀(n dep:Nat),dep+1<=n->dep<=12->SpB e (bf n) dep
 |0,dep,h,_=>by omega
 |n+1,dep,h,hd=>Js E hd λd hd'=>Io E n d (by omega) (by omega)
open PySem L2 Hd F Pk
theorem getD_inj {l:List Str}(nd:l.Nodup){i j:Nat}{d:Str}(hi:i<l.length)(hj:j<l.length)(h:l.getD i d=l.getD j d):i=j:=by
 rw [List.getD_eq_getElem?_getD,List.getD_eq_getElem?_getD,List.getElem?_eq_getElem hi,List.getElem?_eq_getElem hj] at h
 have h:l[i]=l[j]:=h
 rcases Nat.lt_trichotomy i j with q | q | q
 ·exact absurd h ((List.pairwise_iff_getElem.mp nd) i j hi hj q)
 ·exact q
 ·exact absurd h.symm ((List.pairwise_iff_getElem.mp nd) j i hj hi q)
theorem Wm {e:En}(E:oM e)(nd:e.pool.Nodup){N:Nd}{m:Int×Int}(I:qd N m){s:Int}{nm:Str}{d d':D}(hs:s=1\/s=2)(h:Row e N s nm d)(h':Row e N s nm d'):d=d':=by
 obtain ⟨rc,c,b,n,h1,h2,h3,h4,h5,h6,h7,rfl⟩:=h
 obtain ⟨rc',c',b',n',k1,k2,k3,k4,k5,k6,k7,rfl⟩:=h'
 have hn:nameAt e n=nameAt e n':=by rw [← h7,← k7]
 have p8:=E.p8
 have:=getD_inj nd (by rw [p8]; omega) (by rw [p8]; omega) hn
 have t0:=E.t0
 have e1:n=n':=by omega
 subst e1
 obtain ⟨q1,q2⟩:=I.inj s rc c b rc' c' b' _ hs h1 k1 h3 k3
 have q2:c=c':=by omega
 subst q1 q2
 rfl
theorem zR {e:En}(E:oM e)(n:Int):∀l:List Nat,jx (l.map λ(k:Nat)=>D.str (wordAt e n k))=true/\gw (l.map λ(k:Nat)=>D.str (wordAt e n k))=0
 |[]=>⟨rfl,rfl⟩
 |k::l=>by
  obtain ⟨h1,h2⟩:=zR E n l
  have hw:PyData.strOk (wordAt e n k)=true:=yG E _ (by have:=E.t0; omega)
  exact ⟨by simp [jx,okD,hw,h1],by simp [gw,iT,h2]⟩
theorem QD:∀{rc:List D},Pr rc->gw rc<=1
 |[],_=>Nat.zero_le _
 |d::rc,h=>by
  obtain ⟨a,b,rfl⟩:=h d List.mem_cons_self
  have:=QD λx hx=>h x (List.mem_cons_of_mem _ hx)
  simp [gw,iT]
  omega
theorem Wh {e:En}(E:oM e)(n:Int):PyData.strOk (nameAt e n)=true:=yG E _ (by have:=E.t0; omega)
theorem YC {e:En}(E:oM e){N:Nd}{s:Int}{nm:Str}{d:D}(h:Row e N s nm d):okR d:=by
 obtain ⟨rc,c,b,n,h1,h2,h3,h4,h5,h6,rfl,rfl⟩:=h
 obtain ⟨w1,w2⟩:=zR E n (List.range c)
 have hp:=QD h1
 have hn:=Wh E n
 refine ⟨by simp [okD,jx,hn,w1,h2],?_⟩
 simp only [iT,gw,w2]
 omega
mutual
theorem Mr:∀(w:List Int) (r:Rc) (g:Gm),fP g->∀p∈prG w r g,fP p.2.1
 |w,r,.fin d,h,p,hp=>by
  have:p=(w,.fin d,r):=by simpa [prG] using hp
  rw [this]; exact h
 |w,r,.deal n ws,h,p,hp=>by
  rcases List.mem_cons.mp (show p∈(w,Gm.deal n ws,r)::prW w (λ_=>r) 0 ws from hp) with e | e
  ·rw [e]; exact h
  ·exact Fq w _ 0 ws h.2 p e
 |w,r,.move s n ws,h,p,hp=>by
  rcases List.mem_cons.mp (show p∈(w,Gm.move s n ws,r)::prW w (rbm s n r) 0 ws from hp) with e | e
  ·rw [e]; exact h
  ·exact Fq w _ 0 ws h.2 p e
theorem Fq:∀(w:List Int) (f:D->Rc) (i:Nat) (ws:Ws),rN ws->∀p∈prW w f i ws,fP p.2.1
 |w,f,i,.nil,_,p,hp=>by cases hp
 |w,f,i,.cons l g r,h,p,hp=>by
  rcases List.mem_append.mp (show p∈prG (w++[(i:Int)]) (f l) g++prW w f (i+1) r from hp) with e | e
  ·exact Mr _ _ g h.1 p e
  ·exact Fq w f (i+1) r h.2 p e
end
noncomputable def nmD:D->Str
 | .tup [_,.str n,_,_]=>n
 |_=>⟨#[]⟩
noncomputable def kOf (d:D):List Kt:=kn (sdD d) (nmD d)
noncomputable def TI (T:Tb):Prop:=T.1=T.2.map kOf/\T.1.Nodup
theorem VN {T:Tb}(h:TI T)(p:Tr):TI (tst T p):=by
 unfold tst
 split
 ·rename_i s n ws ep
  split
  ·exact h
  ·rename_i q
   have hl:T.1.length=T.2.length:=by rw [h.1]; simp
   have hn:kn s n∉T.1:=λhk=>by
    have:∀{ks:List (List Kt)} {ds:List D},ks.length=ds.length->kn s n∈ks->(cQ ks ds (kn s n)).isSome=true:=by
     intro ks
     induction ks with
     |nil=>intro ds _ h; cases h
     |cons a ks ih=>
      intro ds hl h
      cases ds with
      |nil=>simp at hl
      |cons x ds=>
       unfold cQ
       by_cases qa:a=kn s n
       ·rw [if_pos qa]; rfl
       ·rw [if_neg qa]
        rcases List.mem_cons.mp h with e | e
        ·exact absurd e.symm qa
        ·exact ih (by simpa using hl) e
    exact q (this hl hk)
   refine ⟨?_,?_⟩
   ·show T.1++[kn s n]=(T.2++[cV s n ws p.2.2]).map kOf
    rw [List.map_append,← h.1]; rfl
   ·show (T.1++[kn s n]).Nodup
    rw [List.nodup_append]
    exact ⟨h.2,by simp,λa ha b hb=>by rw [List.mem_singleton.mp hb]; exact λz=>hn (z ▸ ha)⟩
 ·exact h
theorem Dn:∀(l:List Tr) (T:Tb),TI T->TI (l.foldl tst T)
 |[],T,h=>h
 |p::l,T,h=>Dn l (tst T p) (VN h p)
theorem sub_len:∀{l p:List Str},l.Nodup->(∀x∈l,x∈p)->l.length<=p.length
 |[],p,_,_=>Nat.zero_le _
 |a::l,p,nd,h=>by
  have ha:=h a List.mem_cons_self
  have nd':=List.nodup_cons.mp nd
  have:=sub_len (l:=l) (p:=p.erase a) nd'.2 λx hx=>(List.mem_erase_of_ne (λ(z:x=a)=>nd'.1 (by rw [← z]; exact hx))).mpr (h x (List.mem_cons_of_mem _ hx))
  rw [List.length_erase_of_mem ha] at this
  have:0<p.length:=List.length_pos_of_mem ha
  simp only [List.length_cons]
  omega
open PySem L2 Hd F Pk
theorem name_mem {e:En}(E:oM e)(n:Int):nameAt e n∈e.pool:=by
 have t0:=E.t0
 have hl:((n+e.turn) % 8).toNat<e.pool.length:=by rw [E.p8]; omega
 unfold nameAt
 rw [List.getD_eq_getElem?_getD,List.getElem?_eq_getElem hl]
 exact List.getElem_mem hl
theorem zV {e:En}{N:Nd}{g:Gm}{rc:Rc}{dep:Nat}(G:Grw e N rc g dep){d:D}(h:d∈(tbl (prG [] rc g)).2):∃s n,(s=1\/s=2)/\Row e N s n d:=by
 rcases vL (prG [] rc g) ([],[]) d h with z | ⟨p,hp,s,n,ws,ep,rfl⟩
 ·cases z
 ·have h1:=G.pl [] p hp
  have h2:=tL [] rc g G.len G.sd p hp
  obtain ⟨w,q,r⟩:=p
  have ep:q=.move s n ws:=ep
  subst ep
  exact ⟨s,n,h2.1,h1⟩
theorem TQ {e:En}{N:Nd}{s:Int}{n:Str}{d:D}(h:Row e N s n d):wdD d<=3:=by
 obtain ⟨rc',c,b,k,_,_,_,_,_,h6,_,rfl⟩:=h
 simpa [wdD] using h6.2
theorem Uk {e:En}(E:oM e){N:Nd}{g:Gm}{rc:Rc}{dep:Nat}(G:Grw e N rc g dep)(s:Int):okT (tbl (prG [] rc g)).2 s:=by
 have T:=Dn (prG [] rc g) ([],[]) ⟨rfl,List.nodup_nil⟩
 generalize hT:(tbl (prG [] rc g)).2=R at *
 have hrow:∀d∈R,∃s n,(s=1\/s=2)/\Row e N s n d:=λd hd=>zV G (by rw [hT]; exact hd)
 have hR:((prG [] rc g).foldl tst ([],[])).2=R:=hT
 obtain ⟨t1,t2⟩:=T
 rw [hR] at t1
 rw [t1] at t2
 have nd:(R.filter λd=>decide (sdD d=s)).Pairwise λa b=>kOf a≠kOf b:=by
  have:=(List.pairwise_map.mp t2)
  exact this.sublist List.filter_sublist
 have nd2:((R.filter λd=>decide (sdD d=s)).map nmD).Nodup:=by
  refine List.pairwise_map.mpr (nd.imp_of_mem λ{a b} ha hb h z=>h ?_)
  have h1:sdD a=s:=by simpa using (List.mem_filter.mp ha).2
  have h2:sdD b=s:=by simpa using (List.mem_filter.mp hb).2
  unfold kOf
  rw [h1,h2,z]
 have sub:∀x∈(R.filter λd=>decide (sdD d=s)).map nmD,x∈e.pool:=λx hx=>by
  obtain ⟨d,hd,rfl⟩:=List.mem_map.mp hx
  obtain ⟨_,n,_,rc',c,b,k,_,_,_,_,_,_,rfl,rfl⟩:=hrow d (List.mem_filter.mp hd).1
  exact name_mem E k
 have hl:=sub_len nd2 sub
 rw [List.length_map,E.p8] at hl
 have hw:∀l:List D,(∀d∈l,∃s n,(s=1\/s=2)/\Row e N s n d)->(l.map λd=>(wdD d:Int)).sum<=3 * l.length:=by
  intro l
  induction l with
  |nil=>intro _; simp
  |cons d l ih=>
   intro h
   have:=ih λx hx=>h x (List.mem_cons_of_mem _ hx)
   obtain ⟨_,n,_,hr⟩:=h d List.mem_cons_self
   have h3:=TQ hr
   simp only [List.map_cons,List.sum_cons,List.length_cons]
   omega
 exact ⟨hl,Int.le_trans (hw _ λd hd=>hrow d (List.mem_filter.mp hd).1) (by omega)⟩
theorem aa5 {e:En}(E:oM e)(nd:e.pool.Nodup){N:Nd}{m:Int×Int}(I:qd N m){g:Gm}{dep:Nat}(hd:dep<=12)(G:Grw e N ([],[]) g dep)(hz:szG g<=64):Gd g where
 len:=G.len
 sd:=G.sd
 dep:=Nat.le_trans G.dep hd
 sz:=hz
 row:=by
  classical
  refine ⟨λs n=>if h:∃d,Row e N s n d then Classical.choose h else .non,λp hp s n ws ep=>?_⟩
  have h1:=G.pl [] p hp
  have h2:=tL [] ([],[]) g G.len G.sd p hp
  obtain ⟨w,q,r⟩:=p
  have ep:q=.move s n ws:=ep
  subst ep
  have h1:Row e N s n (cV s n ws r):=h1
  have hex:∃d,Row e N s n d:=⟨_,h1⟩
  have e1:=Wm E nd I h2.1 h1 (Classical.choose_spec hex)
  simp only [dif_pos hex]
  exact ⟨e1,YC E (Classical.choose_spec hex)⟩
 fr:=λp hp=>by
  have h1:=G.pl [] p hp
  refine ⟨?_,Mr [] ([],[]) g G.len p hp⟩
  obtain ⟨w,q,r⟩:=p
  cases q with
  |fin d=>exact h1.1
  |deal n ws=>exact h1.1
  |move s n ws=>trivial
 t1:=Uk E G 1
 t2:=Uk E G 2
open PySem L2 Hd F Pk
theorem ab2:qd ([],[]) (0,0):=⟨rfl,by simp,by simp,λ_ _ _ _ _ _ _ h=>by simp [cQ] at h,λ_ _ _ _ _ _ _ _ _ _ _ h=>by simp [cQ] at h⟩
noncomputable def gmM (e:En)(turn:Int)(rm dep:Nat)(s5 s6 s7:Sl):Me:=[.fz (cD e),.fz (.int turn),.fz (.int (dep:Int)),.fz (.int (rm:Int)),.fz (.lst (e.pool.map D.str)),s5,s6,s7]
theorem YW (e:En)(rm:Nat)(a1 a2:Addr):Ih [] [] [(.str "at",.int 0),(.str "room",.int (rm:Int)),(.str "names",.adr a1),(.str "many",.adr a2),(.str "pool",.lst (e.pool.map D.str))]=some ([sk "at",sk "room",sk "names",sk "many",sk "pool"],[.int 0,.int (rm:Int),.adr a1,.adr a2,.lst (e.pool.map D.str)]):=by
 simp [Ih,qN,putD,sk]
theorem TY {Φ : Bf} {e : En} {turn : Int} {rm dep : Nat} {d : D} (ht : e.turn = turn % 64) (hl : e.lev = decide (turn / 64 % 2 = 1))
    (h : ∀ A : Addr × Addr, ∃ s n m, Φ [cD e, .int (dep : Int), rcD ([], [])] (stD e A 0 (rm : Int)) (A.1, nD ([], [])) (A.2, mD (0, 0)) = .ok (d, s, n, m)) :
    aY 8 5 (pP Φ) [cD e, .int turn, .int (dep : Int), .int (rm : Int), .lst (e.pool.map D.str)] = .ok (false, d) := by
  have b64 : Bg 64 := bgS (by decide)
  have H : ∀ a1 a2 : Addr, a1 ≠ a2 → ∃ m', ((ofO (Ih [] [] [(.str "at", .int 0), (.str "room", .int (rm : Int)), (.str "names", .adr a1), (.str "many", .adr a2), (.str "pool", .lst (e.pool.map D.str))])).bind λr => (aK (lL 5 (fC (.str "turn")) (au bO (ak 1) (fC (.int 64))))
 (aK (lL 5 (fC (.str "level")) (rn gEq (au bO (au eQ (ak 1) (fC (.int 64))) (fC (.int 2))) (fC (.int 1))))
 (uC (uQ Φ 5 1 6 7 (aj (aH 0) (aj (aH 2) (aj (gM (aj (aU aA) (aj (aU aA) aA))) aA))))))) (((gmM e turn rm dep .un .un .un).set 5 (.ow (.dct r.1 r.2))).set 6 (.hd true a1 (nD ([], []))) |>.set 7 (.hd true a2 (mD (0, 0))))) = .ok (.rt false d, m') ∧ m'.length = (gmM e turn rm dep .un .un .un).length := by
    intro a1 a2 hne
    obtain ⟨s, n, m, eΦ⟩ := h (a1, a2)
    refine ⟨gmM e turn rm dep (.ow s) (.hd true a1 n) (.hd true a2 m), ?_, rfl⟩
    rw [YW]
    simp only [qy, Res.pG]
    have e1 : ∀ k, aK (lL 5 (fC (.str "turn")) (au bO (ak 1) (fC (.int 64)))) k (gmM e turn rm dep (.ow (.dct [sk "at", sk "room", sk "names", sk "many", sk "pool"] [.int 0, .int (rm : Int), .adr a1, .adr a2, .lst (e.pool.map D.str)])) (.hd true a1 (nD ([], []))) (.hd true a2 (mD (0, 0)))) = k (gmM e turn rm dep (.ow (.dct [sk "at", sk "room", sk "names", sk "many", sk "pool", sk "turn"] [.int 0, .int (rm : Int), .adr a1, .adr a2, .lst (e.pool.map D.str), .int e.turn])) (.hd true a1 (nD ([], []))) (.hd true a2 (mD (0, 0)))) := λk => gs (by
      simp [gmM, lL, au, ak, fC, bO, mdI, yx, qN, yo, putD, sk, ht])
    have e2 : ∀ k, aK (lL 5 (fC (.str "level")) (rn gEq (au bO (au eQ (ak 1) (fC (.int 64))) (fC (.int 2))) (fC (.int 1)))) k (gmM e turn rm dep (.ow (.dct [sk "at", sk "room", sk "names", sk "many", sk "pool", sk "turn"] [.int 0, .int (rm : Int), .adr a1, .adr a2, .lst (e.pool.map D.str), .int e.turn])) (.hd true a1 (nD ([], []))) (.hd true a2 (mD (0, 0)))) = k (gmM e turn rm dep (.ow (stD e (a1, a2) 0 (rm : Int))) (.hd true a1 (nD ([], []))) (.hd true a2 (mD (0, 0)))) := λk => gs (by
      simp [gmM, lL, rn, au, ak, fC, bO, mdI, eQ, dvI, b64, yx, qN, yo, putD, sk, stD, wO, hl])
    show aK _ _ (gmM e turn rm dep (.ow (.dct [sk "at", sk "room", sk "names", sk "many", sk "pool"] [.int 0, .int (rm : Int), .adr a1, .adr a2, .lst (e.pool.map D.str)])) (.hd true a1 (nD ([], []))) (.hd true a2 (mD (0, 0)))) = _
    rw [e1, e2]
    simp only [gmM, rcD] at eΦ ⊢
    generalize stD e (a1, a2) 0 (rm : Int) = ST at *
    generalize nD ([], []) = NN at *
    generalize mD (0, 0) = MM at *
    simp [uC, uQ, Gq, vB, aj, aA, aH, gM, aU, eΦ, yF]
  have g := Wg H
  have start : [cD e, .int turn, .int (dep : Int), .int (rm : Int), .lst (e.pool.map D.str)].map Sl.fz ++ List.replicate (8 - 5) Sl.un = gmM e turn rm dep .un .un .un := rfl
  have gc : pP Φ (gmM e turn rm dep .un .un .un) = .ok (.rt false d, (gmM e turn rm dep .un .un .un).map λ_ => .un) := by
    rw [← g]
    rfl
  have hlen : [cD e, .int turn, .int (dep : Int), .int (rm : Int), .lst (e.pool.map D.str)].length = 5 := rfl
  unfold aY
  rw [if_pos hlen, start, gc]
theorem Xk {e:En}(E:oM e){turn:Int}{rm dep:Nat}(hd:dep<=12)(hrm:rm<=63)(ht:e.turn=turn % 64)(hl:e.lev=decide (turn / 64 % 2=1)):
  ∃(g:Gm) (N:Nd) (m:Int×Int),pL [cD e,.int turn,.int (dep:Int),.int (rm:Int),.lst (e.pool.map D.str)]=.ok (false,dG g)/\qd N m/\szG g<=rm+1/\Grw e N ([],[]) g dep:=by
 obtain ⟨g,a',r',N,m,eg,I,_,_,h1,_,G⟩:=Io E 13 dep (by omega) hd 0 rm ([],[]) (0,0) ([],[]) ab2 (by simp) (by omega) ⟨(λ_ z=>nomatch z),(λ_ z=>nomatch z),rfl,rfl,by simpa using hd,by simpa using hd⟩
 exact ⟨g,N,m,TY (Φ:=bf 13) ht hl λA=>⟨_,_,_,eg A⟩,I,by omega,G⟩
open PySem L2 Hd F Pk
theorem QJ {e:En}{N:Nd}{g:Gm}{rc:Rc}{dep:Nat}(G:Grw e N rc g dep):∀d∈(tbl (prG [] rc g)).2,DG d:=λd hd=>by
 obtain ⟨s,n,_,rc',c,b,k,h1,_,_,_,_,h6,_,rfl⟩:=zV G hd
 refine ⟨s,n,_,rc',rfl,λx hx=>?_,by simp; omega,h1⟩
 obtain ⟨j,_,rfl⟩:=List.mem_map.mp hx
 exact ⟨_,rfl⟩
variable {P:Program}{w:World}{K:W.Frag}{mg:Str->Option Value}{base:Heap}{f:Addr}{fd:FuncData}
theorem MF:∀l:List D,(∀d∈l,okR d)->jx l=true/\gw l<=20
 |[],_=>⟨rfl,Nat.zero_le _⟩
 |d::l,h=>by
  obtain ⟨a,b⟩:=MF l λx hx=>h x (List.mem_cons_of_mem _ hx)
  obtain ⟨c,e⟩:=h d List.mem_cons_self
  exact ⟨by simp [jx,a,c],by simp [gw]; omega⟩
open PySem L2 Hd F Pk
theorem cell_eq (ns:List Int)(k:Nat)(hz:ns.length<=1000):∃v:Int,dM [.lst (ns.map D.int),.int (k:Int)]=.ok (false,.int v):=by
 by_cases h:k<ns.length
 ·have e1:atI (ns.map D.int) (k:Int)=some (.int ns[k]):=pN (by rw [List.getElem?_map,List.getElem?_eq_getElem h]; rfl)
  have h':(k:Int)<(ns.length:Int):=by omega
  exact ⟨ns[k],by simp [dM,lU,lg,aY,aK,gIf,aM,ak,aW,iU,aj,aA,gLt,h,h',bD,Me.let,Sl.let,au,gIx,e1]⟩
 ·have h':¬(k:Int)<(ns.length:Int):=by omega
  exact ⟨0,by simp [dM,lU,lg,aY,aK,gIf,aM,ak,aW,iU,aj,aA,gLt,h,h',bD,Me.let,Sl.let,gNx,fC]⟩
open PySem L2 Hd F Pk
noncomputable def ss:List Nat:=[97,98,99,100,101,102,103,104,105,106,107,108,109,110,111,112,113,114,115,116,117,118,119,120,121,122,48,49,50,51,52,53,54,55,56,57]
theorem Yy:Str.ofString "abcdefghijklmnopqrstuvwxyz0123456789" = tx ss:=by decide +kernel
theorem Yj:∀c∈ss,c<128:=by decide
theorem abL:ss.Nodup:=by decide
noncomputable def sgn (i:Int):Nat:=ss.getD i.toNat 0
theorem Mg {i:Int}(h:0<=i/\i<36):sgn i∈ss:=by
 have hl:i.toNat<ss.length:=by show i.toNat<36; omega
 unfold sgn
 rw [List.getD_eq_getElem?_getD,List.getElem?_eq_getElem hl]
 exact List.getElem_mem hl
theorem VR {i j:Int}(h:0<=i/\i<36)(h':0<=j/\j<36)(e:sgn i=sgn j):i=j:=by
 have hl:i.toNat<ss.length:=by show i.toNat<36; omega
 have hl':j.toNat<ss.length:=by show j.toNat<36; omega
 unfold sgn at e
 rw [List.getD_eq_getElem?_getD,List.getElem?_eq_getElem hl,List.getD_eq_getElem?_getD,List.getElem?_eq_getElem hl'] at e
 have:=(List.getElem_inj (h₀:=hl) (h₁:=hl') abL).mp e
 omega
theorem XH {i:Int}(h:0<=i/\i<36):gIx (.str "abcdefghijklmnopqrstuvwxyz0123456789") (.int i)=some (.str (tx [sgn i])):=by
 show gIx (.str (Str.ofString "abcdefghijklmnopqrstuvwxyz0123456789")) _=_
 rw [Yy]
 have hl:i.toNat<ss.length:=by show i.toNat<36; omega
 have e:atI ss i=some (sgn i):=by
  have:=pN (xs:=ss) (j:=i.toNat) (List.getElem?_eq_getElem hl)
  rw [show ((i.toNat:Nat):Int)=i by omega] at this
  rw [this]
  unfold sgn
  rw [List.getD_eq_getElem?_getD,List.getElem?_eq_getElem hl]
  rfl
 show (if (tx ss).length<=sizeLine then (atI (tx ss).cps.toList i).map λc=>D.str ⟨#[c]⟩ else none)=_
 rw [if_pos (by rw [uF]; decide),yL,e]
 rfl
theorem Zz:sizeLine=16777216:=rfl
theorem Qp {a b:List Nat}(h:a.length+b.length<=1000):cF (.str (tx a)) (.str (tx b))=some (.str (tx (a++b))):=by
 show (if (tx a).length+(tx b).length<=sizeLine then some (D.str (tx a++tx b)) else none)=_
 rw [if_pos (by rw [uF,uF,Zz]; omega),ZR]
theorem Ys {w:List Nat}{i:Int}(h0:0<=i)(h1:i<=w.length)(hw:w.length<=1000):gSl (.str (tx w)) none (some i)=some (.str (tx (w.take i.toNat))):=by
 show (if (tx w).length<=sizeLine then some (D.str (Txt.slice (tx w) none (some i))) else none)=_
 rw [if_pos (by rw [uF,Zz]; omega)]
 have:=StrLaws.sliceText_to (x:=tx w) (j:=i) ⟨h0,by rw [yL]; exact h1⟩
 rw [show Txt.slice (tx w) none (some i)=StrLaws.sliceText (tx w) none (some i) from rfl,this]
 simp [tx]
theorem QL {w:List Nat}{i:Int}(h0:0<=i)(h1:i<=w.length):Txt.slice (tx w) (some i) none=tx (w.drop i.toNat):=by
 have:=StrLaws.sliceText_from (x:=tx w) (i:=i) ⟨h0,by rw [yL]; exact h1⟩
 rw [show Txt.slice (tx w) (some i) none=StrLaws.sliceText (tx w) (some i) none from rfl,this]
 refine NZ ?_
 rw [yL]
 show ((w.drop i.toNat).take _)=_
 exact List.take_of_length_le (by rw [List.length_drop]; omega)
theorem Wz {w:List Nat}{i:Int}(h0:0<=i)(h1:i<=w.length)(hw:w.length<=1000):gSl (.str (tx w)) (some i) none=some (.str (tx (w.drop i.toNat))):=by
 show (if (tx w).length<=sizeLine then some (D.str (Txt.slice (tx w) (some i) none)) else none)=_
 rw [if_pos (by rw [uF,Zz]; omega),QL h0 h1]
noncomputable def yu (w:List Nat):List Nat:=w++w++w++w++w++w++w++w
theorem acB {w:List Nat}(h:1<=w.length)(h2:w.length<=100):Uj (.int 8) (.str (tx w))=some (.str (tx (yu w))):=by
 show (if (0:Int)<=8/\(8:Int)<=1000/\(tx w).length<=1000 then some (D.str (Txt.mul (tx w) 8)) else none)=_
 rw [if_pos ⟨by decide,by decide,by rw [uF]; omega⟩]
 congr 2
 unfold Txt.mul
 rw [if_neg (by decide),if_neg (by rw [uF]; simp; intro z; rw [z] at h; simp at h)]
 refine NZ ?_
 show (List.foldl (· ++ ·) #[] (List.replicate 8 w.toArray)).toList=_
 simp [List.replicate,yu,List.append_assoc]
theorem Eb {s1 s2 s3 s5 s6 s7 s8 s9:Sl}{x:Int}{P:List D}(hP:P.length<=100):jG [.fz (.int x),s1,s2,s3,.ow (.lst P),s5,s6,s7,s8,s9]=.ok (.nx,[.fz (.int (x / 36)),s1,s2,s3,.ow (.lst (P++[.int (x % 36)])),s5,s6,s7,s8,s9]):=by
 have b1:Bg 36:=bgS (by decide)
 have z1:P.length<16777216:=by omega
 simp [jG,aK,iQ,pU,putL,au,ak,fC,bO,mdI,eQ,dvI,b1,z1,bu]
theorem yM {s1 s2 s3 s6 s7 s8 s9:Sl}:∀(c i:Nat) (x:Int) (P:List Int) (s5:Sl),P.length+c<=100->(∀p∈P,0<=p/\p<36)->∃(x' s5':Sl) (Q:List Int),bW (hName 5) jG ((List.range' i c).map λ(k:Nat)=>D.int k) [.fz (.int x),s1,s2,s3,.ow (.lst (P.map D.int)),s5,s6,s7,s8,s9]=.ok (.nx,[x',s1,s2,s3,.ow (.lst (Q.map D.int)),s5',s6,s7,s8,s9])/\Q.length=P.length+c/\∀p∈Q,0<=p/\p<36
 |0,i,x,P,s5,_,hp=>⟨_,s5,P,rfl,rfl,hp⟩
 |c+1,i,x,P,s5,hz,hp=>by
  have st:=Eb (s1:=s1) (s2:=s2) (s3:=s3) (s5:=.fz (.int (i:Int))) (s6:=s6) (s7:=s7) (s8:=s8) (s9:=s9) (x:=x) (P:=P.map D.int) (by simp; omega)
  obtain ⟨x',s',Q,e,l,h⟩:=yM (s1:=s1) (s2:=s2) (s3:=s3) (s6:=s6) (s7:=s7) (s8:=s8) (s9:=s9) c (i+1) (x / 36) (P++[x % 36]) (.fz (.int (i:Int))) (by simp; omega) λp hp'=>by
   rcases List.mem_append.mp hp' with e | e
   ·exact hp p e
   ·rw [List.mem_singleton.mp e]; omega
  refine ⟨x',s',Q,?_,by rw [l]; simp; omega,h⟩
  rw [List.range'_succ,List.map_cons,bT (m1:=[.fz (.int x),s1,s2,s3,.ow (.lst (P.map D.int)),.fz (.int (i:Int)),s6,s7,s8,s9]) rfl st]
  rw [List.map_append] at e
  exact e
theorem Ce:∀ps:List Int,EY (ps.map λp=>D.str (tx [sgn p]))=some ((ps.map sgn).map λc=>tx [c])
 |[]=>rfl
 |p::ps=>by simp [EY,Ce ps]
theorem U8 (ps:List Int)(hl:ps.length<=1000):HY (.str "") [.lst (ps.map λp=>D.str (tx [sgn p]))]=some (.str (tx (ps.map sgn))):=by
 have e:((ps.map sgn).map λc=>tx [c])=(ps.map sgn).map λc=>(⟨#[c]⟩:Str):=rfl
 have hc:=O8 (ps.map sgn)
 show (match EY (ps.map λp=>D.str (tx [sgn p])) with
  |some zs=>if JoinOk (Str.ofString "") zs=true then some (D.str (Txt.join (Str.ofString "") zs)) else none
  |none=>none)=_
 rw [Ce,e]
 show (if JoinOk (Str.ofString "") _=true then some (D.str (Txt.join (Str.ofString "") _)) else none)=_
 rw [if_pos (joinOk_of (by rw [hc]; simp; omega))]
 congr 2
 exact NZ (by rw [QS,hc])
theorem aaK {ps:List Int}{u0 u1 u3 u5 u6 u7 u8 u9:Sl}(hl:ps.length<=1000)(hp:∀p∈ps,0<=p/\p<36):qb [u0,u1,.fz (.str "abcdefghijklmnopqrstuvwxyz0123456789"),u3,.ow (.lst (ps.map D.int)),u5,u6,u7,u8,u9]=.ok (.lst (ps.map λp=>D.str (tx [sgn p]))):=by
 have ec:cA (hName 0) dX pW [.un,.fz (.str "abcdefghijklmnopqrstuvwxyz0123456789")] (ps.map D.int)=.ok (ps.map λp=>D.str (tx [sgn p])):=iG ps λp hp'=>by
  refine ⟨[.fz (.int p),.fz (.str "abcdefghijklmnopqrstuvwxyz0123456789")],rfl,rfl,?_⟩
  have e:=XH (hp p hp')
  generalize D.str "abcdefghijklmnopqrstuvwxyz0123456789" = Z at *
  simp [pW,au,ak,e]
 have z2:ps.length<=16777216:=by omega
 generalize D.str "abcdefghijklmnopqrstuvwxyz0123456789" = Z at *
 simp [qb,bZ,fO,ak,cMe,Sl.bor,ec,z2]
theorem aaY {w:List Nat}{u0 u1 u2 u3 u4 u5 u7 u8 u9:Sl}(h1:1<=w.length)(h2:w.length<=100):pQ [u0,u1,u2,u3,u4,u5,.fz (.str (tx w)),u7,u8,u9]=.ok (.lst ((List.range 8).map λ(k:Nat)=>D.str (tx ((yu w).take (k+1))))):=by
 have hr:(yu w).length=8 * w.length:=by simp [yu]; omega
 have em:=acB h1 h2
 have e1:(aj (fC (.int 1)) (aj (fC (.int 9)) aA)) [u0,u1,u2,u3,u4,u5,.fz (.str (tx w)),u7,u8,u9]=.ok [.int 1,.int 9]:=by simp [aj,fC,aA]
 have e2:=ab1 e1 (by omega) (by omega) (by omega) (by omega)
 have ec:cA (hName 0) dX nC [.un,.fz (.str (tx w))] ((List.range 8).map λ(k:Nat)=>D.int (1+k))=.ok ((List.range 8).map λ(k:Nat)=>D.str (tx ((yu w).take (k+1)))):=iG (List.range 8) λk hk=>by
  have hk:=List.mem_range.mp hk
  refine ⟨[.fz (.int (1+k)),.fz (.str (tx w))],rfl,rfl,?_⟩
  have es:=Ys (w:=yu w) (i:=1+(k:Int)) (by omega) (by omega) (by omega)
  rw [show (1+(k:Int)).toNat=k+1 by omega] at es
  generalize D.str (tx w)=W at *
  simp [nC,fSl,au,fC,ak,em,fO0,fO1,es]
 unfold pQ bZ
 rw [e2]
 show (if ((List.range 8).map λ(k:Nat)=>D.int (1+k)).length<=sizeLine then match cA (hName 0) dX nC [.un,.fz (.str (tx w))] ((List.range 8).map λ(k:Nat)=>D.int (1+k)) with
  | .ok ys=>Res.ok (D.lst ys)
  |_=>.stuck
 else .stuck)=_
 rw [ec,if_pos (by decide)]
open PySem L2 Hd F Pk
noncomputable def Ha (w:List Nat)(a:Nat)(p:Int)(k:Nat):Str:=tx (w.take a++[sgn ((p+4 * k) % 36)]++w.drop (a+1))
theorem V6 {s0 s1 s3 s9:Sl}{ps FF:List D}{w:List Nat}{a k:Nat}{p:Int}(ea:atI ps (a:Int)=some (.int p))(ha:a<w.length)(hw:w.length<=100)(hk:k<=100)(hF:FF.length<=100):
  jK [s0,s1,.fz (.str "abcdefghijklmnopqrstuvwxyz0123456789"),s3,.ow (.lst ps),.fz (.int (k:Int)),.fz (.str (tx w)),.fz (.int (a:Int)),.ow (.lst FF),s9]=.ok (.nx,[s0,s1,.fz (.str "abcdefghijklmnopqrstuvwxyz0123456789"),s3,.ow (.lst ps),.fz (.int (k:Int)),.fz (.str (tx w)),.fz (.int (a:Int)),.ow (.lst (FF++[.str (Ha w a p k)])),.fz (.str (tx [sgn ((p+4 * k) % 36)]))]):=by
 have b1:Bg 4:=bgS (by decide)
 have b2:Bg (k:Int):=bgS (by omega)
 have z1:FF.length<16777216:=by omega
 have e1:=XH (i:=(p+4 * (k:Int)) % 36) (by omega)
 have e2:=Ys (w:=w) (i:=(a:Int)) (by omega) (by omega) (by omega)
 have e3:=Wz (w:=w) (i:=(a:Int)+1) (by omega) (by omega) (by omega)
 rw [show ((a:Int)).toNat=a by omega] at e2
 rw [show ((a:Int)+1).toNat=a+1 by omega] at e3
 have e4:=Qp (a:=w.take a) (b:=[sgn ((p+4 * k) % 36)]) (by simp; omega)
 have e5:=Qp (a:=w.take a++[sgn ((p+4 * k) % 36)]) (b:=w.drop (a+1)) (by simp; omega)
 unfold Ha
 generalize D.str "abcdefghijklmnopqrstuvwxyz0123456789" = Z at *
 generalize D.str (tx (w.take a++[sgn ((p+4 * k) % 36)]++w.drop (a+1)))=R at *
 generalize D.str (tx (w.take a++[sgn ((p+4 * k) % 36)]))=R1 at *
 generalize D.str (tx w)=W at *
 generalize D.str (tx (w.take a))=W1 at *
 generalize D.str (tx (w.drop (a+1)))=W2 at *
 generalize D.str (tx [sgn ((p+4 * k) % 36)])=W3 at *
 have e6:gIx (.lst ps) (.int (a:Int))=some (.int p):=ea
 have e7:F.cF (.int p) (.int (4 * (k:Int)))=some (.int (p+4 * k)):=rfl
 have e8:F.cF (.int (a:Int)) (.int 1)=some (.int ((a:Int)+1)):=rfl
 have e9:F.lM (.int 4) (.int (k:Int))=some (.int (4 * (k:Int))):=by simp [lM,b1,b2]
 have e10:F.bO (.int (p+4 * k)) (.int 36)=some (.int ((p+4 * (k:Int)) % 36)):=by simp [bO,mdI]
 simp only [jK]
 simp [aK,bu,au,ak,fC,e6,e7,e8,e9,e10,e1,iQ,pU,putL,fSl,fO0,fO1,e2,e3,e4,e5,z1]
theorem NK {s0 s1 s3:Sl}{ps:List D}{w:List Nat}{a:Nat}{p:Int}(ea:atI ps (a:Int)=some (.int p))(ha:a<w.length)(hw:w.length<=100):∀(c i:Nat) (FF:List D) (s5 s9:Sl),FF.length+c<=100->i+c<=100->∃s5' s9':Sl,
  bW (hName 5) jK ((List.range' i c).map λ(k:Nat)=>D.int k) [s0,s1,.fz (.str "abcdefghijklmnopqrstuvwxyz0123456789"),s3,.ow (.lst ps),s5,.fz (.str (tx w)),.fz (.int (a:Int)),.ow (.lst FF),s9] =
   .ok (.nx,[s0,s1,.fz (.str "abcdefghijklmnopqrstuvwxyz0123456789"),s3,.ow (.lst ps),s5',.fz (.str (tx w)),.fz (.int (a:Int)),.ow (.lst (FF++(List.range' i c).map λ(k:Nat)=>.str (Ha w a p k))),s9'])
 |0,i,FF,s5,s9,_,_=>⟨s5,s9,by simp [bW]⟩
 |c+1,i,FF,s5,s9,hz,hi=>by
  have st:=V6 (s0:=s0) (s1:=s1) (s3:=s3) (s9:=s9) (FF:=FF) (k:=i) ea ha hw (by omega) (by omega)
  obtain ⟨s5',s9',e⟩:=NK (s0:=s0) (s1:=s1) (s3:=s3) ea ha hw c (i+1) (FF++[.str (Ha w a p i)]) (.fz (.int (i:Int))) (.fz (.str (tx [sgn ((p+4 * i) % 36)]))) (by simp; omega) (by omega)
  refine ⟨s5',s9',?_⟩
  rw [List.range'_succ,List.map_cons,bT (m1:=[s0,s1,.fz (.str "abcdefghijklmnopqrstuvwxyz0123456789"),s3,.ow (.lst ps),.fz (.int (i:Int)),.fz (.str (tx w)),.fz (.int (a:Int)),.ow (.lst FF),s9]) rfl st,e]
  simp
structure sI (p:List Str):Prop where
 p8:p.length=8
 nd:p.Nodup
 ok:∀x∈p,PyData.strOk x=true
theorem Oe {L2 L8:Me->Res (Fl×Me)}{Q4 Q6:Me->Res D}{r:D}{c tt:Int}{x' s5:Sl}{P W:D}(h:tt / 8 % 3=1)
  (eL:L2 [.fz (.int (c / 8)),.fz (.int tt),.fz (.str "abcdefghijklmnopqrstuvwxyz0123456789"),.fz (.int (1+c % 8)),.ow (.lst []),.un,.un,.un,.un,.un]=.ok (.nx,[x',.fz (.int tt),.fz (.str "abcdefghijklmnopqrstuvwxyz0123456789"),.fz (.int (1+c % 8)),.ow P,s5,.un,.un,.un,.un]))
  (e4:Q4 [x',.fz (.int tt),.fz (.str "abcdefghijklmnopqrstuvwxyz0123456789"),.fz (.int (1+c % 8)),.ow P,s5,.un,.un,.un,.un]=.ok r) (ej:HY (.str "") [r]=some W)
  {R:D} (e6:∀u0 u1 u2 u3 u4 u5 u7 u8 u9:Sl,Q6 [u0,u1,u2,u3,u4,u5,.fz W,u7,u8,u9]=.ok R):aY 10 2 (kW L2 Q4 Q6 L8) [.int c,.int tt]=.ok (true,R):=by
 unfold aY kW
 have b8:Bg 8:=bgS (by decide)
 have ty:tyD "str" (.str "")=true:=rfl
 generalize D.str "abcdefghijklmnopqrstuvwxyz0123456789" = Z at *
 generalize D.str "" = Z0 at *
 simp [aK,bu,fC,au,ak,cF,bO,mdI,eQ,dvI,b8,jE,gM,aA,eL,KZ,ty,aj,e4,ej,gIf,aM,h,jz,Me.let,Sl.let,e6]
theorem Oh {L2 L8:Me->Res (Fl×Me)}{Q4 Q6:Me->Res D}{r:D}{c tt:Int}{x' s5 s5' s9':Sl}{P W:D}(h:¬tt / 8 % 3=1)
  (eL:L2 [.fz (.int (c / 8)),.fz (.int tt),.fz (.str "abcdefghijklmnopqrstuvwxyz0123456789"),.fz (.int (1+c % 8)),.ow (.lst []),.un,.un,.un,.un,.un]=.ok (.nx,[x',.fz (.int tt),.fz (.str "abcdefghijklmnopqrstuvwxyz0123456789"),.fz (.int (1+c % 8)),.ow P,s5,.un,.un,.un,.un]))
  (e4:Q4 [x',.fz (.int tt),.fz (.str "abcdefghijklmnopqrstuvwxyz0123456789"),.fz (.int (1+c % 8)),.ow P,s5,.un,.un,.un,.un]=.ok r) (ej:HY (.str "") [r]=some W)
  {R:D} (e8:L8 [x',.fz (.int tt),.fz (.str "abcdefghijklmnopqrstuvwxyz0123456789"),.fz (.int (1+c % 8)),.ow P,s5,.fz W,.fz (.int (tt % (1+c % 8))),.ow (.lst []),.un]=.ok (.nx,[x',.fz (.int tt),.fz (.str "abcdefghijklmnopqrstuvwxyz0123456789"),.fz (.int (1+c % 8)),.ow P,s5',.fz W,.fz (.int (tt % (1+c % 8))),.ow R,s9'])):aY 10 2 (kW L2 Q4 Q6 L8) [.int c,.int tt]=.ok (true,R):=by
 unfold aY kW
 have b8:Bg 8:=bgS (by decide)
 have ty:tyD "str" (.str "")=true:=rfl
 have hp:0<1+c % 8:=by omega
 have hz:¬1+c % 8=0:=by omega
 have em:mdI tt (1+c % 8)=tt % (1+c % 8):=if_pos hp
 generalize hS:1+c % 8=S at *
 generalize D.str "abcdefghijklmnopqrstuvwxyz0123456789" = Z at *
 generalize D.str "" = Z0 at *
 simp [aK,bu,fC,au,ak,cF,bO,eQ,dvI,b8,jE,gM,aA,show mdI c 8=c % 8 from if_pos (by decide),hS,eL,KZ,ty,aj,e4,ej,gIf,aM,show mdI (tt / 8) 3=tt / 8 % 3 from if_pos (by decide),h,gNx,hz,em,e8,uw,Me.let,Sl.let]
theorem Vm {c tt:Int}:∃(x' s5:Sl) (ps:List Int),qi [.fz (.int (c / 8)),.fz (.int tt),.fz (.str "abcdefghijklmnopqrstuvwxyz0123456789"),.fz (.int (1+c % 8)),.ow (.lst []),.un,.un,.un,.un,.un]=.ok (.nx,[x',.fz (.int tt),.fz (.str "abcdefghijklmnopqrstuvwxyz0123456789"),.fz (.int (1+c % 8)),.ow (.lst (ps.map D.int)),s5,.un,.un,.un,.un])/\(ps.length:Int)=1+c % 8/\∀p∈ps,0<=p/\p<36:=by
 have hS:0<=1+c % 8/\1+c % 8<=8:=by omega
 generalize 1+c % 8=S at *
 obtain ⟨x',s5,Q,e,hl,hQ⟩:=yM (s1:=.fz (.int tt)) (s2:=.fz (.str "abcdefghijklmnopqrstuvwxyz0123456789")) (s3:=.fz (.int S)) (s6:=.un) (s7:=.un) (s8:=.un) (s9:=.un) S.toNat 0 (c / 8) [] .un (by simp; omega) (λ_ z=>nomatch z)
 refine ⟨x',s5,Q,?_,by simp at hl; omega,hQ⟩
 have e1:(aj (ak 3) aA) [.fz (.int (c / 8)),.fz (.int tt),.fz (.str "abcdefghijklmnopqrstuvwxyz0123456789"),.fz (.int S),.ow (.lst []),.un,.un,.un,.un,.un]=.ok [.int S]:=by
  generalize D.str "abcdefghijklmnopqrstuvwxyz0123456789" = Z
  simp [aj,ak,aA]
 have e2:=Ky e1 (by omega) (by omega)
 unfold qi jD
 rw [e2]
 show bW (hName 5) jG ((List.range S.toNat).map λ(k:Nat)=>D.int k) _=_
 rw [List.range_eq_range']
 exact e
theorem V0 {w:List Nat}{a:Nat}{p:Int}{k:Nat}(hw:∀c∈w,c<128):PyData.strOk (Ha w a p k)=true:=by
 refine Il λc hc=>?_
 rcases List.mem_append.mp hc with hc | hc
 ·rcases List.mem_append.mp hc with hc | hc
  ·exact hw c (List.mem_of_mem_take hc)
  ·rw [List.mem_singleton.mp hc]
   exact Yj _ (Mg (by omega))
 ·exact hw c (List.mem_of_mem_drop hc)
theorem Ut {w:List Nat}{a:Nat}{p:Int}{k j:Nat}(hk:k<8)(hj:j<8)(h:Ha w a p k=Ha w a p j):k=j:=by
 have h:=Uv.mp h
 rw [List.append_assoc,List.append_assoc] at h
 have h:=List.append_cancel_left h
 injection h with h _
 have:=VR (by omega) (by omega) h
 omega
theorem Wi {w:List Nat}{c:Nat}(h:c∈yu w):c∈w:=by
 simpa [yu] using h
theorem Vo (c t:Int):∃p:List Str,pM [.int c,.int t]=.ok (true,.lst (p.map D.str))/\sI p:=by
 obtain ⟨x',s5,ps,eL,hl,hp⟩:=Vm (c:=c) (tt:=t)
 have hl8:1<=ps.length/\ps.length<=8:=by omega
 have e4:=aaK (u0:=x') (u1:=.fz (.int t)) (u3:=.fz (.int (1+c % 8))) (u5:=s5) (u6:=.un) (u7:=.un) (u8:=.un) (u9:=.un) (by omega) hp
 have ej:=U8 ps (by omega)
 have hw:∀k∈ps.map sgn,k<128:=λk hk=>by
  obtain ⟨p,h,rfl⟩:=List.mem_map.mp hk
  exact Yj _ (Mg (hp p h))
 have wl:(ps.map sgn).length=ps.length:=by simp
 generalize hW:ps.map sgn=w at *
 by_cases h:t / 8 % 3=1
 ·refine ⟨(List.range 8).map λk=>tx ((yu w).take (k+1)),?_,by simp,?_,λx hx=>?_⟩
  ·rw [List.map_map]
   exact Oe h eL e4 ej λu0 u1 u2 u3 u4 u5 u7 u8 u9=>aaY (by omega) (by omega)
  ·refine List.pairwise_map.mpr ((List.nodup_range (n:=8)).imp_of_mem λ{a b} ha hb hne z=>hne ?_)
   have ha:=List.mem_range.mp ha
   have hb:=List.mem_range.mp hb
   have hr:(yu w).length=8 * w.length:=by simp [yu]; omega
   have:=congrArg List.length (Uv.mp z)
   rw [List.length_take,List.length_take] at this
   omega
  ·obtain ⟨k,_,rfl⟩:=List.mem_map.mp hx
   exact Il λc hc=>hw c (Wi (List.mem_of_mem_take hc))
 ·obtain ⟨a,ha⟩:∃a:Nat,(a:Int)=t % (1+c % 8):=⟨(t % (1+c % 8)).toNat,by have:=Int.emod_nonneg t (show 1+c % 8≠0 by omega); omega⟩
  have hlt:a<w.length:=by have:=Int.emod_lt_of_pos t (show 0<1+c % 8 by omega); omega
  have hlp:a<ps.length:=by omega
  have ea:atI (ps.map D.int) (a:Int)=some (.int ps[a]):=pN (by rw [List.getElem?_map,List.getElem?_eq_getElem hlp]; rfl)
  obtain ⟨s5',s9',e8⟩:=NK (s0:=x') (s1:=.fz (.int t)) (s3:=.fz (.int (1+c % 8))) ea hlt (by omega) 8 0 [] s5 .un (by simp) (by omega)
  refine ⟨(List.range 8).map λk=>Ha w a ps[a] k,?_,by simp,?_,λx hx=>?_⟩
  ·refine Oh (s5':=s5') (s9':=s9') h eL e4 ej ?_
   rw [← ha]
   rw [List.map_map]
   have e1:(aj (fC (.int 8)) aA) [x',.fz (.int t),.fz (.str "abcdefghijklmnopqrstuvwxyz0123456789"),.fz (.int (1+c % 8)),.ow (.lst (ps.map D.int)),s5,.fz (.str (tx w)),.fz (.int (a:Int)),.ow (.lst []),.un]=.ok [.int 8]:=by
    simp [aj,fC,aA]
   have e2:=Ky e1 (by omega) (by omega)
   unfold uz jD
   rw [e2]
   show bW (hName 5) jK ((List.range 8).map λ(k:Nat)=>D.int k) _=_
   rw [List.range_eq_range']
   exact e8
  ·refine List.pairwise_map.mpr ((List.nodup_range (n:=8)).imp_of_mem λ{i j} hi hj hne z=>hne ?_)
   exact Ut (List.mem_range.mp hi) (List.mem_range.mp hj) z
  ·obtain ⟨k,_,rfl⟩:=List.mem_map.mp hx
   exact V0 hw
end Lw
namespace F
open PySem PySem.Spec PyProof.Rows L2 Hd
theorem BJ {G:Gx}{O:Addr->Prop}{H:Hp}:∀{xs:List V} {ds:List D} (k:Nat),DVs G O H xs ds->DVs G O H (xs.eraseIdx k) (ds.eraseIdx k)
 |_,_,_,.nil=>by simpa using DVs.nil
 |_,_,0,.cons _ t=>t
 |_,_,k+1,.cons h t=>.cons h (BJ k t)
noncomputable def Iv (ds:List D):D->Option (D×List D)
 | .int i=>if 0<=i/\i<ds.length/\ds.length<=1000000 then (ds[i.toNat]?).map λd=>(d,ds.eraseIdx i.toNat) else none
 |_=>none
noncomputable def Dg (i:Nat)(f:Me->Res D):Me->Res (D×Me):=λm=>(ofO (pU m i)).bind λo=>(f m).bind λk=>(ofO (Iv o.2 k)).bind λp=>.ok (p.1,putL m i o.1 p.2)
section
variable {X:Cx}{E:XK}{e ke:Expr}{f fk:Me->Res D}{fa:Me->Res (D×Me)}{x:Str}{np apos cpos pos spos:Pos}
theorem Q7 (i:Nat)(he:FE X E e f)(hN:X.N[i]? = some x:=by rfl)(hv:Vis X.env.scope x:=by first | exact Or.inl rfl | exact Or.inr (Or.inl rfl) | exact Or.inr (Or.inr rfl))(hd:(x == ("__debug__" : Str))=false:=by decide)(hcd:(x == ("__classdict__" : Str))=false:=by decide)
  (hbase:attributeBase (.Name x np) "pop" X.env (eval (.Name x np) X.env)=eval (.Name x np) X.env:=by rfl)
  (hfew:((backTo cpos (starEach [e] X.env)).all (λx=>!x.1) && (backToKw cpos (keywordEach [] X.env)).all (λx=>x.1.isSome) && decide ([e].length+([]:List Keyword).length+(if ([]:List Keyword).isEmpty then 0 else 1)<30))=true:=by rfl)
  (hline:(apos.endLine == cpos.line)=true:=by rfl) (hs:starEach [e] X.env=(false,eval e X.env)::starEach [] X.env:=by rfl) (hplain:(backTo cpos (starEach [] X.env)).any (·.1)=false:=by rfl):
  FX X E (.Call (.Attribute (.Name x np) "pop" apos) [e] [] cpos) (Dg i f):=
 bJ (Hv PySem.F.plainAttrs_list PySem.F.slot_list_pop PySem.F.type_list_pop QK (jC hN hv hd hcd) (jQ he rA hs) hbase hfew hline hs hplain) λσ H Q hE=>xq5 hE λO0 M0 H0 ow m R q=>by
  obtain ⟨o,ho,q⟩:=(Xs.pu R.toRel q).ofO
  obtain ⟨k,ds⟩:=o
  obtain ⟨a,xs,e1,e2,e3,e4,e5⟩:=qz R.toRel ho
  refine ⟨_,e2,.inl ⟨rfl,xs,SqL.of e3⟩,O0,M0,H0,ow,m,R.toRel,(Xs.pu R.toRel q).imp (aL.refl _) λd q v H1 g1 hv=>?_⟩
  have R1:=R.mono g1
  cases q0:Iv ds d with
  |none=>rw [show Iv (k,ds).2 d=none from q0] at q; exact q.elim
  |some p=>
   rw [show Iv (k,ds).2 d=some p from q0] at q
   obtain ⟨y,es⟩:=p
   cases d with
   |int j=>
    have q1:(if 0<=j/\j<ds.length/\ds.length<=1000000 then (ds[j.toNat]?).map λd=>(d,ds.eraseIdx j.toNat) else none)=some (y,es):=q0
    by_cases hz:0<=j/\j<ds.length/\ds.length<=1000000
    ·rw [if_pos hz] at q1
     obtain ⟨z0,z1,z2⟩:=hz
     have hl:j.toNat<ds.length:=by omega
     rw [List.getElem?_eq_getElem hl] at q1
     cases q1
     cases cG (.inl hv)
     have hxl:=bU e4
     obtain ⟨w,hw,dw⟩:=uI e4 (List.getElem?_eq_getElem hl)
     obtain ⟨R2,g2⟩:=R1.put (es:=ds.eraseIdx j.toNat) (ys:=xs.eraseIdx j.toNat) e1 e5 (BJ _ (e4.mono g1))
     have dw2:=(dw.mono g1).go R1.mutk g2.ev
     have hsi:seqIndex? j xs.length=some j.toNat:=by
      have c:¬j<0:=by omega
      have c2:(decide (0<=j) && decide (j<(xs.length:Int)))=true:=by simp; omega
      unfold seqIndex?
      simp only [if_neg c]
      rw [if_pos c2]
     exact ⟨a,xs,j,j.toNat,w,rfl,rfl,g1 _ _ e3,by omega,by omega,hsi,hw,q _ R2 ((Go.refl g1).trans g2) _ dw2⟩
    ·rw [if_neg hz] at q1; cases q1
   |_=>cases q0
noncomputable def JM (i:Nat)(fk:Me->Res D)(fv:Me->Res (D×Me)):Me->Res (Fl×Me):=λm=>(fv m).bind λp=>(ofO (yx p.2 i)).bind λo=>(fk p.2).bind λk=>(ofO (qN k)).bind λk=>
 if o.2.1.length<sizeLine then .ok (.nx,yo p.2 i o.1 (putD o.2.1 o.2.2 k p.1).1 (putD o.2.1 o.2.2 k p.1).2) else .stuck
theorem Uq {jj:Nat}(i:Nat)(hr:iR jj X.A)(he:FX X E e fa)(hk:FE X E ke fk)(hN:X.N[i]? = some x:=by rfl)(hv:Vis X.env.scope x:=by first | exact Or.inl rfl | exact Or.inr (Or.inl rfl) | exact Or.inr (Or.inr rfl))(hd:(x == ("__debug__" : Str))=false:=by decide)(hcd:(x == ("__classdict__" : Str))=false:=by decide)
  (hs:swapsWith e (some (.Subscript (.Name x np) ke spos)) pos.line X.env=pure false:=by rfl):FS X E (.Assign [.Subscript (.Name x np) ke spos] e pos) (JM i fk fa):=
 cM (yS (jF hr) (jC hN hv hd hcd) hk he hs) λW σ H hE=>xq5 hE λO0 M0 H0 ow m R q=>
  ⟨O0,M0,H0,ow,m,R,(Xs.ss (k:=λd m'=>(ofO (yx m' i)).bind λo=>(fk m').bind λk=>(ofO (qN k)).bind λk=>if o.2.1.length<sizeLine then .ok (.nx,yo m' i o.1 (putD o.2.1 o.2.2 k d).1 (putD o.2.1 o.2.2 k d).2) else .stuck) q).imp (Go.refl (aL.refl _)) λd H1 m1 R1 g1 em q v hv=>by
   have q:=q m1 em R1
   obtain ⟨o,ho,q⟩:=Ss.ofO q
   obtain ⟨k,ks,ds⟩:=o
   obtain ⟨a,kvs,e1,e2,e3,e4,e5,e6⟩:=M7 R1.toRel ho
   refine ⟨_,e2,O0,M0,H0,ow,m1,R1.toRel,(Ss.pu R1.toRel q).imp (aL.refl _) λdk q vk H2 g2 hvk=>?_⟩
   obtain ⟨ky,h1,q⟩:=Ss.ofO q
   cases Fo (.inl hvk) h1
   by_cases hz:ks.length<sizeLine
   ·rw [if_pos hz] at q
    have R2:=R1.mono g2
    obtain ⟨p1,p2⟩:=Gf (k:=ky) (hv.mono g2) (e5.mono g2)
    rw [e4] at p1 p2
    obtain ⟨R3,g3⟩:=R2.yo e1 e6 p1 p2
    exact ⟨a,_,rfl,Bs.k (g2 _ _ e3) (by rw [← List.length_map (f:=(·.1)),e4]; exact hz),q _ _ _ R3 ((Go.refl g2).trans g3)⟩
   ·rw [if_neg hz] at q; exact q.elim⟩
end
end F
namespace Pk
open PySem L2 Hd F
noncomputable section
noncomputable def Gv (φ_lowest : List D → Res (Bool × D)) : Me → Res (Fl × Me) :=
 (bD (fFn φ_lowest (aj (au gC (au lM (au gIx (ak 0) (fC (.int 0))) (au gIx (ak 1) (fC (.int 1)))) (au lM (au gIx (ak 1) (fC (.int 0))) (au gIx (ak 0) (fC (.int 1))))) (aj (au lM (au gIx (ak 0) (fC (.int 1))) (au gIx (ak 1) (fC (.int 1)))) aA))))
noncomputable def Ey : Me → Res (Fl × Me) :=
 (Gv lO)
noncomputable def jM:List D->Res (Bool×D):=aY 2 2 Ey
noncomputable def qZ (Φ : List D → Res (Bool × D)) : Me → Res D :=
 (aU (aj (aH 0) (aj (fFn Φ (aj (aH 1) aA)) aA)))
noncomputable def iu (Φ : List D → Res (Bool × D)) : Me → Res D :=
 (bZ 2 [] (o7 (au gIx (ak 0) (fUn uc (fC (.int 1))))) (jl 2 (bj (hName 0) (bj (hName 1) iW))) dX (qZ Φ))
noncomputable def jn (φ_minus : List D → Res (Bool × D)) (l_2 : Me → Res D) : Me → Res (Fl × Me) :=
 (aK (gIf (aM gEq (au gIx (ak 0) (fC (.int 0))) (fC (.str "end"))) (bD (aU (aj (fC (.str "end")) (aj (fFn φ_minus (aj (fC (.tup [(.int 0), (.int 1)])) (aj (au gIx (ak 0) (fC (.int 1))) aA))) aA)))) gNx)
 (aK (bu 1 (aW gP (aj l_2 aA)))
 (aK (gIf (aM gEq (au gIx (ak 0) (fC (.int 0))) (fC (.str "deal"))) (bD (aU (aj (fC (.str "deal")) (aj (au gIx (ak 0) (fC (.int 1))) (aj (aH 1) aA))))) gNx)
 (bD (aU (aj (fC (.str "move")) (aj (au gC (fC (.int 3)) (au gIx (ak 0) (fC (.int 1)))) (aj (au gIx (ak 0) (fC (.int 2))) (aj (aH 1) aA)))))))))
noncomputable def dI:Nat->List D->Res (Bool×D)
 |0=>λ_=>.stuck
 |n+1=>aY 2 1
   (jn jM (iu (dI n)))
end
end Pk
namespace K16
open PySem L2 Hd F Pk Lw
noncomputable section
noncomputable def lr (Φ : List D → Res (Bool × D)) : Me → Res D :=
 (aU (aj (aH 0) (aj (fFn Φ (aj (aH 1) (aj (aH 2) aA))) aA)))
noncomputable def cY (Φ : List D → Res (Bool × D)) : Me → Res D :=
 (bZ 2 [1] (o7 (au gIx (ak 0) (fC (.int 2)))) (jl 2 (bj (hName 0) (bj (hName 1) iW))) dX (lr Φ))
noncomputable def lC (Φ : List D → Res (Bool × D)) : Me → Res D :=
 (aU (aj (au bR (au gIx (ak 2) (fC (.int 0))) (ak 0)) (aj (fFn Φ (aj (aH 1) (aj (aH 2) aA))) aA)))
noncomputable def cX (Φ : List D → Res (Bool × D)) : Me → Res D :=
 (bZ 2 [1] (o7 (au gIx (ak 0) (fC (.int 3)))) (jl 2 (bj (hName 0) (bj (hName 1) iW))) dX (lC Φ))
noncomputable def fW (l_2 : Me → Res D) (l_4 : Me → Res D) : Me → Res (Fl × Me) :=
 (aK (gIf (aM gEq (au gIx (ak 0) (fC (.int 0))) (fC (.str "end"))) (bD (aH 0)) gNx)
 (aK (gIf (aM gEq (au gIx (ak 0) (fC (.int 0))) (fC (.str "deal"))) (bD (aU (aj (fC (.str "deal")) (aj (au bR (au gIx (ak 1) (fC (.int 3))) (au gIx (ak 0) (fC (.int 1)))) (aj (aW gP (aj l_2 aA)) aA))))) gNx)
 (aK (bu 2 l_4)
 (bD (aU (aj (fC (.str "move")) (aj (au gIx (ak 0) (fC (.int 1))) (aj (au bR (au gIx (ak 1) (au gIx (ak 0) (fC (.int 1)))) (au gIx (ak 0) (fC (.int 2)))) (aj (aW gP (aj (ak 2) aA)) aA)))))))))
noncomputable def aV:Nat->List D->Res (Bool×D)
 |0=>λ_=>.stuck
 |n+1=>aY 3 2
   (fW (cY (aV n)) (cX (aV n)))
noncomputable def kj : Me → Res D :=
 (aU (aj (au bR (au gIx (ak 2) (ak 3)) (ak 0)) (aj (au bR (au gIx (ak 2) (fC (.int 0))) (ak 1)) aA)))
noncomputable def eX : Me → Res D :=
 (bZ 2 [1, 2] (o7 (aH 5)) (jl 2 (bj (hName 0) (bj (hName 1) iW))) dX kj)
noncomputable def j9 : Me → Res D :=
 (au bR (au gIx (ak 1) (fC (.int 0))) (ak 0))
noncomputable def fG : Me → Res D :=
 (bZ 1 [1] (o7 (aH 4)) (hName 0) dX j9)
noncomputable def jt (l_2 : Me → Res D) (l_4 : Me → Res D) : Me → Res (Fl × Me) :=
 (aK (Yv (aH 0) (jl 4 (bj (hName 2) (bj (hName 3) (bj (hName 4) (bj (hName 5) iW))))))
 (aK (bu 6 (aW gP (aj l_2 aA)))
 (bD (aU (aj (aH 2) (aj (au bR (au gIx (ak 1) (ak 2)) (ak 3)) (aj (aW gP (aj l_4 aA)) (aj (aH 6) aA))))))))
noncomputable def qw : Me → Res (Fl × Me) :=
 (jt eX fG)
noncomputable def ju:List D->Res (Bool×D):=aY 7 2 qw
noncomputable def fY : Me → Res (Fl × Me) :=
 (aK (JM 2 (au gIx (ak 1) (ak 4)) (Dg 3 (au bO (ak 0) (aW iU (aj (ak 3) aA)))))
 (bu 0 (au eQ (ak 0) (fC (.int 8)))))
noncomputable def lu : Me → Res (Fl × Me) :=
 (jD (uo (aj (fC (.int 8)) aA)) (hName 4) fY)
noncomputable def jL (l_2 : Me → Res (Fl × Me)) : Me → Res (Fl × Me) :=
 (aK (jE 2 TF)
 (aK (jE 3 (aW yj (aj (ak 1) aA)))
 (aK l_2
 (uw 2))))
noncomputable def rF : Me → Res (Fl × Me) :=
 (jL lu)
noncomputable def iB:List D->Res (Bool×D):=aY 5 2 rF
noncomputable def iZ : Me → Res (Fl × Me) :=
 (aK (bu 6 (au gIx (ak 5) (fC (.int 3))))
 (aK (gIf (aM gEq (au gIx (ak 5) (fC (.int 0))) (ak 1)) (bu 6 (au cF (aU (aj (aU (aj (aH 2) (aj (aH 3) aA))) aA)) (ak 6))) gNx)
 (iQ 4 (aU (aj (au gIx (ak 5) (fC (.int 0))) (aj (au gIx (ak 5) (fC (.int 1))) (aj (au gIx (ak 5) (fC (.int 2))) (aj (aH 6) aA))))))))
noncomputable def zj : Me → Res (Fl × Me) :=
 (jD (fO (aH 0)) (hName 5) iZ)
noncomputable def oK (l_2 : Me → Res (Fl × Me)) : Me → Res (Fl × Me) :=
 (aK (jE 4 (gM aA))
 (aK l_2
 (bD (au cF (gM (aj (aU (aj (aH 1) (aj (aH 2) (aj (aU (aj (aH 3) aA)) (aj (aU aA) aA))))) aA)) (ak 4)))))
noncomputable def vI : Me → Res (Fl × Me) :=
 (oK zj)
noncomputable def lD:List D->Res (Bool×D):=aY 7 4 vI
noncomputable def sy : Me → Res D :=
 (au gIx (ak 0) (fC (.int 1)))
noncomputable def lq : Me → Res D :=
 (bZ 1 [2] (fO (ak 1)) (hName 0) (aM gEq (au gIx (ak 0) (fC (.int 0))) (ak 1)) sy)
noncomputable def lz : Me → Res D :=
 (bZ 1 [4] (fO (ak 3)) (hName 0) (aM Ob (ak 0) (ak 1)) (aH 0))
noncomputable def qH (φ_look : List D → Res (Bool × D)) (φ__law_ahead : List D → Res (Bool × D)) (l_2 : Me → Res D) (l_3 : Me → Res D) : Me → Res (Fl × Me) :=
 (aK (bu 4 l_2)
 (aK (bu 5 l_3)
 (aK (gIf (aM gEq (aW iU (aj (ak 5) aA)) (fC (.int 0))) (bD (fC (.bl true))) gNx)
 (aK (bu 6 (fFn φ_look (aj (aU (aj (fC (.str "move")) (aj (aH 2) (aj (au gIx (ak 5) (fC (.int 0))) (aj (aU (aj (aU (aj (au gIx (ak 5) (fUn uc (fC (.int 1)))) (aj (aH 0) aA))) aA)) aA))))) aA)))
 (bD (rn gEq (ak 6) (fFn φ__law_ahead (aj (aH 1) (aj (aH 2) (aj (au gIx (ak 5) (fC (.int 0))) (aj (au gIx (ak 5) (fUn uc (fC (.int 1)))) aA)))))))))))
noncomputable def iy : Me → Res (Fl × Me) :=
 (qH jf lD lq lz)
noncomputable def kY:List D->Res (Bool×D):=aY 7 4 iy
noncomputable def Mu : Me → Res D :=
 (aU (aj (au gC (fC (.int 3)) (au gIx (ak 0) (fC (.int 0)))) (aj (au gIx (ak 0) (fC (.int 1))) (aj (au gIx (ak 0) (fC (.int 2))) (aj (au gIx (ak 0) (fC (.int 3))) aA)))))
noncomputable def Ex : Me → Res D :=
 (bZ 1 [] (fO (ak 4)) (hName 0) dX Mu)
noncomputable def qJ : Me → Res D :=
 (fFn iB (aj (fFn dM (aj (aH 2) (aj (au cF (fC (.int 4)) (ak 0)) aA))) (aj (aH 1) aA)))
noncomputable def CV : Me → Res D :=
 (bZ 1 [1, 0] (uo (aj (fC (.int 4)) aA)) (hName 0) dX qJ)
noncomputable def Gw : Me → Res D :=
 (fFn ju (aj (aH 0) (aj (aH 1) aA)))
noncomputable def De : Me → Res D :=
 (bZ 1 [7] (fO (ak 4)) (hName 0) dX Gw)
noncomputable def Fy : Me → Res (Fl × Me) :=
 (gIf (aM gNe (fFn jf (aj (aU (aj (fC (.str "deal")) (aj (au gIx (ak 1) (au bO (au eQ (ak 2) (fC (.int 1152))) (fC (.int 8)))) (aj (aW gP (aj (ak 9) aA)) aA)))) aA)) (ak 4)) (bD (fC (.bl false))) gNx)
noncomputable def Fi : Me → Res (Fl × Me) :=
 (jD (fO (gM (aj (gM (aj (aU (aj (aU (aj (fC (.int 1)) (aj (fC (.int 2)) aA))) (aj (aH 3) aA))) (aj (aU (aj (aU (aj (fC (.int 1)) (aj (fC (.int 2)) aA))) (aj (aH 3) aA))) aA))) (aj (gM (aj (aU (aj (aU (aj (fC (.int 1)) (aj (fC (.int 3)) aA))) (aj (aH 8) aA))) (aj (aU (aj (aU (aj (fC (.int 2)) (aj (fC (.int 3)) aA))) (aj (aH 3) aA))) aA))) (aj (gM (aj (aU (aj (aU (aj (fC (.int 1)) (aj (fC (.int 1)) aA))) (aj (aH 3) aA))) aA)) aA))))) (hName 9) Fy)
noncomputable def K8 (φ_turned : List D → Res (Bool × D)) (φ_look : List D → Res (Bool × D)) (φ__law_cell_at : List D → Res (Bool × D)) (φ__law_pool : List D → Res (Bool × D)) (φ__law_game : List D → Res (Bool × D)) (φ__law_is_table : List D → Res (Bool × D)) (φ__law_named : List D → Res (Bool × D)) (φ__law_moved : List D → Res (Bool × D)) (l_2 : Me → Res D) (l_4 : Me → Res D) (l_6 : Me → Res D) (l_8 : Me → Res (Fl × Me)) : Me → Res (Fl × Me) :=
 (aK (bu 1 (fFn φ__law_pool (aj (fFn φ__law_cell_at (aj (aH 0) (aj (fC (.int 0)) aA))) (aj (fFn φ__law_cell_at (aj (aH 0) (aj (fC (.int 1)) aA))) aA))))
 (aK (bu 2 (fFn φ__law_cell_at (aj (aH 0) (aj (fC (.int 2)) aA))))
 (aK (bu 3 (fFn φ__law_game (aj (au cF (fSl (ak 0) (fO1 (fC (.int 8))) (fO1 (fC (.int 48)))) (gM (aj (fFn φ__law_cell_at (aj (aH 0) (aj (fC (.int 3)) aA))) aA))) (aj (aH 2) (aj (fC (.int 6)) (aj (fC (.int 27)) (aj (aH 1) aA)))))))
 (aK (bu 4 (fFn φ_look (aj (aH 3) aA)))
 (aK (gIf (kO (fTv (fFn φ__law_is_table (aj (aH 4) aA)))) (bD (fC (.bl false))) gNx)
 (aK (bu 5 (aW yj (aj (ak 4) aA)))
 (aK (bu 6 (fFn φ_turned (aj (aH 3) aA)))
 (aK (gIf (pC (aM gNe (fFn φ_look (aj (aH 6) aA)) l_2) (aM gNe (fFn φ_look (aj (fFn φ_turned (aj (aH 6) aA)) aA)) (ak 4))) (bD (fC (.bl false))) gNx)
 (aK (bu 7 l_4)
 (aK (gIf (aM gNe (fFn φ_look (aj (fFn φ__law_named (aj (aH 3) (aj (aH 7) aA))) aA)) l_6) (bD (fC (.bl false))) gNx)
 (aK (bu 8 (aU (aj (fC (.str "end")) (aj (aU (aj (au gC (au bO (au eQ (ak 2) (fC (.int 128))) (fC (.int 9))) (fC (.int 4))) (aj (fC (.int 1)) aA))) aA))))
 (aK l_8
 (bD (Px (fFn φ__law_moved (aj (aH 3) (aj (aH 4) (aj (fC (.int 1)) (aj (aH 1) aA))))) (Px (fFn φ__law_moved (aj (aH 3) (aj (aH 4) (aj (fC (.int 2)) (aj (aH 1) aA))))) (rn gEq (ak 4) (ak 5)))))))))))))))))
noncomputable def XX : Me → Res (Fl × Me) :=
 (K8 (dI 30) jf dM pM pL iC (aV 30) kY Ex CV De Fi)
noncomputable def XM:List D->Res (Bool×D):=aY 10 1 XX
end
end K16
namespace Pk
open PySem L2 Hd F
noncomputable abbrev KR:=List Kt×D
noncomputable def kr (p:List Int×Gm×Rc):Option KR:=match p.2.1 with
 | .move s n ws=>some (kn s n,cV s n ws p.2.2)
 |_=>none
noncomputable def ins (T:Tb)(x:KR):Tb:=if x.1∈T.1 then T else (T.1++[x.1],T.2++[x.2])
noncomputable def LTb (T:Tb):Prop:=T.1.length=T.2.length
theorem Fv {k:List Kt}:∀{ks:List (List Kt)} {ds:List D},ks.length=ds.length->((cQ ks ds k).isSome=true↔k∈ks)
 |[],[],_=>by simp [cQ]
 |[],_::_,h=>by simp at h
 |_::_,[],h=>by simp at h
 |a::ks,d::ds,h=>by
  have ih:=Fv (k:=k) (ks:=ks) (ds:=ds) (by simpa using h)
  unfold cQ
  by_cases q:a=k
  ·rw [if_pos q]; simp [q]
  ·rw [if_neg q,ih]
   simp [Ne.symm q]
theorem Xg {T:Tb}(h:LTb T)(p:List Int×Gm×Rc):tst T p=(match kr p with | some x=>ins T x | none=>T):=by
 obtain ⟨w,g,r⟩:=p
 cases g with
 |fin d=>rfl
 |deal n ws=>rfl
 |move s n ws=>
  show (if (cQ T.1 T.2 (kn s n)).isSome then T else _)=(if kn s n∈T.1 then T else _)
  by_cases q:kn s n∈T.1
  ·rw [if_pos q,if_pos ((Fv h).mpr q)]
  ·rw [if_neg q,if_neg λz=>q ((Fv h).mp z)]
theorem Va {T:Tb}(h:LTb T)(x:KR):LTb (ins T x):=by
 unfold ins LTb at *
 split
 ·exact h
 ·simp [h]
theorem Aa:∀(l:List (List Int×Gm×Rc)) (T:Tb),LTb T->l.foldl tst T=(l.filterMap kr).foldl ins T
 |[],T,_=>rfl
 |p::l,T,h=>by
  rw [List.foldl_cons,Xg h p,List.filterMap_cons]
  cases q:kr p with
  |none=>exact Aa l T h
  |some x=>exact Aa l (ins T x) (Va h x)
noncomputable def tabI (l:List KR):Tb:=l.foldl ins ([],[])
theorem qF (l:List (List Int×Gm×Rc)):tbl l=tabI (l.filterMap kr):=Aa l ([],[]) rfl
theorem ins_map {f:KR->KR}{P:List Kt->Prop}{κ:List Kt->List Kt}{ρ:D->D}(hf:∀x,f x=(κ x.1,ρ x.2))(hi:∀a b,P a->P b->κ a=κ b->a=b):∀(l:List KR) (T:Tb),(∀x∈l,P x.1)->(∀k∈T.1,P k)->(l.map f).foldl ins (T.1.map κ,T.2.map ρ)=((l.foldl ins T).1.map κ,(l.foldl ins T).2.map ρ)
 |[],T,_,_=>rfl
 |x::l,T,h,hT=>by
  have hx:=h x List.mem_cons_self
  have hl:=λy hy=>h y (List.mem_cons_of_mem _ hy)
  rw [List.map_cons,List.foldl_cons,List.foldl_cons,hf]
  by_cases q:x.1∈T.1
  ·have e1:ins (T.1.map κ,T.2.map ρ) (κ x.1,ρ x.2)=(T.1.map κ,T.2.map ρ):=if_pos (List.mem_map.mpr ⟨_,q,rfl⟩)
   rw [e1,show ins T x=T from if_pos q]
   exact ins_map hf hi l T hl hT
  ·have q':¬κ x.1∈T.1.map κ:=λz=>by
    obtain ⟨y,hy,e⟩:=List.mem_map.mp z
    exact q (hi _ _ (hT y hy) hx e ▸ hy)
   have e1:ins (T.1.map κ,T.2.map ρ) (κ x.1,ρ x.2)=((T.1++[x.1]).map κ,(T.2++[x.2]).map ρ):=by
    show (if κ x.1∈T.1.map κ then _ else _)=_
    rw [if_neg q',List.map_append,List.map_append]; rfl
   rw [e1,show ins T x=(T.1++[x.1],T.2++[x.2]) from if_neg q]
   exact ins_map hf hi l (T.1++[x.1],T.2++[x.2]) hl λk hk=>(List.mem_append.mp hk).elim (hT k) λz=>by rw [List.mem_singleton.mp z]; exact hx
theorem M6 {f:KR->KR}{P:List Kt->Prop}{κ:List Kt->List Kt}{ρ:D->D}(hf:∀x,f x=(κ x.1,ρ x.2))(hi:∀a b,P a->P b->κ a=κ b->a=b)(l:List KR)(h:∀x∈l,P x.1):tabI (l.map f)=((tabI l).1.map κ,(tabI l).2.map ρ):=
 ins_map hf hi l ([],[]) h λ_ z=>nomatch z
theorem Cd:∀(l:List KR) (T:Tb),(∀x∈l,x.1∈T.1)->l.foldl ins T=T
 |[],T,_=>rfl
 |x::l,T,h=>by
  rw [List.foldl_cons,show ins T x=T from if_pos (h x List.mem_cons_self)]
  exact Cd l T λy hy=>h y (List.mem_cons_of_mem _ hy)
theorem Hi:∀(l:List KR) (T:Tb) (k:List Kt),k∈T.1->k∈(l.foldl ins T).1
 |[],_,_,h=>h
 |x::l,T,k,h=>Hi l (ins T x) k (by unfold ins; split; exact h; exact List.mem_append_left _ h)
theorem Ew:∀(l:List KR) (T:Tb),∀x∈l,x.1∈(l.foldl ins T).1
 |[],_,_,h=>by cases h
 |y::l,T,x,h=>by
  rcases List.mem_cons.mp h with rfl | h
  ·refine Hi l _ _ ?_
   unfold ins
   split
   ·assumption
   ·simp
  ·exact Ew l _ x h
theorem Og (l:List KR):tabI (l++l)=tabI l:=by
 unfold tabI
 rw [List.foldl_append]
 exact Cd l _ (Ew l _)
theorem xG (k:List Kt)(d:D):∀(l:List KR) (T:Tb),(∀x∈l,x.1≠k)->l.foldl ins (k::T.1,d::T.2)=(k::(l.foldl ins T).1,d::(l.foldl ins T).2)
 |[],T,_=>rfl
 |x::l,T,h=>by
  have hx:=h x List.mem_cons_self
  have hl:=λy hy=>h y (List.mem_cons_of_mem _ hy)
  rw [List.foldl_cons,List.foldl_cons]
  by_cases q:x.1∈T.1
  ·rw [show ins (k::T.1,d::T.2) x=(k::T.1,d::T.2) from if_pos (List.mem_cons_of_mem _ q),show ins T x=T from if_pos q]
   exact xG k d l T hl
  ·have q':¬x.1∈k::T.1:=λz=>(List.mem_cons.mp z).elim hx q
   rw [show ins (k::T.1,d::T.2) x=(k::(T.1++[x.1]),d::(T.2++[x.2])) from if_neg q',show ins T x=(T.1++[x.1],T.2++[x.2]) from if_neg q]
   exact xG k d l (T.1++[x.1],T.2++[x.2]) hl
theorem Oj {k:List Kt}{d:D}{l:List KR}(h:∀x∈l,x.1≠k):tabI ((k,d)::l)=(k::(tabI l).1,d::(tabI l).2):=xG k d l ([],[]) h
theorem T5 {l:List (List Int×Gm×Rc)}(h:∀p∈l,∀q∈l,∀x y:KR,kr p=some x->kr q=some y->x.1=y.1->x.2=y.2)(ho:∀p∈l,∀x:KR,kr p=some x->okR x.2):∃ρ,∀p∈l,Oi ρ p:=by
 classical
 refine ⟨λs n=>if h:∃d,∃p∈l,kr p=some (kn s n,d) then Classical.choose h else .non,λp hp s n ws e=>?_⟩
 have e1:kr p=some (kn s n,cV s n ws p.2.2):=by unfold kr; rw [e]
 have hx:∃d,∃p∈l,kr p=some (kn s n,d):=⟨_,p,hp,e1⟩
 obtain ⟨q,hq,e2⟩:=Classical.choose_spec hx
 simp only [dif_pos hx]
 exact ⟨h p hp q hq _ _ e1 e2 rfl,ho q hq _ e2⟩
theorem Jh {l:List (List Int×Gm×Rc)}{ρ:Int->Str->D}(h:∀p∈l,Oi ρ p):(∀p∈l,∀q∈l,∀x y:KR,kr p=some x->kr q=some y->x.1=y.1->x.2=y.2)/\∀p∈l,∀x:KR,kr p=some x->okR x.2:=by
 have one:∀p∈l,∀x:KR,kr p=some x->∃s n,x.1=kn s n/\x.2=ρ s n/\okR x.2:=λp hp x e=>by
  unfold kr at e
  split at e
  ·rename_i s n ws ep
   cases e
   obtain ⟨h1,h2⟩:=h p hp s n ws ep
   exact ⟨s,n,rfl,h1,by show okR (cV s n ws p.2.2); rw [h1]; exact h2⟩
  ·cases e
 refine ⟨λp hp q hq x y e1 e2 e=>?_,λp hp x e=>?_⟩
 ·obtain ⟨s,n,a1,a2,_⟩:=one p hp x e1
  obtain ⟨t,m,b1,b2,_⟩:=one q hq y e2
  obtain ⟨rfl,rfl⟩:=xR (a1.symm.trans (e.trans b1))
  rw [a2,b2]
 ·obtain ⟨_,_,_,_,h⟩:=one p hp x e
  exact h
structure Mp where
 φ:Q2->Q2
 δ:Str->Str
 σ:Int->Int
 ν:Int->Str->Str
 ω:D->D
mutual
noncomputable def mpG (M:Mp):Gm->Gm
 | .fin d=>.fin (M.φ d)
 | .deal n ws=>.deal (M.δ n) (mpW M id ws)
 | .move s n ws=>.move (M.σ s) (M.ν s n) (mpW M M.ω ws)
noncomputable def mpW (M:Mp)(f:D->D):Ws->Ws
 | .nil=>.nil
 | .cons l g r=>.cons (f l) (mpG M g) (mpW M f r)
end
section
variable (M:Mp)
theorem yW (f:D->D):∀ws:Ws,eV (mpW M f ws)=(eV ws).map f
 | .nil=>rfl
 | .cons l g r=>by show f l::eV (mpW M f r)=_; rw [yW f r]; rfl
theorem rC (f:D->D):∀ws:Ws,jq (mpW M f ws)=jq ws
 | .nil=>rfl
 | .cons l g r=>by show jq (mpW M f r)+1=_; rw [rC f r]; rfl
mutual
theorem Rj:∀g:Gm,dp (mpG M g)=dp g
 | .fin d=>rfl
 | .deal n ws=>by show dpW (mpW M id ws)+1=_; rw [Jy id ws]; rfl
 | .move s n ws=>by show dpW (mpW M M.ω ws)+1=_; rw [Jy M.ω ws]; rfl
theorem Jy (f:D->D):∀ws:Ws,dpW (mpW M f ws)=dpW ws
 | .nil=>rfl
 | .cons l g r=>by show max (dp (mpG M g)) (dpW (mpW M f r))=_; rw [Rj g,Jy f r]; rfl
end
mutual
theorem Yg:∀g:Gm,szG (mpG M g)=szG g
 | .fin d=>rfl
 | .deal n ws=>by show szW (mpW M id ws)+1=_; rw [Jz id ws]; rfl
 | .move s n ws=>by show szW (mpW M M.ω ws)+1=_; rw [Jz M.ω ws]; rfl
theorem Jz (f:D->D):∀ws:Ws,szW (mpW M f ws)=szW ws
 | .nil=>rfl
 | .cons l g r=>by show szG (mpG M g)+szW (mpW M f r)=_; rw [Yg g,Jz f r]; rfl
end
mutual
theorem Ec:∀g:Gm,fP g->fP (mpG M g)
 | .fin d,_=>trivial
 | .deal n ws,h=>⟨by rw [rC]; exact h.1,Ar id ws h.2⟩
 | .move s n ws,h=>⟨by rw [rC]; exact h.1,Ar M.ω ws h.2⟩
theorem Ar (f:D->D):∀ws:Ws,rN ws->rN (mpW M f ws)
 | .nil,_=>trivial
 | .cons l g r,h=>⟨Ec g h.1,Ar f r h.2⟩
end
mutual
theorem X6 (hs:∀s,s=1\/s=2->M.σ s=1\/M.σ s=2):∀g:Gm,sdG g->sdG (mpG M g)
 | .fin d,_=>trivial
 | .deal n ws,h=>Ju hs id ws h
 | .move s n ws,h=>⟨hs s h.1,Ju hs M.ω ws h.2⟩
theorem Ju (hs:∀s,s=1\/s=2->M.σ s=1\/M.σ s=2)(f:D->D):∀ws:Ws,sdW ws->sdW (mpW M f ws)
 | .nil,_=>trivial
 | .cons l g r,h=>⟨X6 hs g h.1,Ju hs f r h.2⟩
end
noncomputable def mpP (ρ:Rc->Rc)(p:List Int×Gm×Rc):List Int×Gm×Rc:=(p.1,mpG M p.2.1,ρ p.2.2)
mutual
theorem S9 {ρ:Rc->Rc}(hρ:∀s n r l,s=1\/s=2->rbm (M.σ s) (M.ν s n) (ρ r) (M.ω l)=ρ (rbm s n r l)):∀(w:List Int) (r:Rc) (g:Gm),sdG g->prG w (ρ r) (mpG M g)=(prG w r g).map (mpP M ρ)
 |w,r,.fin d,_=>rfl
 |w,r,.deal n ws,h=>by
  show (w,mpG M (.deal n ws),ρ r)::prW w (λ_=>ρ r) 0 (mpW M id ws)=_
  rw [Kf hρ w (λ_=>r) (λ_=>ρ r) id 0 ws h λ_=>rfl]
  rfl
 |w,r,.move s n ws,h=>by
  show (w,mpG M (.move s n ws),ρ r)::prW w (rbm (M.σ s) (M.ν s n) (ρ r)) 0 (mpW M M.ω ws)=_
  rw [Kf hρ w (rbm s n r) _ M.ω 0 ws h.2 λl=>hρ s n r l h.1]
  rfl
theorem Kf {ρ:Rc->Rc}(hρ:∀s n r l,s=1\/s=2->rbm (M.σ s) (M.ν s n) (ρ r) (M.ω l)=ρ (rbm s n r l)):∀(w:List Int) (f f':D->Rc) (u:D->D) (i:Nat) (ws:Ws),sdW ws->(∀l,f' (u l)=ρ (f l))->prW w f' i (mpW M u ws)=(prW w f i ws).map (mpP M ρ)
 |w,f,f',u,i,.nil,_,_=>rfl
 |w,f,f',u,i,.cons l g r,h,hf=>by
  show prG (w++[(i:Int)]) (f' (u l)) (mpG M g)++prW w f' (i+1) (mpW M u r)=(prG (w++[(i:Int)]) (f l) g++prW w f (i+1) r).map (mpP M ρ)
  rw [hf l,S9 hρ _ (f l) g h.1,Kf hρ w f f' u (i+1) r h.2 hf,List.map_append]
end
end
mutual
theorem vf:∀(w v:List Int) (r:Rc) (g:Gm),(prG w r g).map (·.2)=(prG v r g).map (·.2)
 |w,v,r,.fin d=>rfl
 |w,v,r,.deal n ws=>by
  show _::(prW w _ 0 ws).map (·.2)=_::(prW v _ 0 ws).map (·.2)
  rw [Gy w v _ 0 ws]
 |w,v,r,.move s n ws=>by
  show _::(prW w _ 0 ws).map (·.2)=_::(prW v _ 0 ws).map (·.2)
  rw [Gy w v _ 0 ws]
theorem Gy:∀(w v:List Int) (f:D->Rc) (i:Nat) (ws:Ws),(prW w f i ws).map (·.2)=(prW v f i ws).map (·.2)
 |w,v,f,i,.nil=>rfl
 |w,v,f,i,.cons l g r=>by
  show (prG _ (f l) g++prW w f (i+1) r).map (·.2)=(prG _ (f l) g++prW v f (i+1) r).map (·.2)
  rw [List.map_append,List.map_append,vf _ (v++[(i:Int)]) (f l) g,Gy w v f (i+1) r]
end
theorem xg:∀{l l':List (List Int×Gm×Rc)},l.map (·.2)=l'.map (·.2)->l.filterMap kr=l'.filterMap kr
 |[],[],_=>rfl
 |[],_::_,h=>by cases h
 |_::_,[],h=>by cases h
 |(w,p)::l,(v,q)::l',h=>by
  injection h with h1 h2
  have h1:p=q:=h1
  subst h1
  have e:kr (w,p)=kr (v,p):=rfl
  rw [List.filterMap_cons,List.filterMap_cons,e,xg h2]
theorem Sg {w v:List Int}{r:Rc}{g:Gm}{p:List Int×Gm×Rc}(h:p∈prG w r g):∃q∈prG v r g,q.2=p.2:=by
 have:p.2∈(prG w r g).map (·.2):=List.mem_map.mpr ⟨p,h,rfl⟩
 rw [vf w v r g] at this
 obtain ⟨q,hq,e⟩:=List.mem_map.mp this
 exact ⟨q,hq,e⟩
open PySem L2 Hd F
theorem abB (a b:Rat):Rat.divInt (a.num * b.den - b.num * a.den) (a.den * b.den)=a - b:=by
 have h:=Up a (-b)
 rw [Rat.neg_num,Rat.neg_den,Int.neg_mul,← Int.sub_eq_add_neg] at h
 rw [h,Rat.sub_eq_add_neg]
theorem PL {a b:Rat}{k l:Nat}(ha:Sz k a)(hb:Sz l b)(hk:k+l<=4000):jM [rD a,rD b]=.ok (false,rD (a - b)):=by
 have h1:=Cy ha (by omega)
 have h2:=Cy hb (by omega)
 have h3:=RZ ha hb hk
 have e:=Ao (t:=a.num * b.den - b.num * a.den) (Ii a b) h3
 rw [abB] at e
 simp [jM,Ey,Gv,aY,bD,Me.let,Sl.let,fFn,aj,aA,au,ak,fC,gIx,NP,ix0,ix1,lM,h1,h2,F.gC] at e ⊢
 rw [e]
 rfl
mutual
noncomputable def fnG (P:Q2->Prop):Gm->Prop
 | .fin d=>P d
 | .deal _ ws=>fnW P ws
 | .move _ _ ws=>fnW P ws
noncomputable def fnW (P:Q2->Prop):Ws->Prop
 | .nil=>True
 | .cons _ g r=>fnG P g/\fnW P r
end
mutual
theorem Lr {P:Q2->Prop}:∀(w:List Int) (r:Rc) (g:Gm),(∀p∈prG w r g,∀d,p.2.1=.fin d->P d)->fnG P g
 |w,r,.fin d,h=>h (w,.fin d,r) (by simp [prG]) d rfl
 |w,r,.deal n ws,h=>J9 w _ 0 ws λp hp=>h p (List.mem_cons_of_mem _ hp)
 |w,r,.move s n ws,h=>J9 w _ 0 ws λp hp=>h p (List.mem_cons_of_mem _ hp)
theorem J9 {P:Q2->Prop}:∀(w:List Int) (f:D->Rc) (i:Nat) (ws:Ws),(∀p∈prW w f i ws,∀d,p.2.1=.fin d->P d)->fnW P ws
 |w,f,i,.nil,_=>trivial
 |w,f,i,.cons l g r,h=>⟨Lr _ (f l) g λp hp=>h p (List.mem_append_left _ hp),J9 w f (i+1) r λp hp=>h p (List.mem_append_right _ hp)⟩
end
noncomputable def Mt:Mp:=⟨λd=>(-d.1,d.2),id,λs=>3 - s,λ_ n=>n,id⟩
noncomputable def swR (r:Rc):Rc:=(r.2,r.1)
theorem aaa (s:Int)(n:Str)(r:Rc)(l:D)(h:s=1\/s=2):rbm (Mt.σ s) (Mt.ν s n) (swR r) (Mt.ω l)=swR (rbm s n r l):=by
 rcases h with rfl | rfl <;> rfl
noncomputable def Fj (d:Q2):Prop:=smQ d/\∃q:Rat,d=rq q
theorem abO {q:Rat}(h:smQ (rq q)):Sz 40 q:=by
 obtain ⟨h1,h2⟩:=h
 have h1:q.num.natAbs<=999999999999:=h1
 have h2:(q.den:Int)<=999:=h2
 exact ⟨Nat.lt_of_le_of_lt h1 (by decide),Nat.lt_of_le_of_lt (show q.den<=999 by omega) (by decide)⟩
theorem Xj {d:Q2}(h:Fj d):jM [.tup [.int 0,.int 1],qD d]=.ok (false,qD (Mt.φ d)):=by
 obtain ⟨h1,q,rfl⟩:=h
 have e:=PL (a:=0) (b:=q) Gj (abO h1) (by decide)
 rw [show (0:Rat) - q=-q by rw [Rat.sub_eq_add_neg,Rat.zero_add]] at e
 have e2:rD (-q)=qD (Mt.φ (rq q)):=by show qD ((-q).num,((-q).den:Int))=qD (-q.num,(q.den:Int)); rw [Rat.neg_num,Rat.neg_den]
 rw [e2] at e
 exact e
theorem K6 {Φ:List D->Res (Bool×D)}:∀ws:Ws,(∀g∈fV ws,Φ [dG g]=.ok (false,dG (mpG Mt g)))->cA (jl 2 (bj (hName 0) (bj (hName 1) iW))) dX (qZ Φ) [.un,.un] (dWs ws)=.ok (dWs (mpW Mt id ws))
 | .nil,_=>rfl
 | .cons l g r,h=>by
  have ih:=K6 r λx hx=>h x (List.mem_cons_of_mem _ hx)
  have e:qZ Φ [.fz l,.fz (dG g)]=.ok (.tup [l,dG (mpG Mt g)]):=by
   simp [qZ,aU,aj,aA,aH,fFn,h g List.mem_cons_self]
  show cA _ _ _ _ (.tup [l,dG g]::dWs r)=.ok (.tup [l,dG (mpG Mt g)]::dWs (mpW Mt id r))
  unfold cA
  rw [show jl 2 (bj (hName 0) (bj (hName 1) iW)) (.tup [l,dG g]) [.un,.un]=some [.fz l,.fz (dG g)] from rfl]
  simp only [dX,e,ih]
theorem aaz {Φ:List D->Res (Bool×D)}{ws:Ws}{d:D}{u:Sl}(hi:gIx d (.int (-1))=some (.tup (dWs ws)))(hl:jq ws<=100)(h:∀g∈fV ws,Φ [dG g]=.ok (false,dG (mpG Mt g))):iu Φ [.fz d,u]=.ok (.lst (dWs (mpW Mt id ws))):=by
 have ec:=K6 ws h
 have z:(dWs ws).length<=16777216:=by rw [jO]; omega
 generalize dWs (mpW Mt id ws)=R at *
 generalize dWs ws=L at *
 simp [iu,bZ,o7,au,ak,fUn,fC,uc,hi,cMe,ec,z]
theorem Jx {P:Q2->Prop}:∀{ws:Ws},fnW P ws->∀g∈fV ws,fnG P g
 | .nil,_,g,h=>by cases h
 | .cons l g r,h,x,hx=>by
  rcases List.mem_cons.mp hx with rfl | hx
  ·exact h.1
  ·exact Jx h.2 x hx
theorem zZ:∀{ws:Ws},∀g∈fV ws,dp g<=dpW ws
 | .nil,g,h=>by cases h
 | .cons l g r,x,hx=>by
  show dp x<=max (dp g) (dpW r)
  rcases List.mem_cons.mp hx with rfl | hx
  ·omega
  ·have:=zZ x hx; omega
theorem vO:∀{ws:Ws},rN ws->∀g∈fV ws,fP g
 | .nil,_,g,h=>by cases h
 | .cons l g r,h,x,hx=>by
  rcases List.mem_cons.mp hx with rfl | hx
  ·exact h.1
  ·exact vO h.2 x hx
theorem tV:∀(n:Nat) (g:Gm),dp g<n->fP g->fnG Fj g->dI n [dG g]=.ok (false,dG (mpG Mt g))
 |0,_,h,_,_=>by omega
 |n+1,.fin d,_,_,hf=>by
  have e:=Xj hf
  have x0:∀a b:D,atI [a,b] 0=some a:=λ_ _=>rfl
  have x1:∀a b:D,atI [a,b] 1=some b:=λ_ _=>rfl
  show aY 2 1 (jn jM (iu (dI n))) _=_
  generalize iu (dI n)=Q
  show aY 2 1 (jn jM Q) [.tup [.str "end",qD d]]=.ok (false,.tup [.str "end",qD (Mt.φ d)])
  generalize qD (Mt.φ d)=B at *
  generalize qD d=A at *
  simp [jn,aY,aK,gIf,aM,au,ak,fC,gIx,x0,x1,bD,Me.let,Sl.let,aU,aj,aA,fFn,e]
 |n+1,.deal m ws,hd,hl,hf=>by
  have hd:dpW ws+1<n+1:=hd
  have eq:=λu=>aaz (Φ:=dI n) (ws:=ws) (d:=dG (.deal m ws)) (u:=u) rfl hl.1 λg hg=>tV n g (by have:=zZ g hg; omega) (vO hl.2 g hg) (Jx hf g hg)
  have x0:∀a b c:D,atI [a,b,c] 0=some a:=λ_ _ _=>rfl
  have x1:∀a b c:D,atI [a,b,c] 1=some b:=λ_ _ _=>rfl
  have z:(dWs (mpW Mt id ws)).length<=16777216:=by rw [jO,rC]; have:=hl.1; omega
  show aY 2 1 (jn jM (iu (dI n))) _=.ok (false,.tup [.str "deal",.str m,.tup (dWs (mpW Mt id ws))])
  generalize iu (dI n)=Q at *
  generalize dWs (mpW Mt id ws)=R at *
  have eq:∀u,Q [.fz (.tup [.str "deal",.str m,.tup (dWs ws)]),u]=.ok (.lst R):=eq
  show aY 2 1 (jn jM Q) [.tup [.str "deal",.str m,.tup (dWs ws)]]=_
  generalize D.tup (dWs ws)=W at *
  simp [jn,aY,aK,gIf,aM,au,ak,fC,gIx,x0,x1,gNx,bu,aW,aj,aA,eq,gP,z,bD,Me.let,Sl.let,aU,aH]
 |n+1,.move s m ws,hd,hl,hf=>by
  have hd:dpW ws+1<n+1:=hd
  have eq:=λu=>aaz (Φ:=dI n) (ws:=ws) (d:=dG (.move s m ws)) (u:=u) rfl hl.1 λg hg=>tV n g (by have:=zZ g hg; omega) (vO hl.2 g hg) (Jx hf g hg)
  have x0:∀a b c d:D,atI [a,b,c,d] 0=some a:=λ_ _ _ _=>rfl
  have x1:∀a b c d:D,atI [a,b,c,d] 1=some b:=λ_ _ _ _=>rfl
  have x2:∀a b c d:D,atI [a,b,c,d] 2=some c:=λ_ _ _ _=>rfl
  have z:(dWs (mpW Mt id ws)).length<=16777216:=by rw [jO,rC]; have:=hl.1; omega
  show aY 2 1 (jn jM (iu (dI n))) _=.ok (false,.tup [.str "move",.int (3 - s),.str m,.tup (dWs (mpW Mt id ws))])
  generalize iu (dI n)=Q at *
  generalize dWs (mpW Mt id ws)=R at *
  have eq:∀u,Q [.fz (.tup [.str "move",.int s,.str m,.tup (dWs ws)]),u]=.ok (.lst R):=eq
  show aY 2 1 (jn jM Q) [.tup [.str "move",.int s,.str m,.tup (dWs ws)]]=_
  generalize D.tup (dWs ws)=W at *
  simp [jn,aY,aK,gIf,aM,au,ak,fC,gIx,x0,x1,x2,gNx,bu,aW,aj,aA,eq,gP,z,bD,Me.let,Sl.let,aU,aH,F.gC]
open PySem L2 Hd F
noncomputable def rwD (M:Mp)(pm:Int->D->D):D->D
 | .tup [.int s,.str n,.tup ws,.tup rc]=>.tup [.int (M.σ s),.str (M.ν s n),.tup (ws.map M.ω),.tup (rc.map (pm s))]
 |d=>d
noncomputable def kmp (M:Mp):List Kt->List Kt
 |[.k (.inl s),.k (.inr n)]=>[.k (.inl (M.σ s)),.k (.inr (M.ν s n))]
 |k=>k
structure Iz (M:Mp)(ρ:Rc->Rc)(pm:Int->D->D)(N:Int->Str->Prop):Prop where
 sd:∀s,s=1\/s=2->M.σ s=1\/M.σ s=2
 rb:∀s n r l,s=1\/s=2->rbm (M.σ s) (M.ν s n) (ρ r) (M.ω l)=ρ (rbm s n r l)
 at_:∀s r,s=1\/s=2->rQ (ρ r) (M.σ s)=(rQ r s).map (pm s)
 inj:∀s n t m,N s n->N t m->M.σ s=M.σ t->M.ν s n=M.ν t m->s=t/\n=m
 nil:ρ ([],[])=([],[])
section
variable {M:Mp}{ρ:Rc->Rc}{pm:Int->D->D}{N:Int->Str->Prop}
theorem Za (O:Iz M ρ pm N){s:Int}{n:Str}{ws:Ws}{r:Rc}(h:s=1\/s=2):cV (M.σ s) (M.ν s n) (mpW M M.ω ws) (ρ r)=rwD M pm (cV s n ws r):=by
 show D.tup [_,_,.tup (eV (mpW M M.ω ws)),.tup (rQ (ρ r) (M.σ s))]=_
 rw [yW,O.at_ s r h]
 rfl
theorem XR (O:Iz M ρ pm N){p:List Int×Gm×Rc}(h:okP p):kr (mpP M ρ p)=(kr p).map λx=>(kmp M x.1,rwD M pm x.2):=by
 obtain ⟨w,g,r⟩:=p
 cases g with
 |fin d=>rfl
 |deal n ws=>rfl
 |move s n ws=>
  have h:(s=1\/s=2)/\_:=h
  show some (kn (M.σ s) (M.ν s n),cV (M.σ s) (M.ν s n) (mpW M M.ω ws) (ρ r))=some (kn (M.σ s) (M.ν s n),rwD M pm (cV s n ws r))
  rw [Za O h.1]
theorem QZ (O:Iz M ρ pm N):∀{l:List (List Int×Gm×Rc)},(∀p∈l,okP p)->(l.map (mpP M ρ)).filterMap kr=(l.filterMap kr).map λx=>(kmp M x.1,rwD M pm x.2)
 |[],_=>rfl
 |p::l,h=>by
  have ih:=QZ O λq hq=>h q (List.mem_cons_of_mem _ hq)
  rw [List.map_cons,List.filterMap_cons,List.filterMap_cons,XR O (h p List.mem_cons_self),ih]
  cases kr p <;> rfl
noncomputable def NmG (N:Int->Str->Prop)(l:List (List Int×Gm×Rc)):Prop:=∀p∈l,∀s n ws,p.2.1=.move s n ws->N s n
theorem NQ (O:Iz M ρ pm N)(a b:List Kt)(ha:∃s n,a=kn s n/\N s n)(hb:∃s n,b=kn s n/\N s n)(e:kmp M a=kmp M b):a=b:=by
 obtain ⟨s,n,rfl,h1⟩:=ha
 obtain ⟨t,m,rfl,h2⟩:=hb
 obtain ⟨e1,e2⟩:=xR (show kn (M.σ s) (M.ν s n)=kn (M.σ t) (M.ν t m) from e)
 obtain ⟨rfl,rfl⟩:=O.inj s n t m h1 h2 e1 e2
 rfl
theorem DN {l:List (List Int×Gm×Rc)}(h:NmG N l):∀x∈l.filterMap kr,∃s n,x.1=kn s n/\N s n:=λx hx=>by
 obtain ⟨p,hp,e⟩:=List.mem_filterMap.mp hx
 unfold kr at e
 split at e
 ·rename_i s n ws ep
  cases e
  exact ⟨s,n,rfl,h p hp s n ws ep⟩
 ·cases e
theorem Gp (O:Iz M ρ pm N){g:Gm}(G:Gd g)(h:NmG N (prG [] ([],[]) g)):(tbl (prG [] ([],[]) (mpG M g))).2=(tbl (prG [] ([],[]) g)).2.map (rwD M pm):=by
 have e:=S9 M O.rb [] ([],[]) g G.sd
 rw [O.nil] at e
 rw [e,qF,qF,QZ O (tL [] ([],[]) g G.len G.sd),M6 (λ_=>rfl) (NQ O) _ (DN h)]
theorem X3 (O:Iz M ρ pm N){g:Gm}(G:Gd g)(h:NmG N (prG [] ([],[]) g))(hr:∀p∈prG [] ([],[]) g,∀x:KR,kr p=some x->okR (rwD M pm x.2))
  (hf:∀p∈prG [] ([],[]) g,okF (mpG M p.2.1)) (h1:okT ((tbl (prG [] ([],[]) g)).2.map (rwD M pm)) 1) (h2:okT ((tbl (prG [] ([],[]) g)).2.map (rwD M pm)) 2):Gd (mpG M g):=by
 have e:=S9 M O.rb [] ([],[]) g G.sd
 rw [O.nil] at e
 have ok:=tL [] ([],[]) g G.len G.sd
 obtain ⟨ρ0,hρ⟩:=G.row
 obtain ⟨r1,r2⟩:=Jh hρ
 refine ⟨Ec M g G.len,X6 M O.sd g G.sd,by rw [Rj]; exact G.dep,by rw [Yg]; exact G.sz,?_,?_,by rw [Gp O G h]; exact h1,by rw [Gp O G h]; exact h2⟩
 ·rw [e]
  have back:∀p∈(prG [] ([],[]) g).map (mpP M ρ),∀x:KR,kr p=some x->∃q∈prG [] ([],[]) g,∃y:KR,kr q=some y/\x=(kmp M y.1,rwD M pm y.2):=λp hp x ex=>by
   obtain ⟨q,hq,rfl⟩:=List.mem_map.mp hp
   rw [XR O (ok q hq)] at ex
   cases ey:kr q with
   |none=>rw [ey] at ex; cases ex
   |some y=>rw [ey] at ex; cases ex; exact ⟨q,hq,y,ey,rfl⟩
  refine T5 (λp hp q hq x y ex ey exy=>?_) λp hp x ex=>?_
  ·obtain ⟨p',hp',x',e1,rfl⟩:=back p hp x ex
   obtain ⟨q',hq',y',e2,rfl⟩:=back q hq y ey
   have kx:=DN h x' (List.mem_filterMap.mpr ⟨p',hp',e1⟩)
   have ky:=DN h y' (List.mem_filterMap.mpr ⟨q',hq',e2⟩)
   have:=NQ O _ _ kx ky exy
   show rwD M pm x'.2=rwD M pm y'.2
   rw [r1 p' hp' q' hq' x' y' e1 e2 this]
  ·obtain ⟨p',hp',x',e1,rfl⟩:=back p hp x ex
   exact hr p' hp' x' e1
 ·rw [e]
  intro p hp
  obtain ⟨q,hq,rfl⟩:=List.mem_map.mp hp
  exact ⟨hf q hq,Ec M _ (G.fr q hq).2⟩
end
theorem yU {R:D->D}{σ:Int->Int}{l:List D}{s t:Int}(h:okT l t)(hs:∀d∈l,sdD (R d)=σ (sdD d)/\wdD (R d)=wdD d)(ht:∀d∈l,σ (sdD d)=s↔sdD d=t):okT (l.map R) s:=by
 have e:(l.map R).filter (λd=>decide (sdD d=s))=(l.filter λd=>decide (sdD d=t)).map R:=by
  rw [List.filter_map]
  congr 1
  refine List.filter_congr λd hd=>?_
  show decide (sdD (R d)=s)=decide (sdD d=t)
  rw [(hs d hd).1]
  exact decide_eq_decide.mpr (ht d hd)
 have e2:((l.filter λd=>decide (sdD d=t)).map R).map (λd=>(wdD d:Int))=(l.filter λd=>decide (sdD d=t)).map λd=>(wdD d:Int):=by
  rw [List.map_map]
  refine List.map_congr_left λd hd=>?_
  show ((wdD (R d):Nat):Int)=_
  rw [(hs d (List.mem_filter.mp hd).1).2]
 unfold okT
 rw [e,e2,List.length_map]
 exact h
open PySem L2 Hd F
noncomputable def pmT:Int->D->D:=λ_ d=>d
noncomputable def side (s:Int)(_:Str):Prop:=s=1\/s=2
theorem XJ:Iz Mt swR pmT side where
 sd:=λs h=>by show 3 - s=1\/3 - s=2; omega
 rb:=aaa
 at_:=λs r h=>by
  rcases h with rfl | rfl
  ·show r.1=r.1.map id; simp
  ·show r.2=r.2.map id; simp
 inj:=λs n t m h1 h2 e1 e2=>⟨by have e1:3 - s=3 - t:=e1; omega,e2⟩
 nil:=rfl
theorem Ez {g:Gm}(h:fP g)(hs:sdG g):NmG side (prG [] ([],[]) g):=λp hp s n ws e=>by
 have:=tL [] ([],[]) g h hs p hp
 unfold okP at this
 rw [e] at this
 exact this.1
theorem Yk {s:Int}{n:Str}{ws:Ws}{r:Rc}:rwD Mt pmT (cV s n ws r)=.tup [.int (3 - s),.str n,.tup (eV ws),.tup (rQ r s)]:=by
 show D.tup [.int (3 - s),.str n,.tup ((eV ws).map id),.tup ((rQ r s).map id)]=_
 rw [List.map_id,List.map_id]
theorem TV {p:List Int×Gm×Rc}{x:KR}(h:kr p=some x):∃s n ws,p.2.1=.move s n ws/\x=(kn s n,cV s n ws p.2.2):=by
 unfold kr at h
 split at h
 ·rename_i s n ws e; cases h; exact ⟨s,n,ws,e,rfl⟩
 ·cases h
theorem UW {g:Gm}(h:fP g)(hs:sdG g){d:D}(hd:d∈(tbl (prG [] ([],[]) g)).2):∃s n ws r,(s=1\/s=2)/\d=cV s n ws r:=by
 rcases vL (prG [] ([],[]) g) ([],[]) d hd with z | ⟨p,hp,s,n,ws,ep,rfl⟩
 ·cases z
 ·exact ⟨s,n,ws,_,Ez h hs p hp s n ws ep,rfl⟩
theorem We {g:Gm}(G:Gd g):Gd (mpG Mt g):=by
 obtain ⟨ρ,hρ⟩:=G.row
 obtain ⟨_,r2⟩:=Jh hρ
 have tt:∀s t:Int,okT (tbl (prG [] ([],[]) g)).2 t->s=3 - t->okT ((tbl (prG [] ([],[]) g)).2.map (rwD Mt pmT)) s:=λs t h e=>by
  refine yU (σ:=λs=>3 - s) h (λd hd=>?_) λd hd=>by omega
  obtain ⟨s,n,ws,r,_,rfl⟩:=UW G.len G.sd hd
  rw [Yk]
  exact ⟨rfl,rfl⟩
 refine X3 XJ G (Ez G.len G.sd) (λp hp x ex=>?_) (λp hp=>?_) (tt 1 2 G.t2 rfl) (tt 2 1 G.t1 rfl)
 ·have h:=r2 p hp x ex
  obtain ⟨s,n,ws,_,rfl⟩:=TV ex
  show okR (rwD Mt pmT (cV s n ws p.2.2))
  rw [Yk]
  have h:okR (cV s n ws p.2.2):=h
  simpa [okR,cV,okD,jx,iT,gw] using h
 ·have h:=(G.fr p hp).1
  obtain ⟨w,q,r⟩:=p
  cases q with
  |fin d=>
   obtain ⟨h1,h2⟩:=(show smQ d from h)
   exact ⟨by show (-d.1).natAbs<=_; omega,h2⟩
  |deal n ws=>
   obtain ⟨l,h⟩:=(show Jv ws from h)
   refine ⟨l,?_⟩
   rw [yW,List.map_id]
   exact h
  |move s n ws=>trivial
theorem Qa {g:Gm}(G:Gd g):jf [dG (mpG Mt g)]=.ok (true,.lst ((tbl (prG [] ([],[]) g)).2.map (rwD Mt pmT))):=by
 rw [v9 (We G),Gp XJ G (Ez G.len G.sd)]
mutual
theorem Cq:∀g:Gm,mpG Mt (mpG Mt g)=g
 | .fin d=>by show Gm.fin (- -d.1,d.2)=_; rw [Int.neg_neg]
 | .deal n ws=>by show Gm.deal n (mpW Mt id (mpW Mt id ws))=_; rw [uL ws]
 | .move s n ws=>by show Gm.move (3 - (3 - s)) n (mpW Mt id (mpW Mt id ws))=_; rw [uL ws,show (3:Int) - (3 - s)=s by omega]
theorem uL:∀ws:Ws,mpW Mt id (mpW Mt id ws)=ws
 | .nil=>rfl
 | .cons l g r=>by show Ws.cons l (mpG Mt (mpG Mt g)) (mpW Mt id (mpW Mt id r))=_; rw [Cq g,uL r]
end
theorem Xm {d:Q2}(h:Fj d):Fj (Mt.φ d):=by
 obtain ⟨⟨h1,h2⟩,q,rfl⟩:=h
 refine ⟨⟨by show (-q.num).natAbs<=_; have h1:q.num.natAbs<=_:=h1; omega,h2⟩,-q,?_⟩
 show ((-q.num:Int),(q.den:Int))=((-q).num,((-q).den:Int))
 rw [Rat.neg_num,Rat.neg_den]
mutual
theorem Mq:∀g:Gm,fnG Fj g->fnG Fj (mpG Mt g)
 | .fin d,h=>Xm h
 | .deal n ws,h=>yZ id ws h
 | .move s n ws,h=>yZ Mt.ω ws h
theorem yZ (f:D->D):∀ws:Ws,fnW Fj ws->fnW Fj (mpW Mt f ws)
 | .nil,_=>trivial
 | .cons l g r,h=>⟨Mq g h.1,yZ f r h.2⟩
end
theorem Nt {f:Rc}:∀(w:List Int) (i:Nat) (ws:Ws),∀p∈prW w (λ_=>f) i ws,∃k∈fV ws,∃v,p∈prG v f k
 |w,i,.nil,p,h=>by cases h
 |w,i,.cons l g r,p,h=>by
  rcases List.mem_append.mp (show p∈prG (w++[(i:Int)]) f g++prW w (λ_=>f) (i+1) r from h) with h | h
  ·exact ⟨g,List.mem_cons_self,_,h⟩
  ·obtain ⟨k,hk,v,hv⟩:=Nt w (i+1) r p h
   exact ⟨k,List.mem_cons_of_mem _ hk,v,hv⟩
theorem Gh {g:Gm}(G:Gd g){n:Str}{ws:Ws}(hk:∀k∈fV ws,k=g\/∃d,k=.fin d/\smQ d)(hl:jq ws<=3)(hlw:rN ws)(hsw:sdW ws)(hd:dpW ws+1<=12)(hz:szW ws+1<=64)(hsh:Jv ws)
  (ht:tabI ((prW [] (λ_=>([],[])) 0 ws).filterMap kr)=tabI ((prG [] ([],[]) g).filterMap kr)):
  jf [dG (.deal n ws)]=.ok (true,.lst (tbl (prG [] ([],[]) g)).2):=by
 have et:tbl (prG [] ([],[]) (.deal n ws))=tbl (prG [] ([],[]) g):=by
  rw [qF,qF,← ht]
  rfl
 obtain ⟨ρ,hρ⟩:=G.row
 have each:∀p∈prW [] (λ_=>(([],[]):Rc)) 0 ws,(∃q∈prG [] ([],[]) g,q.2=p.2)\/∃d,p.2.1=.fin d/\smQ d:=λp hp=>by
  obtain ⟨k,h,v,hv⟩:=Nt [] 0 ws p hp
  rcases hk k h with rfl | ⟨d,rfl,hd⟩
  ·exact .inl (Sg hv)
  ·have:p=(v,.fin d,([],[])):=by simpa [prG] using hv
   exact .inr ⟨d,by rw [this],hd⟩
 have G':Gd (.deal n ws):=by
  refine ⟨⟨by omega,hlw⟩,hsw,hd,hz,⟨ρ,λp hp=>?_⟩,λp hp=>?_,by rw [et]; exact G.t1,by rw [et]; exact G.t2⟩
  ·rcases List.mem_cons.mp (show p∈(([]:List Int),Gm.deal n ws,(([],[]):Rc))::prW [] (λ_=>([],[])) 0 ws from hp) with rfl | hp
   ·intro s m vs e; cases e
   ·rcases each p hp with ⟨q,hq,e⟩ | ⟨d,e,_⟩
    ·have:=hρ q hq
     unfold Oi at this ⊢
     rw [e] at this
     exact this
    ·intro s m vs e2; rw [e] at e2; cases e2
  ·rcases List.mem_cons.mp (show p∈(([]:List Int),Gm.deal n ws,(([],[]):Rc))::prW [] (λ_=>([],[])) 0 ws from hp) with rfl | hp
   ·exact ⟨hsh,by omega,hlw⟩
   ·rcases each p hp with ⟨q,hq,e⟩ | ⟨d,e,h⟩
    ·rw [← e]; exact G.fr q hq
    ·rw [e]; exact ⟨h,trivial⟩
 rw [v9 G',et]
noncomputable def wR (s:Int)(x:D)(r:Rc):Rc:=if s=1 then (x::r.1,r.2) else (r.1,x::r.2)
noncomputable def jX (s:Int)(x:D):D->D
 | .tup [.int t,n,ws,.tup rc]=>.tup [.int t,n,ws,.tup (if t=s then x::rc else rc)]
 |d=>d
theorem Z4 (s:Int)(x:D)(hs:s=1\/s=2)(t:Int)(n:Str)(r:Rc)(l:D)(ht:t=1\/t=2):rbm t n (wR s x r) l=wR s x (rbm t n r l):=by
 rcases hs with rfl | rfl <;> rcases ht with rfl | rfl <;> rfl
noncomputable def OD (s:Int)(x:D)(p:List Int×Gm×Rc):List Int×Gm×Rc:=(p.1,p.2.1,wR s x p.2.2)
mutual
theorem Ud (s:Int)(x:D)(hs:s=1\/s=2):∀(w:List Int) (r:Rc) (g:Gm),sdG g->prG w (wR s x r) g=(prG w r g).map (OD s x)
 |w,r,.fin d,_=>rfl
 |w,r,.deal n ws,h=>by
  show (w,Gm.deal n ws,wR s x r)::prW w (λ_=>wR s x r) 0 ws=_
  rw [CZ s x hs w (λ_=>r) (λ_=>wR s x r) 0 ws h λ_=>rfl]
  rfl
 |w,r,.move t n ws,h=>by
  show (w,Gm.move t n ws,wR s x r)::prW w (rbm t n (wR s x r)) 0 ws=_
  rw [CZ s x hs w (rbm t n r) _ 0 ws h.2 λl=>Z4 s x hs t n r l h.1]
  rfl
theorem CZ (s:Int)(x:D)(hs:s=1\/s=2):∀(w:List Int) (f f':D->Rc) (i:Nat) (ws:Ws),sdW ws->(∀l,f' l=wR s x (f l))->prW w f' i ws=(prW w f i ws).map (OD s x)
 |w,f,f',i,.nil,_,_=>rfl
 |w,f,f',i,.cons l g r,h,hf=>by
  show prG (w++[(i:Int)]) (f' l) g++prW w f' (i+1) r=(prG (w++[(i:Int)]) (f l) g++prW w f (i+1) r).map (OD s x)
  rw [hf l,Ud s x hs _ (f l) g h.1,CZ s x hs w f f' (i+1) r h.2 hf,List.map_append]
end
theorem V8 (s:Int)(x:D)(hs:s=1\/s=2){t:Int}{n:Str}{ws:Ws}{r:Rc}(ht:t=1\/t=2):cV t n ws (wR s x r)=jX s x (cV t n ws r):=by
 rcases hs with rfl | rfl <;> rcases ht with rfl | rfl <;> rfl
theorem T4 (s:Int)(x:D)(hs:s=1\/s=2){p:List Int×Gm×Rc}(h:okP p):kr (OD s x p)=(kr p).map λy=>(y.1,jX s x y.2):=by
 obtain ⟨w,g,r⟩:=p
 cases g with
 |fin d=>rfl
 |deal n ws=>rfl
 |move t n ws=>
  have h:(t=1\/t=2)/\_:=h
  show some (kn t n,cV t n ws (wR s x r))=some (kn t n,jX s x (cV t n ws r))
  rw [V8 s x hs h.1]
theorem MJ (s:Int)(x:D)(hs:s=1\/s=2):∀{l:List (List Int×Gm×Rc)},(∀p∈l,okP p)->(l.map (OD s x)).filterMap kr=(l.filterMap kr).map λy=>(y.1,jX s x y.2)
 |[],_=>rfl
 |p::l,h=>by
  have ih:=MJ s x hs λq hq=>h q (List.mem_cons_of_mem _ hq)
  rw [List.map_cons,List.filterMap_cons,List.filterMap_cons,T4 s x hs (h p List.mem_cons_self),ih]
  cases kr p <;> rfl
theorem ZP {s:Int}{x d:D}(hx:okD x=true/\iT x<=5)(h:okR d):okR (jX s x d):=by
 unfold jX
 split
 ·split
  ·obtain ⟨h1,h2⟩:=h
   refine ⟨?_,?_⟩
   ·simpa [okD,jx,hx.1] using h1
   ·simp only [iT,gw] at h2 ⊢
    omega
  ·exact h
 ·exact h
theorem Wk {g:Gm}(G:Gd g){s:Int}{nm w:Str}(hs:s=1\/s=2)(hn:NmG (λt m=>¬(t=s/\m=nm)) (prG [] ([],[]) g))(hw:PyData.strOk nm=true/\PyData.strOk w=true)(hd:dp g<=11)(hz:szG g<=63)
  (h1:∀t,(t=1\/t=2)->okT (cV s nm (.cons (.str w) g .nil) ([],[])::(tbl (prG [] ([],[]) g)).2.map (jX s (.tup [.str nm,.str w]))) t):
  jf [dG (.move s nm (.cons (.str w) g .nil))]=.ok (true,.lst (cV s nm (.cons (.str w) g .nil) ([],[])::(tbl (prG [] ([],[]) g)).2.map (jX s (.tup [.str nm,.str w])))):=by
 have hx:okD (.tup [.str nm,.str w])=true/\iT (.tup [.str nm,.str w])<=5:=⟨by simp [okD,jx,hw],by simp [iT,gw]⟩
 have hr0:rbm s nm ([],[]) (.str w)=wR s (.tup [.str nm,.str w]) ([],[]):=by rcases hs with rfl | rfl <;> rfl
 generalize hX:D.tup [.str nm,.str w]=x at *
 have hp:prG [] ([],[]) (.move s nm (.cons (.str w) g .nil))=([],.move s nm (.cons (.str w) g .nil),([],[]))::(prG [0] ([],[]) g).map (OD s x):=by
  show _::(prG ([]++[((0:Nat):Int)]) (rbm s nm ([],[]) (.str w)) g++[])=_
  rw [hr0,List.append_nil,Ud s x hs _ _ g G.sd]
  rfl
 have ok:=tL [0] ([],[]) g G.len G.sd
 have kk:(prG [] ([],[]) (.move s nm (.cons (.str w) g .nil))).filterMap kr=(kn s nm,cV s nm (.cons (.str w) g .nil) ([],[]))::((prG [] ([],[]) g).filterMap kr).map λy=>(y.1,jX s x y.2):=by
  rw [hp,List.filterMap_cons,MJ s x hs ok,xg (vf [0] [] ([],[]) g)]
  rfl
 have key:=DN hn
 have et:(tbl (prG [] ([],[]) (.move s nm (.cons (.str w) g .nil)))).2=cV s nm (.cons (.str w) g .nil) ([],[])::(tbl (prG [] ([],[]) g)).2.map (jX s x):=by
  rw [qF,kk,Oj,qF]
  ·have:=M6 (f:=λy:KR=>(y.1,jX s x y.2)) (P:=λ_=>True) (κ:=λk=>k) (ρ:=jX s x) (λ_=>rfl) (λ_ _ _ _ e=>e) ((prG [] ([],[]) g).filterMap kr) λ_ _=>trivial
   rw [this]
  ·intro y hy
   obtain ⟨z,hz,rfl⟩:=List.mem_map.mp hy
   obtain ⟨t,m,e,hne⟩:=key z hz
   show z.1≠kn s nm
   rw [e]
   exact λh=>hne (xR h)
 obtain ⟨ρ,hρ⟩:=G.row
 obtain ⟨r1,r2⟩:=Jh hρ
 have back:∀p∈prG [] ([],[]) (.move s nm (.cons (.str w) g .nil)),∀y:KR,kr p=some y->(y=(kn s nm,cV s nm (.cons (.str w) g .nil) ([],[])))\/∃q∈prG [] ([],[]) g,∃z:KR,kr q=some z/\y=(z.1,jX s x z.2):=λp hpp y ey=>by
  rw [hp] at hpp
  rcases List.mem_cons.mp hpp with rfl | hpp
  ·cases ey; exact .inl rfl
  ·obtain ⟨q,hq,rfl⟩:=List.mem_map.mp hpp
   rw [T4 s x hs (ok q hq)] at ey
   obtain ⟨q',hq',e'⟩:=Sg (v:=[]) hq
   have e2:kr q'=kr q:=by unfold kr; rw [e']
   cases ez:kr q with
   |none=>rw [ez] at ey; cases ey
   |some z=>rw [ez] at ey; cases ey; exact .inr ⟨q',hq',z,by rw [e2,ez],rfl⟩
 have fresh:∀q∈prG [] ([],[]) g,∀z:KR,kr q=some z->z.1≠kn s nm:=λq hq z ez=>by
  obtain ⟨t,m,e,hne⟩:=key z (List.mem_filterMap.mpr ⟨q,hq,ez⟩)
  rw [e]
  exact λh=>hne (xR h)
 have G':Gd (.move s nm (.cons (.str w) g .nil)):=by
  refine ⟨⟨by show (0+1:Nat)<=100; omega,G.len,trivial⟩,⟨hs,G.sd,trivial⟩,?_,?_,T5 (λp hp q hq y z ey ez e=>?_) λp hp y ey=>?_,λp hpp=>?_,by rw [et]; exact h1 1 (.inl rfl),by rw [et]; exact h1 2 (.inr rfl)⟩
  ·show max (dp g) 0+1<=12; omega
  ·show szG g+0+1<=64; omega
  ·rcases back p hp y ey with rfl | ⟨p',hp',y',e1,rfl⟩
   ·rcases back q hq z ez with rfl | ⟨q',hq',z',e2,rfl⟩
    ·rfl
    ·exact absurd e.symm (fresh q' hq' z' e2)
   ·rcases back q hq z ez with rfl | ⟨q',hq',z',e2,rfl⟩
    ·exact absurd e (fresh p' hp' y' e1)
    ·show jX s x y'.2=jX s x z'.2
     rw [r1 p' hp' q' hq' y' z' e1 e2 e]
  ·rcases back p hp y ey with rfl | ⟨p',hp',y',e1,rfl⟩
   ·have e0:cV s nm (.cons (.str w) g .nil) ([],[])=.tup [.int s,.str nm,.tup [.str w],.tup []]:=by rcases hs with rfl | rfl <;> rfl
    show okR (cV s nm (.cons (.str w) g .nil) ([],[]))
    rw [e0]
    exact ⟨by simp [okD,jx,hw],by simp [iT,gw]⟩
   ·exact ZP hx (r2 p' hp' y' e1)
  ·rw [hp] at hpp
   rcases List.mem_cons.mp hpp with rfl | hpp
   ·exact ⟨trivial,by show (0+1:Nat)<=100; omega,G.len,trivial⟩
   ·obtain ⟨q,hq,rfl⟩:=List.mem_map.mp hpp
    obtain ⟨q',hq',e'⟩:=Sg (v:=[]) hq
    have:=G.fr q' hq'
    rw [e'] at this
    exact this
 rw [v9 G',et]
end Pk
namespace K16
open PySem L2 Hd F Pk Lw
noncomputable def kS (p:List Str):List Key:=p.map Sum.inr
theorem KD:∀{p v:List Str} (i:Nat) {x y:Str},p.Nodup->p[i]? = some x->v[i]? = some y->uK (kS p) (v.map D.str) (.inr x)=some (.str y)
 |[],v,i,x,y,_,h,_=>by simp at h
 |a::p,[],i,x,y,_,_,h=>by simp at h
 |a::p,b::v,0,x,y,_,h1,h2=>by
  have h1:a=x:=by simpa using h1
  have h2:b=y:=by simpa using h2
  subst h1 h2
  show (if (Sum.inr a:Key)=.inr a then some (D.str b) else _)=_
  rw [if_pos rfl]
 |a::p,b::v,i+1,x,y,nd,h1,h2=>by
  have nd':=List.nodup_cons.mp nd
  have h1:p[i]? = some x:=by simpa using h1
  have hne:¬(Sum.inr a:Key)=.inr x:=λz=>by
   injection z with z
   exact nd'.1 (z ▸ List.mem_of_getElem? h1)
  show (if (Sum.inr a:Key)=.inr x then some (D.str b) else uK (kS p) (v.map D.str) (.inr x))=_
  rw [if_neg hne]
  exact KD i nd'.2 h1 (by simpa using h2)
theorem Xu {ks:List Key}{ds:List D}{k:Key}{d:D}(h:k∉ks):putD ks ds k d=(ks++[k],ds++[d]):=by
 unfold putD
 rw [if_neg]
 intro z
 obtain ⟨x,hx,e⟩:=List.any_eq_true.mp z
 exact h (of_decide_eq_true e ▸ hx)
theorem Cv {α β:Type}(f:α->β):∀(l:List α) (j:Nat),(l.map f).eraseIdx j=(l.eraseIdx j).map f
 |[],_=>rfl
 |a::l,0=>rfl
 |a::l,j+1=>by show f a::(l.map f).eraseIdx j=_; rw [Cv f l j]; rfl
theorem WY {L:List Str}{j:Nat}{c:Int}{x:Str}(hc:c=j)(h:L[j]? = some x)(hl:L.length<=1000):Iv (L.map D.str) (.int c)=some (.str x,(L.eraseIdx j).map D.str):=by
 subst hc
 have hj:j<L.length:=by
  rcases Nat.lt_or_ge j L.length with z | z
  ·exact z
  ·rw [List.getElem?_eq_none z] at h; cases h
 show (if 0<=(j:Int)/\(j:Int)<((L.map D.str).length:Nat)/\(L.map D.str).length<=1000000 then _ else none)=_
 rw [if_pos (by simp; omega),Int.toNat_natCast,List.getElem?_map,h,Cv]
 rfl
theorem Xa {p L V:List Str}{i j:Nat}{c:Int}{x a:Str}(hp:p.length=8)(hL:L.length<=8)(ha:p[i]? = some a)(hj:c % (L.length:Int)=j)(h0:0<L.length)(hx:L[j]? = some x)(nd:p.Nodup)(hV:V.length<=8):
  fY [.fz (.int c),.fz (.lst (p.map D.str)),.ow (.dct (kS (p.take i)) (V.map D.str)),.ow (.lst (L.map D.str)),.fz (.int (i:Int))]=.ok (.nx,[.fz (.int (c / 8)),.fz (.lst (p.map D.str)),.ow (.dct (kS (p.take (i+1))) ((V++[x]).map D.str)),.ow (.lst ((L.eraseIdx j).map D.str)),.fz (.int (i:Int))]):=by
 have b8:Bg 8:=bgS (by decide)
 have hi:i<p.length:=by
  rcases Nat.lt_or_ge i p.length with z | z
  ·exact z
  ·rw [List.getElem?_eq_none z] at ha; cases ha
 have e1:atI (p.map D.str) (i:Int)=some (.str a):=pN (by rw [List.getElem?_map,ha]; rfl)
 have e2:=WY (c:=c % (L.length:Int)) hj hx (by omega)
 have em:mdI c (L.length:Int)=c % (L.length:Int):=if_pos (by omega)
 have hz:¬(L.length:Int)=0:=by omega
 have hz2:¬L=[]:=λz=>by rw [z] at h0; simp at h0
 have hn:(Sum.inr a:Key)∉kS (p.take i):=λz=>by
  obtain ⟨y,hy,e⟩:=List.mem_map.mp z
  injection e with e
  subst e
  obtain ⟨k,hk,e⟩:=List.getElem_of_mem hy
  rw [List.getElem_take] at e
  rw [List.getElem?_eq_getElem hi] at ha
  injection ha with ha
  have hk':k<i:=by rw [List.length_take] at hk; omega
  have:=(List.pairwise_iff_getElem.mp nd) k i (by omega) hi hk'
  exact this (e.trans ha.symm)
 have e3:=Xu (ds:=V.map D.str) (d:=.str x) hn
 have e4:kS (p.take i)++[.inr a]=kS (p.take (i+1)):=by
  rw [List.getElem?_eq_getElem hi] at ha
  injection ha with ha
  rw [← ha,List.take_succ_eq_append_getElem hi]
  unfold kS
  rw [List.map_append]
  rfl
 have z1:(kS (p.take i)).length<16777216:=by simp [kS]; omega
 rw [e4] at e3
 simp [fY,aK,JM,Dg,pU,au,ak,aW,iU,aj,aA,bO,em,hz,hz2,e2,putL,yx,gIx,e1,qN,e3,z1,yo,bu,fC,eQ,dvI,b8]
theorem Hn {α:Type}:∀{L:List α} {j:Nat} {x:α},L[j]? = some x->(∀y∈L.eraseIdx j,y∈L)/\(L.Nodup->x∉L.eraseIdx j/\(L.eraseIdx j).Nodup)
 |[],_,_,h=>by simp at h
 |a::L,0,x,h=>by
  have h:a=x:=by simpa using h
  subst h
  refine ⟨λy hy=>List.mem_cons_of_mem _ hy,λnd=>?_⟩
  exact List.nodup_cons.mp nd
 |a::L,j+1,x,h=>by
  have h:L[j]? = some x:=by simpa using h
  obtain ⟨h1,h2⟩:=Hn h
  refine ⟨λy hy=>?_,λnd=>?_⟩
  ·rcases List.mem_cons.mp (show y∈a::L.eraseIdx j from hy) with rfl | hy
   ·exact List.mem_cons_self
   ·exact List.mem_cons_of_mem _ (h1 y hy)
  ·have nd':=List.nodup_cons.mp nd
   obtain ⟨h3,h4⟩:=h2 nd'.2
   show x∉a::L.eraseIdx j/\(a::L.eraseIdx j).Nodup
   refine ⟨λz=>?_,List.nodup_cons.mpr ⟨λz=>nd'.1 (h1 a z),h4⟩⟩
   rcases List.mem_cons.mp z with z | z
   ·exact nd'.1 (z ▸ List.mem_of_getElem? h)
   ·exact h3 z
theorem La {p:List Str}(hp:p.length=8)(nd:p.Nodup):∀(c i:Nat) (x:Int) (V L:List Str) (s4:Sl),i+c=8->V.length=i->L.length=c->(V++L).Nodup->(∀y∈V++L,y∈p)->
  ∃(x' s3 s4':Sl) (V':List Str),bW (hName 4) fY ((List.range' i c).map λ(k:Nat)=>D.int k) [.fz (.int x),.fz (.lst (p.map D.str)),.ow (.dct (kS (p.take i)) (V.map D.str)),.ow (.lst (L.map D.str)),s4]=.ok (.nx,[x',.fz (.lst (p.map D.str)),.ow (.dct (kS p) (V'.map D.str)),s3,s4'])/\V'.length=8/\V'.Nodup/\∀y∈V',y∈p
 |0,i,x,V,L,s4,h,hV,hL,hn,hm=>by
  have hL:L=[]:=List.length_eq_zero_iff.mp hL
  subst hL
  rw [List.append_nil] at hn hm
  have:p.take i=p:=List.take_of_length_le (by omega)
  rw [this]
  exact ⟨_,_,_,V,rfl,by omega,hn,hm⟩
 |c+1,i,x,V,L,s4,h,hV,hL,hn,hm=>by
  have hi:i<p.length:=by omega
  obtain ⟨j,hj⟩:∃j:Nat,x % (L.length:Int)=j:=⟨(x % (L.length:Int)).toNat,by have:=Int.emod_nonneg x (show (L.length:Int)≠0 by omega); omega⟩
  have hjl:j<L.length:=by have:=Int.emod_lt_of_pos x (show 0<(L.length:Int) by omega); omega
  have hx:=List.getElem?_eq_getElem hjl
  have st:=Xa (V:=V) (c:=x) hp (by omega) (List.getElem?_eq_getElem hi) hj (by omega) hx nd (by omega)
  obtain ⟨e1,e2⟩:=Hn hx
  obtain ⟨n1,n2,n3⟩:=List.nodup_append.mp hn
  obtain ⟨e3,e4⟩:=e2 n2
  have hn':(V++[L[j]]++L.eraseIdx j).Nodup:=by
   rw [List.append_assoc,List.nodup_append]
   refine ⟨n1,List.nodup_cons.mpr ⟨e3,e4⟩,λa ha b hb=>?_⟩
   rcases List.mem_cons.mp hb with rfl | hb
   ·exact n3 a ha _ (List.getElem_mem hjl)
   ·exact n3 a ha b (e1 b hb)
  obtain ⟨x',s3,s4',V',e,r⟩:=La hp nd c (i+1) (x / 8) (V++[L[j]]) (L.eraseIdx j) (.fz (.int (i:Int))) (by omega) (by simp; omega) (by rw [List.length_eraseIdx,if_pos hjl]; omega) hn' λy hy=>by
   rcases List.mem_append.mp hy with hy | hy
   ·rcases List.mem_append.mp hy with hy | hy
    ·exact hm y (List.mem_append_left _ hy)
    ·rw [List.mem_singleton.mp hy]; exact hm _ (List.mem_append_right _ (List.getElem_mem hjl))
   ·exact hm y (List.mem_append_right _ (e1 y hy))
  refine ⟨x',s3,s4',V',?_,r⟩
  rw [List.range'_succ,List.map_cons,bT (m1:=[.fz (.int x),.fz (.lst (p.map D.str)),.ow (.dct (kS (p.take i)) (V.map D.str)),.ow (.lst (L.map D.str)),.fz (.int (i:Int))]) rfl st]
  exact e
noncomputable def Nmg (p:List Str)(d:D)(f:Str->Str):Prop:=(∀x∈p,f x∈p)/\(∀x∈p,∀y∈p,f x=f y->x=y)/\(∀x∈p,bR d (.str x)=some (.str (f x)))
theorem aar {L:Me->Res (Fl×Me)}{c p r:D}{l:List D}(hp:p=.lst l){x' s3 s4:Sl}(e:L [.fz c,.fz p,.ow (.dct [] []),.ow (.lst l),.un]=.ok (.nx,[x',.fz p,.ow r,s3,s4])):aY 5 2 (jL L) [c,p]=.ok (true,r):=by
 subst hp
 simp [aY,jL,aK,jE,TF,aW,yj,aj,aA,ak,e,uw,Me.let,Sl.let]
theorem vV {p:List Str}(P:sI p)(c:Int):∃d f,iB [.int c,.lst (p.map D.str)]=.ok (true,d)/\Nmg p d f:=by
 obtain ⟨x',s3,s4',V,e,h1,h2,h3⟩:=La P.p8 P.nd 8 0 c [] p .un rfl rfl P.p8 P.nd λy hy=>hy
 have eL:lu [.fz (.int c),.fz (.lst (p.map D.str)),.ow (.dct [] []),.ow (.lst (p.map D.str)),.un]=.ok (.nx,[x',.fz (.lst (p.map D.str)),.ow (.dct (kS p) (V.map D.str)),s3,s4']):=by
  have e1:(aj (fC (.int 8)) aA) [.fz (.int c),.fz (.lst (p.map D.str)),.ow (.dct [] []),.ow (.lst (p.map D.str)),.un]=.ok [.int 8]:=by simp [aj,fC,aA]
  have e2:=Ky e1 (by omega) (by omega)
  unfold lu jD
  rw [e2]
  show bW (hName 4) fY ((List.range 8).map λ(k:Nat)=>D.int k) _=_
  rw [List.range_eq_range']
  exact e
 have at_:∀x∈p,∃i,∃(hi:i<p.length) (hv:i<V.length),p[i]=x/\bR (.dct (kS p) (V.map D.str)) (.str x)=some (.str V[i]):=λx hx=>by
  obtain ⟨i,hi,ei⟩:=List.getElem_of_mem hx
  have hv:i<V.length:=by rw [h1,← P.p8]; exact hi
  exact ⟨i,hi,hv,ei,KD i P.nd (by rw [List.getElem?_eq_getElem hi,ei]) (List.getElem?_eq_getElem hv)⟩
 refine ⟨_,λx=>match bR (.dct (kS p) (V.map D.str)) (.str x) with | some (.str y)=>y | _=>x,aar rfl eL,λx hx=>?_,λx hx y hy exy=>?_,λx hx=>?_⟩
 ·obtain ⟨i,hi,hv,_,e⟩:=at_ x hx
  simp only [e]
  exact h3 _ (List.getElem_mem hv)
 ·obtain ⟨i,hi,hv,e1,e⟩:=at_ x hx
  obtain ⟨j,hj,hw,e3,e4⟩:=at_ y hy
  simp only [e,e4] at exy
  have:i=j:=(List.getElem_inj (h₀:=hv) (h₁:=hw) h2).mp exy
  subst this
  rw [← e1,← e3]
 ·obtain ⟨i,hi,hv,e1,e⟩:=at_ x hx
  simp only [e]
open PySem L2 Hd F Pk Lw
structure Nms (p:List Str) where
 (d0 d1 d2 d3:D)
 (f0 f1 f2 f3:Str->Str)
 h0:Nmg p d0 f0
 h1:Nmg p d1 f1
 h2:Nmg p d2 f2
 h3:Nmg p d3 f3
variable {p:List Str}(A:Nms p)
noncomputable def nD4:D:=.lst [A.d0,A.d1,A.d2,A.d3]
noncomputable def nuN (s:Int)(n:Str):Str:=if s=1 then A.f1 n else A.f2 n
noncomputable def omN:D->D
 | .str w=>.str (A.f0 w)
 |d=>d
noncomputable def Mn:Mp:=⟨id,A.f3,id,nuN A,omN A⟩
noncomputable def pmN (s:Int):D->D
 | .tup [.str n,l]=>.tup [.str (nuN A s n),omN A l]
 |d=>d
noncomputable def roN (r:Rc):Rc:=(r.1.map (pmN A 1),r.2.map (pmN A 2))
noncomputable def inP (p:List Str)(s:Int)(n:Str):Prop:=(s=1\/s=2)/\n∈p
theorem Z3 {s:Int}{n m:Str}(hn:n∈p)(hm:m∈p)(h:nuN A s n=nuN A s m):n=m:=by
 unfold nuN at h
 split at h
 ·exact A.h1.2.1 n hn m hm h
 ·exact A.h2.2.1 n hn m hm h
theorem Tu {s:Int}{n:Str}(hn:n∈p):nuN A s n∈p:=by
 unfold nuN
 split
 ·exact A.h1.1 n hn
 ·exact A.h2.1 n hn
theorem Yq:Iz (Mn A) (roN A) (pmN A) (inP p) where
 sd:=λs h=>h
 rb:=λs n r l h=>by
  rcases h with rfl | rfl
  ·show (r.1.map (pmN A 1)++[.tup [.str (nuN A 1 n),omN A l]],r.2.map (pmN A 2))=((r.1++[D.tup [.str n,l]]).map (pmN A 1),r.2.map (pmN A 2))
   rw [List.map_append]; rfl
  ·show (r.1.map (pmN A 1),r.2.map (pmN A 2)++[.tup [.str (nuN A 2 n),omN A l]])=(r.1.map (pmN A 1),(r.2++[D.tup [.str n,l]]).map (pmN A 2))
   rw [List.map_append]; rfl
 at_:=λs r h=>by rcases h with rfl | rfl <;> rfl
 inj:=λs n t m h1 h2 e1 e2=>by
  have e1:s=t:=e1
  subst e1
  exact ⟨rfl,Z3 A h1.2 h2.2 e2⟩
 nil:=rfl
noncomputable def wdP (p:List Str)(l:D):Prop:=∃x∈p,l=.str x
mutual
noncomputable def plG (p:List Str):Gm->Prop
 | .fin _=>True
 | .deal n ws=>n∈p/\plW p (λ_=>True) ws
 | .move s n ws=>(s=1\/s=2)/\n∈p/\plW p (wdP p) ws
noncomputable def plW (p:List Str)(Q:D->Prop):Ws->Prop
 | .nil=>True
 | .cons l g r=>Q l/\plG p g/\plW p Q r
end
theorem Kl {Q:D->Prop}:∀{ws:Ws},plW p Q ws->∀g∈fV ws,plG p g
 | .nil,_,g,h=>by cases h
 | .cons l g r,h,x,hx=>by
  rcases List.mem_cons.mp hx with rfl | hx
  ·exact h.2.1
  ·exact Kl h.2.2 x hx
theorem Ry {Q:D->Prop}:∀{ws:Ws},plW p Q ws->∀l∈eV ws,Q l
 | .nil,_,g,h=>by cases h
 | .cons l g r,h,x,hx=>by
  rcases List.mem_cons.mp hx with rfl | hx
  ·exact h.1
  ·exact Ry h.2.2 x hx
theorem Yb {l:D}(h:wdP p l):bR A.d0 l=some (omN A l):=by
 obtain ⟨x,hx,rfl⟩:=h
 exact A.h0.2.2 x hx
theorem GF {Φ:List D->Res (Bool×D)}:∀ws:Ws,(∀g∈fV ws,Φ [dG g,nD4 A]=.ok (false,dG (mpG (Mn A) g)))->cA (jl 2 (bj (hName 0) (bj (hName 1) iW))) dX (lr Φ) [.un,.un,.fz (nD4 A)] (dWs ws)=.ok (dWs (mpW (Mn A) id ws))
 | .nil,_=>rfl
 | .cons l g r,h=>by
  have ih:=GF r λx hx=>h x (List.mem_cons_of_mem _ hx)
  have e:lr Φ [.fz l,.fz (dG g),.fz (nD4 A)]=.ok (.tup [l,dG (mpG (Mn A) g)]):=by
   simp [lr,aU,aj,aA,aH,fFn,h g List.mem_cons_self]
  show cA _ _ _ _ (.tup [l,dG g]::dWs r)=.ok (.tup [l,dG (mpG (Mn A) g)]::dWs (mpW (Mn A) id r))
  unfold cA
  rw [show jl 2 (bj (hName 0) (bj (hName 1) iW)) (.tup [l,dG g]) [.un,.un,.fz (nD4 A)]=some [.fz l,.fz (dG g),.fz (nD4 A)] from rfl]
  simp only [dX,e,ih]
theorem GR {Φ:List D->Res (Bool×D)}:∀ws:Ws,(∀l∈eV ws,wdP p l)->(∀g∈fV ws,Φ [dG g,nD4 A]=.ok (false,dG (mpG (Mn A) g)))->cA (jl 2 (bj (hName 0) (bj (hName 1) iW))) dX (lC Φ) [.un,.un,.fz (nD4 A)] (dWs ws)=.ok (dWs (mpW (Mn A) (omN A) ws))
 | .nil,_,_=>rfl
 | .cons l g r,hl,h=>by
  have ih:=GR r (λx hx=>hl x (List.mem_cons_of_mem _ hx)) λx hx=>h x (List.mem_cons_of_mem _ hx)
  have e0:=Yb A (hl l List.mem_cons_self)
  have ei:gIx (nD4 A) (.int 0)=some A.d0:=rfl
  have e:lC Φ [.fz l,.fz (dG g),.fz (nD4 A)]=.ok (.tup [omN A l,dG (mpG (Mn A) g)]):=by
   simp [lC,aU,aj,aA,aH,ak,au,fC,ei,e0,fFn,h g List.mem_cons_self]
  show cA _ _ _ _ (.tup [l,dG g]::dWs r)=.ok (.tup [omN A l,dG (mpG (Mn A) g)]::dWs (mpW (Mn A) (omN A) r))
  unfold cA
  rw [show jl 2 (bj (hName 0) (bj (hName 1) iW)) (.tup [l,dG g]) [.un,.un,.fz (nD4 A)]=some [.fz l,.fz (dG g),.fz (nD4 A)] from rfl]
  simp only [dX,e,ih]
theorem named_eq:∀(n:Nat) (g:Gm),dp g<n->fP g->plG p g->aV n [dG g,nD4 A]=.ok (false,dG (mpG (Mn A) g))
 |0,_,h,_,_=>by omega
 |n+1,.fin d,_,_,hf=>by
  have x0:∀a b:D,atI [a,b] 0=some a:=λ_ _=>rfl
  show aY 3 2 (fW (cY (aV n)) (cX (aV n))) [.tup [.str "end",qD d],nD4 A]=.ok (false,.tup [.str "end",qD d])
  generalize cY (aV n)=Q
  generalize cX (aV n)=Q'
  generalize qD d=B at *
  simp [fW,aY,aK,gIf,aM,au,ak,fC,gIx,x0,bD,Me.let,Sl.let,aH]
 |n+1,.deal m ws,hd,hl,hf=>by
  have hd:dpW ws+1<n+1:=hd
  have x0:∀a b c:D,atI [a,b,c] 0=some a:=λ_ _ _=>rfl
  have x1:∀a b c:D,atI [a,b,c] 1=some b:=λ_ _ _=>rfl
  have x2:∀a b c:D,atI [a,b,c] 2=some c:=λ_ _ _=>rfl
  have zz:(dWs ws).length<=16777216:=by rw [jO]; have:=hl.1; omega
  have ec:=GF A (Φ:=aV n) ws λg hg=>named_eq n g (by have:=zZ g hg; omega) (vO hl.2 g hg) (Kl hf.2 g hg)
  have eq:∀u,cY (aV n) [.fz (.tup [.str "deal",.str m,.tup (dWs ws)]),.fz (nD4 A),u]=.ok (.lst (dWs (mpW (Mn A) id ws))):=λu=>by
   generalize dWs (mpW (Mn A) id ws)=R at *
   generalize dWs ws=L at *
   simp [cY,bZ,o7,au,ak,fC,gIx,x2,cMe,Sl.bor,ec,zz]
  have z:(dWs (mpW (Mn A) id ws)).length<=16777216:=by rw [jO,rC]; have:=hl.1; omega
  have e3:bR A.d3 (.str m)=some (.str (A.f3 m)):=A.h3.2.2 m hf.1
  have ei:gIx (nD4 A) (.int 3)=some A.d3:=rfl
  show aY 3 2 (fW (cY (aV n)) (cX (aV n))) [.tup [.str "deal",.str m,.tup (dWs ws)],nD4 A]=.ok (false,.tup [.str "deal",.str (A.f3 m),.tup (dWs (mpW (Mn A) id ws))])
  generalize cY (aV n)=Q at *
  generalize cX (aV n)=Q'
  generalize dWs (mpW (Mn A) id ws)=R at *
  generalize D.tup (dWs ws)=W at *
  generalize nD4 A=NN at *
  have g0:gIx (.tup [.str "deal",.str m,W]) (.int 0)=some (.str "deal"):=rfl
  have g1:gIx (.tup [.str "deal",.str m,W]) (.int 1)=some (.str m):=rfl
  simp [fW,aY,aK,gIf,aM,au,ak,fC,g0,g1,gNx,ei,e3,aW,aj,aA,eq,gP,z,bD,Me.let,Sl.let,aU]
 |n+1,.move s m ws,hd,hl,hf=>by
  have hd:dpW ws+1<n+1:=hd
  obtain ⟨hs,hm,hw⟩:=hf
  have x3:∀a b c d:D,atI [a,b,c,d] 3=some d:=λ_ _ _ _=>rfl
  have zz:(dWs ws).length<=16777216:=by rw [jO]; have:=hl.1; omega
  have ec:=GR A (Φ:=aV n) ws (Ry hw) λg hg=>named_eq n g (by have:=zZ g hg; omega) (vO hl.2 g hg) (Kl hw g hg)
  have eq:∀u,cX (aV n) [.fz (.tup [.str "move",.int s,.str m,.tup (dWs ws)]),.fz (nD4 A),u]=.ok (.lst (dWs (mpW (Mn A) (omN A) ws))):=λu=>by
   generalize dWs (mpW (Mn A) (omN A) ws)=R at *
   generalize dWs ws=L at *
   simp [cX,bZ,o7,au,ak,fC,gIx,x3,cMe,Sl.bor,ec,zz]
  have z:(dWs (mpW (Mn A) (omN A) ws)).length<=16777216:=by rw [jO,rC]; have:=hl.1; omega
  have en:∃d,gIx (nD4 A) (.int s)=some d/\bR d (.str m)=some (.str (nuN A s m)):=by
   rcases hs with rfl | rfl
   ·exact ⟨A.d1,rfl,A.h1.2.2 m hm⟩
   ·exact ⟨A.d2,rfl,A.h2.2.2 m hm⟩
  obtain ⟨d,e1,e2⟩:=en
  show aY 3 2 (fW (cY (aV n)) (cX (aV n))) [.tup [.str "move",.int s,.str m,.tup (dWs ws)],nD4 A]=.ok (false,.tup [.str "move",.int s,.str (nuN A s m),.tup (dWs (mpW (Mn A) (omN A) ws))])
  generalize cY (aV n)=Q
  generalize cX (aV n)=Q' at *
  generalize dWs (mpW (Mn A) (omN A) ws)=R at *
  generalize D.tup (dWs ws)=W at *
  generalize nD4 A=NN at *
  have g0:gIx (.tup [.str "move",.int s,.str m,W]) (.int 0)=some (.str "move"):=rfl
  have g1:gIx (.tup [.str "move",.int s,.str m,W]) (.int 1)=some (.int s):=rfl
  have g2:gIx (.tup [.str "move",.int s,.str m,W]) (.int 2)=some (.str m):=rfl
  simp [fW,aY,aK,gIf,aM,au,ak,fC,g0,g1,g2,gNx,bu,e1,e2,aW,aj,aA,eq,gP,z,bD,Me.let,Sl.let,aU]
open PySem L2 Hd F Pk Lw
theorem T9 {e:En}(E:oM e)(n k:Int):wordAt e n k∈e.pool:=by
 have t0:=E.t0
 have hl:((3 * n+k+e.turn / 8) % 8).toNat<e.pool.length:=by rw [E.p8]; omega
 unfold wordAt
 rw [List.getD_eq_getElem?_getD,List.getElem?_eq_getElem hl]
 exact List.getElem_mem hl
noncomputable def atP (p:List Str):Gm->Prop
 | .fin _=>True
 | .deal n _=>n∈p
 | .move s n ws=>(s=1\/s=2)/\n∈p/\∀l∈eV ws,wdP p l
theorem at_of {e:En}(E:oM e){N:Nd}{g:Gm}{dep:Nat}(G:Grw e N ([],[]) g dep):∀p∈prG [] ([],[]) g,atP e.pool p.2.1:=λp hp=>by
 have h1:=G.pl [] p hp
 have h2:=tL [] ([],[]) g G.len G.sd p hp
 obtain ⟨w,q,r⟩:=p
 cases q with
 |fin d=>trivial
 |deal n ws=>exact h1.2
 |move s n ws=>
  obtain ⟨rc,c,b,k,_,_,_,_,_,_,rfl,e1⟩:=(show Row e N s n (cV s n ws r) from h1)
  refine ⟨h2.1,name_mem E k,λl hl=>?_⟩
  have e1:D.tup [.int s,.str (nameAt e k),.tup (eV ws),.tup (rQ r s)]=_:=e1
  injection e1 with e1
  injection e1 with _ e1
  injection e1 with _ e1
  injection e1 with e1 _
  injection e1 with e1
  rw [e1] at hl
  obtain ⟨j,_,rfl⟩:=List.mem_map.mp hl
  exact ⟨_,T9 E k j,rfl⟩
mutual
theorem Yl {p:List Str}:∀(w:List Int) (r:Rc) (g:Gm),(∀q∈prG w r g,atP p q.2.1)->plG p g
 |w,r,.fin d,_=>trivial
 |w,r,.deal n ws,h=>⟨h (w,.deal n ws,r) List.mem_cons_self,Kd w _ 0 ws (λ_ _=>trivial) λq hq=>h q (List.mem_cons_of_mem _ hq)⟩
 |w,r,.move s n ws,h=>by
  obtain ⟨h1,h2,h3⟩:=h (w,.move s n ws,r) List.mem_cons_self
  exact ⟨h1,h2,Kd w _ 0 ws h3 λq hq=>h q (List.mem_cons_of_mem _ hq)⟩
theorem Kd {p:List Str}{Q:D->Prop}:∀(w:List Int) (f:D->Rc) (i:Nat) (ws:Ws),(∀l∈eV ws,Q l)->(∀q∈prW w f i ws,atP p q.2.1)->plW p Q ws
 |w,f,i,.nil,_,_=>trivial
 |w,f,i,.cons l g r,hl,h=>⟨hl l List.mem_cons_self,Yl _ (f l) g λq hq=>h q (List.mem_append_left _ hq),Kd w f (i+1) r (λx hx=>hl x (List.mem_cons_of_mem _ hx)) λq hq=>h q (List.mem_append_right _ hq)⟩
end
noncomputable def rcP (p:List Str)(rc:List D):Prop:=∀d∈rc,∃n∈p,∃w∈p,d=.tup [.str n,.str w]
noncomputable def W9 (p:List Str)(r:Rc):Prop:=rcP p r.1/\rcP p r.2
theorem Tw {p:List Str}{rc:List D}{n w:Str}(h:rcP p rc)(hn:n∈p)(hw:w∈p):rcP p (rc++[.tup [.str n,.str w]]):=λd hd=>by
 rcases List.mem_append.mp hd with hd | hd
 ·exact h d hd
 ·exact ⟨n,hn,w,hw,List.mem_singleton.mp hd⟩
mutual
theorem Yi {p:List Str}:∀(w:List Int) (r:Rc) (g:Gm),plG p g->W9 p r->∀q∈prG w r g,W9 p q.2.2
 |w,r,.fin d,_,hr,q,hq=>by
  have:q=(w,.fin d,r):=by simpa [prG] using hq
  rw [this]; exact hr
 |w,r,.deal n ws,h,hr,q,hq=>by
  rcases List.mem_cons.mp (show q∈(w,Gm.deal n ws,r)::prW w (λ_=>r) 0 ws from hq) with rfl | hq
  ·exact hr
  ·exact JZ (Q:=λ_=>True) w (λ_=>r) 0 ws h.2 (λ_ _=>hr) q hq
 |w,r,.move s n ws,h,hr,q,hq=>by
  rcases List.mem_cons.mp (show q∈(w,Gm.move s n ws,r)::prW w (rbm s n r) 0 ws from hq) with rfl | hq
  ·exact hr
  ·refine JZ (Q:=wdP p) w (rbm s n r) 0 ws h.2.2 (λl hl=>?_) q hq
   obtain ⟨x,hx,rfl⟩:=hl
   unfold rbm
   split
   ·exact ⟨Tw hr.1 h.2.1 hx,hr.2⟩
   ·exact ⟨hr.1,Tw hr.2 h.2.1 hx⟩
theorem JZ {p:List Str}{Q:D->Prop}:∀(w:List Int) (f:D->Rc) (i:Nat) (ws:Ws),plW p Q ws->(∀l,Q l->W9 p (f l))->∀q∈prW w f i ws,W9 p q.2.2
 |w,f,i,.nil,_,_,q,hq=>by cases hq
 |w,f,i,.cons l g r,h,hf,q,hq=>by
  rcases List.mem_append.mp (show q∈prG (w++[(i:Int)]) (f l) g++prW w f (i+1) r from hq) with hq | hq
  ·exact Yi _ (f l) g h.2.1 (hf l h.1) q hq
  ·exact JZ w f (i+1) r h.2.2 hf q hq
end
noncomputable def rwP (p:List Str)(d:D):Prop:=∃s n ws rc,(s=1\/s=2)/\n∈p/\(∀l∈ws,wdP p l)/\rcP p rc/\ws.length<=100/\rc.length<=100/\d=.tup [.int s,.str n,.tup ws,.tup rc]
theorem JQ {p:List Str}(hp:∀x∈p,PyData.strOk x=true):∀{ws:List D},(∀l∈ws,wdP p l)->jx ws=true/\gw ws=0
 |[],_=>⟨rfl,rfl⟩
 |l::ws,h=>by
  obtain ⟨a,b⟩:=JQ hp λx hx=>h x (List.mem_cons_of_mem _ hx)
  obtain ⟨x,hx,rfl⟩:=h l List.mem_cons_self
  exact ⟨by simp [jx,okD,hp x hx,a],by simp [gw,iT,b]⟩
theorem Km {p:List Str}(hp:∀x∈p,PyData.strOk x=true):∀{rc:List D},rcP p rc->jx rc=true/\gw rc<=1
 |[],_=>⟨rfl,Nat.zero_le _⟩
 |d::rc,h=>by
  obtain ⟨a,b⟩:=Km hp (rc:=rc) λx hx=>h x (List.mem_cons_of_mem _ hx)
  obtain ⟨n,hn,w,hw,rfl⟩:=h d List.mem_cons_self
  exact ⟨by simp [jx,okD,hp n hn,hp w hw,a],by simp [gw,iT]; omega⟩
theorem rw_ok {p:List Str}(hp:∀x∈p,PyData.strOk x=true){d:D}(h:rwP p d):okR d:=by
 obtain ⟨s,n,ws,rc,_,hn,hw,hr,_,_,rfl⟩:=h
 obtain ⟨a,b⟩:=JQ hp hw
 obtain ⟨c,e⟩:=Km hp hr
 refine ⟨by simp [okD,jx,hp n hn,a,c],?_⟩
 simp only [iT,gw]
 omega
variable {p:List Str}(A:Nms p)
theorem rw_named {d:D}(h:rwP p d):rwP p (rwD (Mn A) (pmN A) d):=by
 obtain ⟨s,n,ws,rc,hs,hn,hw,hr,l1,l2,rfl⟩:=h
 refine ⟨s,nuN A s n,ws.map (omN A),rc.map (pmN A s),hs,Tu A hn,λl hl=>?_,λx hx=>?_,by simpa using l1,by simpa using l2,rfl⟩
 ·obtain ⟨y,hy,rfl⟩:=List.mem_map.mp hl
  obtain ⟨x,hx,rfl⟩:=hw y hy
  exact ⟨_,A.h0.1 x hx,rfl⟩
 ·obtain ⟨y,hy,rfl⟩:=List.mem_map.mp hx
  obtain ⟨n,hn,w,hw,rfl⟩:=hr y hy
  exact ⟨_,Tu A hn,_,A.h0.1 w hw,rfl⟩
theorem Ea {d:D}(h:rwP p d):ju [d,nD4 A]=.ok (false,rwD (Mn A) (pmN A) d):=by
 obtain ⟨s,n,ws,rc,hs,hn,hw,hr,l1,l2,rfl⟩:=h
 have en:∃d,gIx (nD4 A) (.int s)=some d/\∀m∈p,bR d (.str m)=some (.str (nuN A s m)):=by
  rcases hs with rfl | rfl
  ·exact ⟨A.d1,rfl,A.h1.2.2⟩
  ·exact ⟨A.d2,rfl,A.h2.2.2⟩
 obtain ⟨dd,e1,e2⟩:=en
 have ei:gIx (nD4 A) (.int 0)=some A.d0:=rfl
 have q1:cA (jl 2 (bj (hName 0) (bj (hName 1) iW))) dX kj [.un,.un,.fz (nD4 A),.fz (.int s)] rc=.ok (rc.map (pmN A s)):=comp_map (pmN A s) rc λx hx=>by
  obtain ⟨m,hm,w,hw,rfl⟩:=hr x hx
  refine ⟨[.fz (.str m),.fz (.str w),.fz (nD4 A),.fz (.int s)],rfl,rfl,?_⟩
  have a:=e2 m hm
  have b:=A.h0.2.2 w hw
  show _=Res.ok (D.tup [.str (nuN A s m),.str (A.f0 w)])
  generalize nD4 A=NN at *
  simp [kj,aU,aj,aA,au,ak,fC,e1,a,ei,b]
 have q2:cA (hName 0) dX j9 [.un,.fz (nD4 A)] ws=.ok (ws.map (omN A)):=comp_map (omN A) ws λx hx=>by
  refine ⟨[.fz x,.fz (nD4 A)],rfl,rfl,?_⟩
  have b:=Yb A (hw x hx)
  generalize nD4 A=NN at *
  simp [j9,au,ak,fC,ei,b]
 have z1:rc.length<=16777216:=by omega
 have z2:ws.length<=16777216:=by omega
 have a:=e2 n hn
 have q1':∀u0 u2 u3 u5,eX [u0,.fz (nD4 A),.fz (.int s),u2,u3,.fz (.tup rc),u5]=.ok (.lst (rc.map (pmN A s))):=λu0 u2 u3 u5=>by
  generalize nD4 A=NN at *
  simp [eX,bZ,o7,aH,cMe,Sl.bor,q1,z1]
 have q2':∀u0 u2 u3 u5 u6,fG [u0,.fz (nD4 A),u2,u3,.fz (.tup ws),u5,u6]=.ok (.lst (ws.map (omN A))):=λu0 u2 u3 u5 u6=>by
  generalize nD4 A=NN at *
  simp [fG,bZ,o7,aH,cMe,Sl.bor,q2,z2]
 show aY 7 2 (jt eX fG) _=.ok (false,.tup [.int s,.str (nuN A s n),.tup (ws.map (omN A)),.tup (rc.map (pmN A s))])
 generalize eX=Q at *
 generalize fG=Q' at *
 generalize nD4 A=NN at *
 simp [jt,aY,aK,Yv,aH,jl,bj,hName,iW,bu,aW,aj,aA,q1',q2',gP,z1,z2,bD,Me.let,Sl.let,aU,au,ak,e1,a]
open PySem L2 Hd F Pk Lw
mutual
theorem Tp:∀(k:Nat) (w:List Int) (r:Rc) (g:Gm),r.1.length+dp g<=k->r.2.length+dp g<=k->∀q∈prG w r g,q.2.2.1.length<=k/\q.2.2.2.length<=k
 |k,w,r,.fin d,h1,h2,q,hq=>by
  have:q=(w,.fin d,r):=by simpa [prG] using hq
  rw [this]; exact ⟨by show r.1.length<=k; omega,by show r.2.length<=k; omega⟩
 |k,w,r,.deal n ws,h1,h2,q,hq=>by
  have h1:r.1.length+(dpW ws+1)<=k:=h1
  have h2:r.2.length+(dpW ws+1)<=k:=h2
  rcases List.mem_cons.mp (show q∈(w,Gm.deal n ws,r)::prW w (λ_=>r) 0 ws from hq) with rfl | hq
  ·exact ⟨by show r.1.length<=k; omega,by show r.2.length<=k; omega⟩
  ·exact Dz k w (λ_=>r) 0 ws (λ_=>⟨by omega,by omega⟩) q hq
 |k,w,r,.move s n ws,h1,h2,q,hq=>by
  have h1:r.1.length+(dpW ws+1)<=k:=h1
  have h2:r.2.length+(dpW ws+1)<=k:=h2
  rcases List.mem_cons.mp (show q∈(w,Gm.move s n ws,r)::prW w (rbm s n r) 0 ws from hq) with rfl | hq
  ·exact ⟨by show r.1.length<=k; omega,by show r.2.length<=k; omega⟩
  ·refine Dz k w (rbm s n r) 0 ws (λl=>?_) q hq
   unfold rbm
   split
   ·exact ⟨by simp; omega,by show r.2.length+_<=_; omega⟩
   ·exact ⟨by show r.1.length+_<=_; omega,by simp; omega⟩
theorem Dz:∀(k:Nat) (w:List Int) (f:D->Rc) (i:Nat) (ws:Ws),(∀l,(f l).1.length+dpW ws<=k/\(f l).2.length+dpW ws<=k)->∀q∈prW w f i ws,q.2.2.1.length<=k/\q.2.2.2.length<=k
 |k,w,f,i,.nil,_,q,hq=>by cases hq
 |k,w,f,i,.cons l g r,h,q,hq=>by
  have h:∀l,(f l).1.length+max (dp g) (dpW r)<=k/\(f l).2.length+max (dp g) (dpW r)<=k:=h
  rcases List.mem_append.mp (show q∈prG (w++[(i:Int)]) (f l) g++prW w f (i+1) r from hq) with hq | hq
  ·exact Tp k _ (f l) g (by have:=h l; omega) (by have:=h l; omega) q hq
  ·exact Dz k w f (i+1) r (λl=>by have:=h l; omega) q hq
end
theorem Nk:∀ws:Ws,(eV ws).length=jq ws
 | .nil=>rfl
 | .cons l g r=>by show (eV r).length+1=jq r+1; rw [Nk r]
theorem yQ:∀(l:List (List Int×Gm×Rc)) (T:Tb),(l.foldl tst T).2.length<=T.2.length+l.length
 |[],T=>Nat.le_refl _
 |p::l,T=>by
  have i:=yQ l (tst T p)
  have s:(tst T p).2.length<=T.2.length+1:=by
   unfold tst
   split
   ·split <;> simp
   ·omega
  show (l.foldl tst (tst T p)).2.length<=_
  simp only [List.length_cons]
  omega
noncomputable abbrev T0 (g:Gm):List D:=(tbl (prG [] ([],[]) g)).2
structure Has (p:List Str)(g:Gm):Prop where
 gd:Gd g
 dep:dp g<=6
 sz:szG g<=28
 pl:plG p g
 fn:fnG Fj g
 tab:∀d∈T0 g,DG d
 rows:∀d∈T0 g,rwP p d
 nm:NmG (inP p) (prG [] ([],[]) g)
 kr:∀q∈prG [] ([],[]) g,∀x:KR,kr q=some x->rwP p x.2
 wd:∀d∈T0 g,wdD d<=3
theorem Zj {e:En}(E:oM e)(nd:e.pool.Nodup){N:Nd}{m:Int×Int}(I:qd N m){g:Gm}(G:Grw e N ([],[]) g 6)(hz:szG g<=28):Has e.pool g:=by
 have gd:=aa5 E nd I (by omega) G (by omega)
 have at_:=at_of E G
 have pl:=Yl [] ([],[]) g at_
 have rc:=Yi [] ([],[]) g pl ⟨(λ_ z=>nomatch z),(λ_ z=>nomatch z)⟩
 have rl:=Tp 6 [] ([],[]) g (by have:=G.dep; simpa using this) (by have:=G.dep; simpa using this)
 have kr:∀q∈prG [] ([],[]) g,∀x:KR,Pk.kr q=some x->rwP e.pool x.2:=λq hq x ex=>by
  obtain ⟨s,n,ws,e1,rfl⟩:=TV ex
  have h1:=at_ q hq
  have h2:=tL [] ([],[]) g G.len G.sd q hq
  have h3:=rc q hq
  have h4:=rl q hq
  unfold okP at h2
  rw [e1] at h1 h2
  refine ⟨s,n,eV ws,rQ q.2.2 s,h1.1,h1.2.1,h1.2.2,?_,by rw [Nk]; exact h2.2,?_,rfl⟩
  ·rcases h1.1 with rfl | rfl
   ·exact h3.1
   ·exact h3.2
  ·rcases h1.1 with rfl | rfl
   ·exact Nat.le_trans h4.1 (by omega)
   ·exact Nat.le_trans h4.2 (by omega)
 refine ⟨gd,G.dep,hz,pl,Lr [] ([],[]) g λq hq d e1=>?_,QJ G,λd hd=>?_,λq hq s n ws e1=>?_,kr,λd hd=>?_⟩
 ·have:=G.pl [] q hq
  unfold Rm at this
  rw [e1] at this
  exact this
 ·rcases vL (prG [] ([],[]) g) ([],[]) d hd with z | ⟨q,hq,s,n,ws,ep,rfl⟩
  ·cases z
  ·refine kr q hq (kn s n,cV s n ws q.2.2) ?_
   unfold Pk.kr
   rw [ep]
 ·have h1:=at_ q hq
  rw [e1] at h1
  exact ⟨h1.1,h1.2.1⟩
 ·obtain ⟨_,_,_,h⟩:=zV G hd
  exact TQ h
theorem Fx {l:List D}(h:∀d∈l,okR d):gEq (.lst l) (.lst l)=some true/\gNe (.lst l) (.lst l)=some false:=by
 obtain ⟨a,b⟩:=MF l h
 exact ⟨Ba (by simp [okD,a]) (by simp [iT]; omega),zN (by simp [okD,a]) (by simp [iT]; omega)⟩
section
variable {p:List Str}{g:Gm}(P:sI p)(H:Has p g)
include P H
theorem Ye:gEq (.lst (T0 g)) (.lst (T0 g))=some true/\gNe (.lst (T0 g)) (.lst (T0 g))=some false:=Fx λd hd=>rw_ok P.ok (H.rows d hd)
theorem aaX:dI 30 [dG g]=.ok (false,dG (mpG Mt g)):=tV 30 g (by have:=H.dep; omega) H.gd.len H.fn
theorem abH:dI 30 [dG (mpG Mt g)]=.ok (false,dG g):=by
 have:=tV 30 (mpG Mt g) (by rw [Rj]; have:=H.dep; omega) (Ec Mt g H.gd.len) (Mq g H.fn)
 rwa [Cq] at this
theorem rw_turn {d:D}(h:rwP p d):okR (rwD Mt pmT d)/\∃s n ws rc,d=.tup [.int s,.str n,.tup ws,.tup rc]/\rwD Mt pmT d=.tup [.int (3 - s),.str n,.tup ws,.tup rc]:=by
 have o:=rw_ok P.ok h
 obtain ⟨s,n,ws,rc,hs,hn,hw,hr,l1,l2,rfl⟩:=h
 have e:rwD Mt pmT (.tup [.int s,.str n,.tup ws,.tup rc])=.tup [.int (3 - s),.str n,.tup ws,.tup rc]:=by
  show D.tup [.int (3 - s),.str n,.tup (ws.map id),.tup (rc.map (pmT s))]=_
  rw [List.map_id,show rc.map (pmT s)=rc by unfold pmT; exact List.map_id rc]
 refine ⟨?_,s,n,ws,rc,rfl,e⟩
 rw [e]
 obtain ⟨o1,o2⟩:=o
 exact ⟨by simpa [okD,jx] using o1,by simpa [iT,gw] using o2⟩
theorem Od {u0 u1 u2 u3 u5 u6 u7 u8 u9:Sl}:Ex [u0,u1,u2,u3,.fz (.lst (T0 g)),u5,u6,u7,u8,u9]=.ok (.lst ((T0 g).map (rwD Mt pmT))):=by
 have ec:cA (hName 0) dX Mu [.un] (T0 g)=.ok ((T0 g).map (rwD Mt pmT)):=comp_map (rwD Mt pmT) (T0 g) λd hd=>by
  obtain ⟨_,s,n,ws,rc,rfl,e⟩:=rw_turn P H (H.rows d hd)
  refine ⟨_,rfl,rfl,?_⟩
  rw [e]
  rfl
 have hl:(T0 g).length<=16777216:=by
  have h1:(T0 g).length<=0+_:=yQ (prG [] ([],[]) g) ([],[])
  have:=H.sz
  rw [w6] at h1
  omega
 simp [Ex,bZ,fO,ak,cMe,ec,hl]
theorem Vc:gNe (.lst ((T0 g).map (rwD Mt pmT))) (.lst ((T0 g).map (rwD Mt pmT)))=some false:=(Fx λd hd=>by
 obtain ⟨x,hx,rfl⟩:=List.mem_map.mp hd
 exact (rw_turn P H (H.rows x hx)).1).2
variable (A:Nms p)
theorem Zd:aV 30 [dG g,nD4 A]=.ok (false,dG (mpG (Mn A) g)):=named_eq A 30 g (by have:=H.dep; omega) H.gd.len H.pl
theorem Uz {d:D}(h:rwP p d):sdD (rwD (Mn A) (pmN A) d)=sdD d/\wdD (rwD (Mn A) (pmN A) d)=wdD d:=by
 obtain ⟨s,n,ws,rc,hs,hn,hw,hr,l1,l2,rfl⟩:=h
 exact ⟨rfl,by show (ws.map _).length=ws.length; simp⟩
theorem JT:jf [dG (mpG (Mn A) g)]=.ok (true,.lst ((T0 g).map (rwD (Mn A) (pmN A)))):=by
 have G':Gd (mpG (Mn A) g):=by
  refine X3 (Yq A) H.gd H.nm (λq hq x ex=>rw_ok P.ok (rw_named A (H.kr q hq x ex))) (λq hq=>?_) (yU (σ:=id) H.gd.t1 (λd hd=>Uz P H A (H.rows d hd)) λ_ _=>Iff.rfl) (yU (σ:=id) H.gd.t2 (λd hd=>Uz P H A (H.rows d hd)) λ_ _=>Iff.rfl)
  have h:=(H.gd.fr q hq).1
  obtain ⟨w,q,r⟩:=q
  cases q with
  |fin d=>exact h
  |deal n ws=>
   obtain ⟨l,h⟩:=(show Jv ws from h)
   refine ⟨l,?_⟩
   rw [yW,List.map_id]
   exact h
  |move s n ws=>trivial
 rw [v9 G',Gp (Yq A) H.gd H.nm]
theorem Jd {u0 u1 u2 u3 u5 u6 u8 u9:Sl}:De [u0,u1,u2,u3,.fz (.lst (T0 g)),u5,u6,.fz (nD4 A),u8,u9]=.ok (.lst ((T0 g).map (rwD (Mn A) (pmN A)))):=by
 have ec:cA (hName 0) dX Gw [.un,.fz (nD4 A)] (T0 g)=.ok ((T0 g).map (rwD (Mn A) (pmN A))):=comp_map (rwD (Mn A) (pmN A)) (T0 g) λd hd=>by
  refine ⟨[.fz d,.fz (nD4 A)],rfl,rfl,?_⟩
  have e:=Ea A (H.rows d hd)
  unfold Gw fFn
  rw [show (aj (aH 0) (aj (aH 1) aA)) [.fz d,.fz (nD4 A)]=.ok [d,nD4 A] from rfl,Res.pG,e]
  rfl
 have hl:(T0 g).length<=16777216:=by
  have h1:(T0 g).length<=0+_:=yQ (prG [] ([],[]) g) ([],[])
  have:=H.sz
  rw [w6] at h1
  omega
 generalize nD4 A=NN at *
 simp [De,bZ,fO,ak,cMe,Sl.bor,ec,hl]
theorem U5:gNe (.lst ((T0 g).map (rwD (Mn A) (pmN A)))) (.lst ((T0 g).map (rwD (Mn A) (pmN A))))=some false:=(Fx λd hd=>by
 obtain ⟨x,hx,rfl⟩:=List.mem_map.mp hd
 exact rw_ok P.ok (rw_named A (H.rows x hx))).2
end
open PySem L2 Hd F Pk Lw
theorem Xc {s0 s5 s6:Sl}{s t:Int}{a b n:D}{ws rc:List D}{FF:List D}(h1:rc.length<=100)(hF:FF.length<=1000):iZ [s0,.fz (.int s),.fz a,.fz b,.ow (.lst FF),.fz (.tup [.int t,n,.tup ws,.tup rc]),s6] =
  .ok (.nx,[s0,.fz (.int s),.fz a,.fz b,.ow (.lst (FF++[jX s (.tup [a,b]) (.tup [.int t,n,.tup ws,.tup rc])])),.fz (.tup [.int t,n,.tup ws,.tup rc]),.fz (.tup (if t=s then .tup [a,b]::rc else rc))]):=by
 have z1:FF.length<16777216:=by omega
 have z2:1+rc.length<=16777216:=by omega
 have x0:atI [D.int t,n,.tup ws,.tup rc] 0=some (.int t):=rfl
 have x1:atI [D.int t,n,.tup ws,.tup rc] 1=some n:=rfl
 have x2:atI [D.int t,n,.tup ws,.tup rc] 2=some (.tup ws):=rfl
 have x3:atI [D.int t,n,.tup ws,.tup rc] 3=some (.tup rc):=rfl
 have ep:jX s (.tup [a,b]) (.tup [.int t,n,.tup ws,.tup rc])=.tup [.int t,n,.tup ws,.tup (if t=s then .tup [a,b]::rc else rc)]:=rfl
 rw [ep]
 have z3:rc.length+1<=16777216:=by omega
 by_cases q:t=s
 ·subst q
  simp [iZ,aK,bu,au,ak,fC,gIx,x0,x1,x2,x3,gIf,aM,aU,aj,aA,aH,cF,z2,z3,iQ,pU,putL,z1,Nat.add_comm]
 ·simp [iZ,aK,bu,au,ak,fC,gIx,x0,x1,x2,x3,gIf,aM,q,gNx,aU,aj,aA,aH,iQ,pU,putL,z1]
theorem KY {p:List Str}{s0:Sl}{s:Int}{a b:D}:∀(l:List D) (FF:List D) (s5 s6:Sl),(∀d∈l,rwP p d)->FF.length+l.length<=1000->∃s5' s6',bW (hName 5) iZ l [s0,.fz (.int s),.fz a,.fz b,.ow (.lst FF),s5,s6]=.ok (.nx,[s0,.fz (.int s),.fz a,.fz b,.ow (.lst (FF++l.map (jX s (.tup [a,b])))),s5',s6'])
 |[],FF,s5,s6,_,_=>⟨s5,s6,by simp [bW]⟩
 |d::l,FF,s5,s6,h,hz=>by
  simp only [List.length_cons] at hz
  obtain ⟨t,n,ws,rc,hs,hn,hw,hr,l1,l2,e⟩:=h d List.mem_cons_self
  have st:=Xc (s0:=s0) (s5:=s5) (s6:=s6) (s:=s) (t:=t) (a:=a) (b:=b) (n:=.str n) (ws:=ws) (rc:=rc) (FF:=FF) l2 (by omega)
  obtain ⟨s5',s6',e2⟩:=KY (p:=p) (s0:=s0) (s:=s) (a:=a) (b:=b) l (FF++[jX s (.tup [a,b]) d]) (.fz d) (.fz (.tup (if t=s then .tup [a,b]::rc else rc))) (λx hx=>h x (List.mem_cons_of_mem _ hx)) (by simp; omega)
  refine ⟨s5',s6',?_⟩
  rw [← e] at st
  rw [bT (m1:=[s0,.fz (.int s),.fz a,.fz b,.ow (.lst FF),.fz d,s6]) rfl st,e2]
  simp
theorem Z9 {L:Me->Res (Fl×Me)}{r s a b:D}{l:List D}{s5 s6:Sl}(hl:l.length<=1000)(e:L [.fz r,.fz s,.fz a,.fz b,.ow (.lst []),.un,.un]=.ok (.nx,[.fz r,.fz s,.fz a,.fz b,.ow (.lst l),s5,s6])):aY 7 4 (oK L) [r,s,a,b]=.ok (false,.lst (.tup [s,a,.tup [b],.tup []]::l)):=by
 have z:1+l.length<=16777216:=by omega
 have z2:l.length+1<=16777216:=by omega
 simp [aY,oK,aK,jE,gM,aA,e,bD,Me.let,Sl.let,au,aj,aU,aH,ak,cF,z,z2,Nat.add_comm]
theorem Tv {p:List Str}{s:Int}{a b:D}{l:List D}(h:∀d∈l,rwP p d)(hl:l.length<=1000):lD [.lst l,.int s,a,b]=.ok (false,.lst (.tup [.int s,a,.tup [b],.tup []]::l.map (jX s (.tup [a,b])))):=by
 obtain ⟨s5,s6,e⟩:=KY (p:=p) (s0:=.fz (.lst l)) (s:=s) (a:=a) (b:=b) l [] .un .un h (by simpa using hl)
 refine Z9 (by simpa using hl) (s5:=s5) (s6:=s6) ?_
 exact e
theorem Xb {x:Str}{l:List Str}:gIn (.str x) (.lst (l.map D.str))=some (decide (x∈l)):=by
 have f:(l.map D.str).all flat=true:=by simp [flat]
 show inD (.str x) (l.map D.str)=_
 unfold inD
 rw [if_pos ⟨rfl,f⟩,List.map_map]
 congr 1
 unfold inV
 rw [List.any_map]
 induction l with
 |nil=>simp
 |cons y l ih=>
  rw [List.any_cons,ih (by simp [flat])]
  show ((y == x) || _)=_
  by_cases q:x=y
  ·subst q; simp
  ·have q':¬y=x:=λh=>q h.symm
   simp [q,q']
theorem Rx {x:Str}{l:List Str}:Ob (.str x) (.lst (l.map D.str))=some (decide (x∉l)):=by
 unfold Ob
 rw [Xb]
 simp
theorem zq {h:D->Me->Option Me}{ft:Me->Res Bool}{fe:Me->Res D}{m0:Me}{α:Type}{f g:α->D}(P:α->Bool):∀l:List α,(∀x∈l,∃m1,h (f x) m0=some m1/\ft m1=.ok (P x)/\fe m1=.ok (g x))->cA h ft fe m0 (l.map f)=.ok ((l.filter P).map g)
 |[],_=>rfl
 |i::l,H=>by
  obtain ⟨m1,e1,e2,e3⟩:=H i List.mem_cons_self
  have ih:=zq P l λj hj=>H j (List.mem_cons_of_mem _ hj)
  rw [List.map_cons]
  unfold cA
  cases hp:P i with
  |true=>
   rw [hp] at e2
   simp only [e1,e2,e3,ih]
   rw [List.filter_cons_of_pos hp]; rfl
  |false=>
   rw [hp] at e2
   simp only [e1,e2,ih]
   rw [List.filter_cons_of_neg (by rw [hp]; decide)]
section
variable {p:List Str}{g:Gm}(P:sI p)(H:Has p g)
noncomputable def mine (g:Gm)(s:Int):List Str:=((T0 g).filter λd=>decide (sdD d=s)).map nmD
noncomputable def left (p:List Str)(g:Gm)(s:Int):List Str:=p.filter λx=>decide (x∉mine g s)
include P H
theorem Ra:(T0 g).length<=28:=by
 have h1:(T0 g).length<=0+_:=yQ (prG [] ([],[]) g) ([],[])
 have:=H.sz
 rw [w6] at h1
 omega
theorem Xr {s:Int}{u0 u3 u4 u5 u6:Sl}:lq [u0,.fz (.lst (T0 g)),.fz (.int s),u3,u4,u5,u6]=.ok (.lst ((mine g s).map D.str)):=by
 have ec:=zq (h:=hName 0) (ft:=aM gEq (au gIx (ak 0) (fC (.int 0))) (ak 1)) (fe:=sy) (m0:=[.un,.fz (.int s)]) (f:=λd:D=>d) (g:=λd=>.str (nmD d)) (λd=>decide (sdD d=s)) (T0 g) λd hd=>by
  obtain ⟨t,n,ws,rc,_,_,_,_,_,_,rfl⟩:=H.rows d hd
  exact ⟨_,rfl,rfl,rfl⟩
 rw [List.map_id'] at ec
 have hl:=Ra P H
 have hz:(T0 g).length<=16777216:=by omega
 unfold mine
 rw [List.map_map]
 simp [lq,bZ,fO,ak,cMe,Sl.bor,ec,hz]
theorem VB {s:Int}{u0 u1 u2 u5 u6:Sl}:lz [u0,u1,u2,.fz (.lst (p.map D.str)),.fz (.lst ((mine g s).map D.str)),u5,u6]=.ok (.lst ((left p g s).map D.str)):=by
 have ec:=zq (h:=hName 0) (ft:=aM Ob (ak 0) (ak 1)) (fe:=aH 0) (m0:=[.un,.fz (.lst ((mine g s).map D.str))]) (f:=D.str) (g:=D.str) (λx=>decide (x∉mine g s)) p λx hx=>by
  refine ⟨_,rfl,?_,rfl⟩
  show ofO (Ob (.str x) (.lst ((mine g s).map D.str)))=_
  rw [Rx]
  rfl
 have hz:p.length<=16777216:=by rw [P.p8]; decide
 generalize D.lst ((mine g s).map D.str)=MM at *
 simp [lz,bZ,fO,ak,cMe,Sl.bor,ec,hz]
 unfold left
 simp
theorem Xl (s:Int):(mine g s).Nodup/\(∀x∈mine g s,x∈p)/\∀q∈prG [] ([],[]) g,∀n ws,q.2.1=.move s n ws->n∈mine g s:=by
 obtain ⟨t1,t2⟩:=Dn (prG [] ([],[]) g) ([],[]) ⟨rfl,List.nodup_nil⟩
 have t1:(tbl (prG [] ([],[]) g)).1=(T0 g).map kOf:=t1
 have t2:(tbl (prG [] ([],[]) g)).1.Nodup:=t2
 refine ⟨?_,λx hx=>?_,λq hq n ws e=>?_⟩
 ·rw [t1] at t2
  have nd:((T0 g).filter λd=>decide (sdD d=s)).Pairwise λa b=>kOf a≠kOf b:=(List.pairwise_map.mp t2).sublist List.filter_sublist
  refine List.pairwise_map.mpr (nd.imp_of_mem λ{a b} ha hb h z=>h ?_)
  have h1:sdD a=s:=by simpa using (List.mem_filter.mp ha).2
  have h2:sdD b=s:=by simpa using (List.mem_filter.mp hb).2
  unfold kOf
  rw [h1,h2,z]
 ·obtain ⟨d,hd,rfl⟩:=List.mem_map.mp hx
  obtain ⟨t,n,ws,rc,_,hn,_,_,_,_,rfl⟩:=H.rows d (List.mem_filter.mp hd).1
  exact hn
 ·have hk:kn s n∈(tbl (prG [] ([],[]) g)).1:=by
   rw [qF]
   exact Ew _ ([],[]) (kn s n,cV s n ws q.2.2) (List.mem_filterMap.mpr ⟨q,hq,by unfold Pk.kr; rw [e]⟩)
  rw [t1] at hk
  obtain ⟨d,hd,ed⟩:=List.mem_map.mp hk
  obtain ⟨e1,e2⟩:=xR ed
  exact List.mem_map.mpr ⟨d,List.mem_filter.mpr ⟨hd,decide_eq_true e1⟩,e2⟩
theorem yX (s:Int)(x:D){d:D}(h:rwP p d):sdD (jX s x d)=sdD d/\wdD (jX s x d)=wdD d/\(okD x=true->iT x<=1->okR (jX s x d)):=by
 have o:=rw_ok P.ok h
 obtain ⟨t,n,ws,rc,hs,hn,hw,hr,l1,l2,rfl⟩:=h
 refine ⟨rfl,rfl,λh1 h2=>?_⟩
 obtain ⟨a,b⟩:=JQ P.ok hw
 obtain ⟨c,e⟩:=Km P.ok hr
 show okR (.tup [.int t,.str n,.tup ws,.tup (if t=s then x::rc else rc)])
 split
 ·exact ⟨by simp [okD,jx,P.ok n hn,a,c,h1],by simp only [iT,gw]; omega⟩
 ·exact o
theorem Q5:∀l:List D,(∀d∈l,wdD d<=3)->(l.map λd=>(wdD d:Int)).sum<=3 * l.length
 |[],_=>by simp
 |d::l,h=>by
  have i:=Q5 l λx hx=>h x (List.mem_cons_of_mem _ hx)
  have:=h d List.mem_cons_self
  simp only [List.map_cons,List.sum_cons,List.length_cons]
  omega
theorem Iu {s:Int}(hs:s=1\/s=2):kY [dG g,.lst (T0 g),.int s,.lst (p.map D.str)]=.ok (false,.bl true):=by
 obtain ⟨m1,m2,m3⟩:=Xl P H s
 have q2:=Xr P H (s:=s) (u0:=.fz (dG g)) (u3:=.fz (.lst (p.map D.str))) (u4:=.un) (u5:=.un) (u6:=.un)
 have q3:=VB P H (s:=s) (u0:=.fz (dG g)) (u1:=.fz (.lst (T0 g))) (u2:=.fz (.int s)) (u5:=.un) (u6:=.un)
 have e1:bu 4 lq [.fz (dG g),.fz (.lst (T0 g)),.fz (.int s),.fz (.lst (p.map D.str)),.un,.un,.un]=.ok (.nx,[.fz (dG g),.fz (.lst (T0 g)),.fz (.int s),.fz (.lst (p.map D.str)),.fz (.lst ((mine g s).map D.str)),.un,.un]):=by unfold bu; rw [q2]; rfl
 have e2:bu 5 lz [.fz (dG g),.fz (.lst (T0 g)),.fz (.int s),.fz (.lst (p.map D.str)),.fz (.lst ((mine g s).map D.str)),.un,.un]=.ok (.nx,[.fz (dG g),.fz (.lst (T0 g)),.fz (.int s),.fz (.lst (p.map D.str)),.fz (.lst ((mine g s).map D.str)),.fz (.lst ((left p g s).map D.str)),.un]):=by unfold bu; rw [q3]; rfl
 have start:kY [dG g,.lst (T0 g),.int s,.lst (p.map D.str)]=(match iy [.fz (dG g),.fz (.lst (T0 g)),.fz (.int s),.fz (.lst (p.map D.str)),.un,.un,.un] with
  | .ok (.rt f d,_)=>.ok (f,d)
  |r=>(aY 7 4 (λ_=>r) [dG g,.lst (T0 g),.int s,.lst (p.map D.str)])):=by
  cases hh:iy [.fz (dG g),.fz (.lst (T0 g)),.fz (.int s),.fz (.lst (p.map D.str)),.un,.un,.un] with
  |ok r=>
   obtain ⟨fl,m'⟩:=r
   cases fl <;> (show aY 7 4 iy _=_; simp [aY,hh])
  |_=>show aY 7 4 iy _=_; simp [aY,hh]
 rw [start]
 unfold iy qH
 rw [gs e1,gs e2]
 cases hL:left p g s with
 |nil=>
  rw [show aK (gIf (aM gEq (aW iU (aj (ak 5) aA)) (fC (.int 0))) (bD (fC (.bl true))) gNx) (aK (bu 6 (fFn jf (aj (aU (aj (fC (.str "move")) (aj (aH 2) (aj (au gIx (ak 5) (fC (.int 0))) (aj (aU (aj (aU (aj (au gIx (ak 5) (fUn uc (fC (.int 1)))) (aj (aH 0) aA))) aA)) aA))))) aA))) (bD (rn gEq (ak 6) (fFn lD (aj (aH 1) (aj (aH 2) (aj (au gIx (ak 5) (fC (.int 0))) (aj (au gIx (ak 5) (fUn uc (fC (.int 1)))) aA)))))))) [.fz (dG g),.fz (.lst (T0 g)),.fz (.int s),.fz (.lst (p.map D.str)),.fz (.lst ((mine g s).map D.str)),.fz (.lst (([]:List Str).map D.str)),.un]=.ok (.rt false (.bl true),[.fz (dG g),.fz (.lst (T0 g)),.fz (.int s),.fz (.lst (p.map D.str)),.fz (.lst ((mine g s).map D.str)),.fz (.lst []),.un]) from rfl]
 |cons a l=>
  obtain ⟨b,hb⟩:∃b,(a::l).getLast? = some b:=by
   cases h:(a::l).getLast? with
   |none=>simp at h
   |some b=>exact ⟨b,rfl⟩
  have mem:∀x∈a::l,x∈p/\x∉mine g s:=λx hx=>by
   rw [← hL] at hx
   have:=List.mem_filter.mp hx
   exact ⟨this.1,by simpa using this.2⟩
  have ha:=mem a List.mem_cons_self
  have hbm:=mem b (List.mem_of_getLast? hb)
  have i0:gIx (.lst ((a::l).map D.str)) (.int 0)=some (.str a):=by simp [gIx,atI,ixN]
  have i1:gIx (.lst ((a::l).map D.str)) (.int (-1))=some (.str b):=by
   show atI ((a::l).map D.str) (-1)=_
   unfold atI ixN
   rw [List.length_map,if_neg (by decide),if_pos (by simp only [List.length_cons]; omega)]
   show ((a::l).map D.str)[(-1+(((a::l).length:Nat):Int)).toNat]? = _
   rw [show (-1+(((a::l).length:Nat):Int)).toNat=(a::l).length - 1 by simp only [List.length_cons]; omega,List.getElem?_map,← List.getLast?_eq_getElem?,hb]
   rfl
  have okx:okD (.tup [.str a,.str b])=true/\iT (.tup [.str a,.str b])<=1:=⟨by simp [okD,jx,P.ok a ha.1,P.ok b hbm.1],by simp [iT,gw]⟩
  have hnew:(a::mine g s).Nodup:=List.nodup_cons.mpr ⟨ha.2,m1⟩
  have h8:=sub_len hnew (p:=p) λx hx=>by
   rcases List.mem_cons.mp hx with rfl | hx
   ·exact ha.1
   ·exact m2 x hx
  have hl7:((T0 g).filter λd=>decide (sdD d=s)).length<=7:=by
   rw [P.p8] at h8
   simp only [List.length_cons,mine,List.length_map] at h8
   omega
  have hrow:cV s a (.cons (.str b) g .nil) ([],[])=.tup [.int s,.str a,.tup [.str b],.tup []]:=by rcases hs with rfl | rfl <;> rfl
  have ok:∀t,(t=1\/t=2)->okT (cV s a (.cons (.str b) g .nil) ([],[])::(T0 g).map (jX s (.tup [.str a,.str b]))) t:=λt ht=>by
   have om:okT ((T0 g).map (jX s (.tup [.str a,.str b]))) t:=yU (σ:=id) (t:=t) (by rcases ht with rfl | rfl; exact H.gd.t1; exact H.gd.t2) (λd hd=>⟨(yX P H s _ (H.rows d hd)).1,(yX P H s _ (H.rows d hd)).2.1⟩) λ_ _=>Iff.rfl
   by_cases q:t=s
   ·subst q
    have e:((T0 g).map (jX t (.tup [.str a,.str b]))).filter (λd=>decide (sdD d=t))=((T0 g).filter λd=>decide (sdD d=t)).map (jX t (.tup [.str a,.str b])):=by
     rw [List.filter_map]
     congr 1
     refine List.filter_congr λd hd=>?_
     show decide (sdD (jX t _ d)=t)=decide (sdD d=t)
     rw [(yX P H t _ (H.rows d hd)).1]
    have hw:=Q5 P H (((T0 g).filter λd=>decide (sdD d=t)).map (jX t (.tup [.str a,.str b]))) λx hx=>by
     obtain ⟨d,hd,rfl⟩:=List.mem_map.mp hx
     have hd:=(List.mem_filter.mp hd).1
     rw [(yX P H t _ (H.rows d hd)).2.1]
     exact H.wd d hd
    rw [List.length_map] at hw
    unfold okT
    rw [List.filter_cons_of_pos (by rw [hrow]; exact decide_eq_true rfl),e,List.length_cons,List.length_map,List.map_cons,List.sum_cons]
    have hone:wdD (cV t a (.cons (.str b) g .nil) ([],[]))=1:=rfl
    rw [hone]
    exact ⟨by omega,by omega⟩
   ·unfold okT
    rw [List.filter_cons_of_neg (by rw [hrow]; simp; exact λh=>q h.symm)]
    exact om
  have lk:=Wk (w:=b) H.gd hs (λq hq t m ws e ⟨h1,h2⟩=>by
   subst h1
   exact ha.2 (h2 ▸ m3 q hq m ws e)) ⟨P.ok a ha.1,P.ok b hbm.1⟩ (by have:=H.dep; omega) (by have:=H.sz; omega) ok
  rw [hrow] at lk
  have ah:=Tv (s:=s) (a:=.str a) (b:=.str b) H.rows (by have:=Ra P H; omega)
  have ge:=(Fx (l:=.tup [.int s,.str a,.tup [.str b],.tup []]::(T0 g).map (jX s (.tup [.str a,.str b]))) λd hd=>by
   rcases List.mem_cons.mp hd with rfl | hd
   ·exact ⟨by simp [okD,jx,P.ok a ha.1,P.ok b hbm.1],by simp [iT,gw]⟩
   ·obtain ⟨x,hx,rfl⟩:=List.mem_map.mp hd
    exact (yX P H s _ (H.rows x hx)).2.2 okx.1 okx.2).1
  have dg:dG (.move s a (.cons (.str b) g .nil))=.tup [.str "move",.int s,.str a,.tup [.tup [.str b,dG g]]]:=rfl
  rw [dg] at lk
  generalize dG g=GG at *
  generalize D.lst (T0 g)=TT at *
  generalize D.lst (.tup [.int s,.str a,.tup [.str b],.tup []]::(T0 g).map (jX s (.tup [.str a,.str b])))=RR at *
  generalize D.lst (p.map D.str)=PP at *
  generalize D.lst ((mine g s).map D.str)=MM at *
  have hlen:iU [.lst ((a::l).map D.str)]=some (.int ((l.length:Int)+1)):=by simp [iU]
  generalize D.lst ((a::l).map D.str)=LL at *
  have hz:¬((l.length:Int)+1=0):=by omega
  simp [aK,gIf,aM,aW,aj,aA,ak,hlen,fC,hz,gNx,bu,fFn,aU,aH,au,i0,fUn,uc,i1,lk,bD,Me.let,Sl.let,rn,ah,ge]
end
open PySem L2 Hd F Pk Lw
theorem UG:rD (mkRat 1 2)=.tup [.int 1,.int 2]/\rq (mkRat 1 2)=(1,2):=⟨by rfl,by rfl⟩
theorem Lk:rD (mkRat 1 3)=.tup [.int 1,.int 3]/\rq (mkRat 1 3)=(1,3):=⟨by rfl,by rfl⟩
theorem Yp:rD (mkRat 2 3)=.tup [.int 2,.int 3]/\rq (mkRat 2 3)=(2,3):=⟨by rfl,by rfl⟩
theorem XS:rD (mkRat 1 1)=.tup [.int 1,.int 1]/\rq (mkRat 1 1)=(1,1):=⟨by rfl,by rfl⟩
theorem Xp {a b:Int}{x:Rat}(h:rq x=(a,b))(ha:a.natAbs<4)(hb:b<4)(hp:0<a):Sz 20 x/\smQ (rq x)/\0<x.num:=by
 have h1:x.num=a:=congrArg Prod.fst h
 have h2:(x.den:Int)=b:=congrArg Prod.snd h
 refine ⟨⟨?_,?_⟩,?_,by omega⟩
 ·rw [h1]; exact Nat.lt_of_lt_of_le ha (by decide)
 ·exact Nat.lt_of_lt_of_le (show x.den<4 by omega) (by decide)
 ·rw [h]; exact ⟨by show a.natAbs<=_; omega,by show b<=_; omega⟩
section
variable {p:List Str}{g:Gm}(P:sI p)(H:Has p g)
include P H
theorem aaI (n:Str):jf [.tup [.str "deal",.str n,.tup [.tup [.tup [.int 1,.int 2],dG g],.tup [.tup [.int 1,.int 2],dG g]]]]=.ok (true,.lst (T0 g)):=by
 have hz:=H.sz
 have hd:=H.dep
 refine Gh (n:=n) (ws:=.cons (.tup [.int 1,.int 2]) g (.cons (.tup [.int 1,.int 2]) g .nil)) H.gd (λk hk=>?_) (show (2:Nat)<=3 by decide) ⟨H.gd.len,H.gd.len,trivial⟩ ⟨H.gd.sd,H.gd.sd,trivial⟩ (by show max (dp g) (max (dp g) 0)+1<=12; omega) (by show szG g+(szG g+0)+1<=64; omega) ⟨[mkRat 1 2,mkRat 1 2],?_,λx hx=>?_,by decide,by decide +kernel⟩ ?_
 ·rcases List.mem_cons.mp (show k∈[g,g] from hk) with rfl | hk
  ·exact .inl rfl
  ·exact .inl (List.mem_singleton.mp hk)
 ·show [D.tup [.int 1,.int 2],.tup [.int 1,.int 2]]=[rD (mkRat 1 2),rD (mkRat 1 2)]
  rw [UG.1]
 ·have:x=mkRat 1 2:=by simpa using hx
  rw [this]
  exact Xp UG.2 (by decide) (by decide) (by decide)
 ·have e:prW [] (λ_=>(([],[]):Rc)) 0 (.cons (.tup [.int 1,.int 2]) g (.cons (.tup [.int 1,.int 2]) g .nil))=prG [0] ([],[]) g++(prG [1] ([],[]) g++[]):=rfl
  rw [e,List.append_nil,List.filterMap_append,xg (vf [0] [] ([],[]) g),xg (vf [1] [] ([],[]) g),Og]
theorem aa6 (n:Str){c:Int}(hc:c.natAbs<=10):jf [.tup [.str "deal",.str n,.tup [.tup [.tup [.int 1,.int 3],.tup [.str "end",.tup [.int c,.int 1]]],.tup [.tup [.int 2,.int 3],dG g]]]]=.ok (true,.lst (T0 g)):=by
 have hz:=H.sz
 have hd:=H.dep
 refine Gh (n:=n) (ws:=.cons (.tup [.int 1,.int 3]) (.fin (c,1)) (.cons (.tup [.int 2,.int 3]) g .nil)) H.gd (λk hk=>?_) (show (2:Nat)<=3 by decide) ⟨trivial,H.gd.len,trivial⟩ ⟨trivial,H.gd.sd,trivial⟩ (by show max 0 (max (dp g) 0)+1<=12; omega) (by show 1+(szG g+0)+1<=64; omega) ⟨[mkRat 1 3,mkRat 2 3],?_,λx hx=>?_,by decide,by decide +kernel⟩ ?_
 ·rcases List.mem_cons.mp (show k∈[Gm.fin (c,1),g] from hk) with rfl | hk
  ·exact .inr ⟨_,rfl,by show c.natAbs<=_; omega,by show (1:Int)<=_; decide⟩
  ·exact .inl (List.mem_singleton.mp hk)
 ·show [D.tup [.int 1,.int 3],.tup [.int 2,.int 3]]=[rD (mkRat 1 3),rD (mkRat 2 3)]
  rw [Lk.1,Yp.1]
 ·have:x=mkRat 1 3\/x=mkRat 2 3:=by simpa using hx
  rcases this with rfl | rfl
  ·exact Xp Lk.2 (by decide) (by decide) (by decide)
  ·exact Xp Yp.2 (by decide) (by decide) (by decide)
 ·have e:prW [] (λ_=>(([],[]):Rc)) 0 (.cons (.tup [.int 1,.int 3]) (.fin (c,1)) (.cons (.tup [.int 2,.int 3]) g .nil))=([0],.fin (c,1),([],[]))::(prG [1] ([],[]) g++[]):=rfl
  rw [e,List.append_nil,List.filterMap_cons,xg (vf [1] [] ([],[]) g)]
  rfl
theorem abz (n:Str):jf [.tup [.str "deal",.str n,.tup [.tup [.tup [.int 1,.int 1],dG g]]]]=.ok (true,.lst (T0 g)):=by
 have hz:=H.sz
 have hd:=H.dep
 refine Gh (n:=n) (ws:=.cons (.tup [.int 1,.int 1]) g .nil) H.gd (λk hk=>?_) (show (1:Nat)<=3 by decide) ⟨H.gd.len,trivial⟩ ⟨H.gd.sd,trivial⟩ (by show max (dp g) 0+1<=12; omega) (by show szG g+0+1<=64; omega) ⟨[mkRat 1 1],?_,λx hx=>?_,by decide,by decide +kernel⟩ ?_
 ·exact .inl (List.mem_singleton.mp (show k∈[g] from hk))
 ·show [D.tup [.int 1,.int 1]]=[rD (mkRat 1 1)]
  rw [XS.1]
 ·have:x=mkRat 1 1:=by simpa using hx
  rw [this]
  exact Xp XS.2 (by decide) (by decide) (by decide)
 ·have e:prW [] (λ_=>(([],[]):Rc)) 0 (.cons (.tup [.int 1,.int 1]) g .nil)=prG [0] ([],[]) g++[]:=rfl
  rw [e,List.append_nil,xg (vf [0] [] ([],[]) g)]
end
theorem vz {p:List Str}(P:sI p){j:Int}(h:0<=j/\j<8):∃n,gIx (.lst (p.map D.str)) (.int j)=some (.str n):=by
 have hl:j.toNat<p.length:=by rw [P.p8]; omega
 refine ⟨p[j.toNat],?_⟩
 have:=pN (xs:=p.map D.str) (j:=j.toNat) (v:=.str p[j.toNat]) (by rw [List.getElem?_map,List.getElem?_eq_getElem hl]; rfl)
 rwa [show ((j.toNat:Nat):Int)=j by omega] at this
theorem Eg {s0 s3 s5 s6 s7 s8:Sl}{pl T:D}{c:Int}{n:Str}{ps:List D}(hn:gIx pl (.int (c / 1152 % 8))=some (.str n))(hz:ps.length<=10)(hk:jf [.tup [.str "deal",.str n,.tup ps]]=.ok (true,T))(q:gNe T T=some false):
  Fy [s0,.fz pl,.fz (.int c),s3,.fz T,s5,s6,s7,s8,.fz (.lst ps)]=.ok (.nx,[s0,.fz pl,.fz (.int c),s3,.fz T,s5,s6,s7,s8,.fz (.lst ps)]):=by
 have b1:Bg 1152:=bgS (by decide)
 have z:ps.length<=16777216:=by omega
 simp [Fy,gIf,aM,fFn,aj,aA,aU,fC,au,ak,eQ,dvI,b1,bO,mdI,hn,aW,gP,z,hk,q,gNx]
theorem Xh {ft fl fc fp fg fi fn fm:List D->Res (Bool×D)}{L2 L4 L6:Me->Res D}{L8:Me->Res (Fl×Me)}{ns pl G T G2 R2 NN GN RN:D}{c0 c1 c2 c3:Int}{s1:List D}{x:Sl}
  (h0:fc [ns,.int 0]=.ok (false,.int c0)) (h1:fc [ns,.int 1]=.ok (false,.int c1)) (h2:fc [ns,.int 2]=.ok (false,.int c2)) (h3:fc [ns,.int 3]=.ok (false,.int c3))
  (hp:fp [.int c0,.int c1]=.ok (true,pl)) (e1:gSl ns (some 8) (some 48)=some (.lst s1)) (z1:s1.length<=1000) (g1:fg [.lst (s1++[.int c3]),.int c2,.int 6,.int 27,pl]=.ok (false,G))
  (k1:fl [G]=.ok (true,T)) (i1:fi [T]=.ok (false,.bl true)) (hl:yj [T]=some T) (q1:gNe T T=some false) (q2:gEq T T=some true)
  (t1:ft [G]=.ok (false,G2)) (k2:fl [G2]=.ok (true,R2)) (t2:ft [G2]=.ok (false,G)) (l2:L2 [.fz ns,.fz pl,.fz (.int c2),.fz G,.fz T,.fz T,.fz G2,.un,.un,.un]=.ok R2) (q3:gNe R2 R2=some false)
  (l4:L4 [.fz ns,.fz pl,.fz (.int c2),.fz G,.fz T,.fz T,.fz G2,.un,.un,.un]=.ok NN) (n1:fn [G,NN]=.ok (false,GN)) (k3:fl [GN]=.ok (true,RN)) (l6:L6 [.fz ns,.fz pl,.fz (.int c2),.fz G,.fz T,.fz T,.fz G2,.fz NN,.un,.un]=.ok RN) (q4:gNe RN RN=some false)
  (l8:L8 [.fz ns,.fz pl,.fz (.int c2),.fz G,.fz T,.fz T,.fz G2,.fz NN,.fz (.tup [.str "end",.tup [.int (c2 / 128 % 9 - 4),.int 1]]),.un]=.ok (.nx,[.fz ns,.fz pl,.fz (.int c2),.fz G,.fz T,.fz T,.fz G2,.fz NN,.fz (.tup [.str "end",.tup [.int (c2 / 128 % 9 - 4),.int 1]]),x]))
  (m1:fm [G,T,.int 1,pl]=.ok (false,.bl true)) (m2:fm [G,T,.int 2,pl]=.ok (false,.bl true)) (hx:∃d,x=.fz d):aY 10 1 (K8 ft fl fc fp fg fi fn fm L2 L4 L6 L8) [ns]=.ok (false,.bl true):=by
 obtain ⟨xd,rfl⟩:=hx
 have b128:Bg 128:=bgS (by decide)
 have y1:s1.length+1<=16777216:=by omega
 simp [aY,K8,aK,bu,fFn,aj,aA,aH,fC,h0,h1,h2,h3,hp,au,fSl,ak,fO1,e1,gM,cF,y1,g1,k1,gIf,kO,fTv,i1,gNx,aW,hl,t1,pC,aM,k2,l2,q3,t2,q1,l4,n1,k3,l6,q4,aU,eQ,dvI,b128,bO,mdI,F.gC,l8,bD,Me.let,Sl.let,Px,m1,m2,rn,q2]
theorem QM {ns:List Int}{p:List Str}(P:sI p)(hn:ns.length<=63){u2 u3 u4 u5 u6:Sl}:∃A:Nms p,CV [.fz (.lst (ns.map D.int)),.fz (.lst (p.map D.str)),u2,u3,u4,u5,u6,.un,.un,.un]=.ok (nD4 A):=by
 obtain ⟨c0,h0⟩:=cell_eq ns 4 (by omega)
 obtain ⟨c1,h1⟩:=cell_eq ns 5 (by omega)
 obtain ⟨c2,h2⟩:=cell_eq ns 6 (by omega)
 obtain ⟨c3,h3⟩:=cell_eq ns 7 (by omega)
 obtain ⟨d0,f0,e0,n0⟩:=vV P c0
 obtain ⟨d1,f1,e1,n1⟩:=vV P c1
 obtain ⟨d2,f2,e2,n2⟩:=vV P c2
 obtain ⟨d3,f3,e3,n3⟩:=vV P c3
 refine ⟨⟨d0,d1,d2,d3,f0,f1,f2,f3,n0,n1,n2,n3⟩,?_⟩
 show _=Res.ok (D.lst [d0,d1,d2,d3])
 have er:(aj (fC (.int 4)) aA) [.fz (.lst (ns.map D.int)),.fz (.lst (p.map D.str)),u2,u3,u4,u5,u6,.un,.un,.un]=.ok [.int 4]:=by simp [aj,fC,aA]
 have ei:=Ky er (by omega) (by omega)
 generalize D.lst (ns.map D.int)=NS at *
 generalize D.lst (p.map D.str)=PP at *
 have each:∀{k c:Int} {d:D},dM [NS,.int (4+k)]=.ok (false,.int c)->iB [.int c,PP]=.ok (true,d)->qJ [.fz (.int k),.fz PP,.fz NS]=.ok d:=λ{k c d} a b=>by
  simp [qJ,fFn,aj,aA,aH,au,fC,ak,cF,a,b]
 have a0:=each (k:=0) h0 e0
 have a1:=each (k:=1) h1 e1
 have a2:=each (k:=2) h2 e2
 have a3:=each (k:=3) h3 e3
 unfold CV bZ
 rw [ei]
 show (if ((List.range (4:Int).toNat).map λ(k:Nat)=>D.int k).length<=sizeLine then match cA (hName 0) dX qJ [.un,.fz PP,.fz NS] ((List.range (4:Int).toNat).map λ(k:Nat)=>D.int k) with
  | .ok ys=>Res.ok (D.lst ys)
  |_=>.stuck
 else .stuck)=_
 rw [show ((List.range (4:Int).toNat).map λ(k:Nat)=>D.int k)=[.int 0,.int 1,.int 2,.int 3] from rfl,if_pos (by decide)]
 have step:∀{k:Int} {d:D} {l:List D} {r:List D},qJ [.fz (.int k),.fz PP,.fz NS]=.ok d->cA (hName 0) dX qJ [.un,.fz PP,.fz NS] l=.ok r->cA (hName 0) dX qJ [.un,.fz PP,.fz NS] (.int k::l)=.ok (d::r):=λ{k d l r} a b=>by
  unfold cA
  rw [show hName 0 (.int k) [.un,.fz PP,.fz NS]=some [.fz (.int k),.fz PP,.fz NS] from rfl]
  simp only [dX,a,b]
 rw [step a0 (step a1 (step a2 (step a3 rfl)))]
theorem aaL {p:List Str}{g:Gm}(P:sI p)(H:Has p g){s0 s5 s6 s7:Sl}{c:Int}:∃d,Fi [s0,.fz (.lst (p.map D.str)),.fz (.int c),.fz (dG g),.fz (.lst (T0 g)),s5,s6,s7,.fz (.tup [.str "end",.tup [.int (c / 128 % 9 - 4),.int 1]]),.un]=.ok (.nx,[s0,.fz (.lst (p.map D.str)),.fz (.int c),.fz (dG g),.fz (.lst (T0 g)),s5,s6,s7,.fz (.tup [.str "end",.tup [.int (c / 128 % 9 - 4),.int 1]]),.fz d]):=by
 obtain ⟨n,hn⟩:=vz P (j:=c / 1152 % 8) (by omega)
 have q:=(Ye P H).2
 have k1:=aaI P H n
 have k2:=aa6 P H n (c:=c / 128 % 9 - 4) (by omega)
 have k3:=abz P H n
 generalize D.lst (T0 g)=T at *
 generalize D.lst (p.map D.str)=PP at *
 generalize dG g=G at *
 generalize D.tup [.str "end",.tup [.int (c / 128 % 9 - 4),.int 1]]=E at *
 have b1:=Eg (s0:=s0) (s3:=.fz G) (s5:=s5) (s6:=s6) (s7:=s7) (s8:=.fz E) hn (by simp) k1 q
 have b2:=Eg (s0:=s0) (s3:=.fz G) (s5:=s5) (s6:=s6) (s7:=s7) (s8:=.fz E) hn (by simp) k2 q
 have b3:=Eg (s0:=s0) (s3:=.fz G) (s5:=s5) (s6:=s6) (s7:=s7) (s8:=.fz E) hn (by simp) k3 q
 refine ⟨.lst [.tup [.tup [.int 1,.int 1],G]],?_⟩
 unfold Fi jD
 rw [show (fO (gM (aj (gM (aj (aU (aj (aU (aj (fC (.int 1)) (aj (fC (.int 2)) aA))) (aj (aH 3) aA))) (aj (aU (aj (aU (aj (fC (.int 1)) (aj (fC (.int 2)) aA))) (aj (aH 3) aA))) aA))) (aj (gM (aj (aU (aj (aU (aj (fC (.int 1)) (aj (fC (.int 3)) aA))) (aj (aH 8) aA))) (aj (aU (aj (aU (aj (fC (.int 2)) (aj (fC (.int 3)) aA))) (aj (aH 3) aA))) aA))) (aj (gM (aj (aU (aj (aU (aj (fC (.int 1)) (aj (fC (.int 1)) aA))) (aj (aH 3) aA))) aA)) aA))))) [s0,.fz PP,.fz (.int c),.fz G,.fz T,s5,s6,s7,.fz E,.un]=.ok [.lst [.tup [.tup [.int 1,.int 2],G],.tup [.tup [.int 1,.int 2],G]],.lst [.tup [.tup [.int 1,.int 3],E],.tup [.tup [.int 2,.int 3],G]],.lst [.tup [.tup [.int 1,.int 1],G]]] from rfl,Res.pG]
 rw [bT (m1:=[s0,.fz PP,.fz (.int c),.fz G,.fz T,s5,s6,s7,.fz E,.fz (.lst [.tup [.tup [.int 1,.int 2],G],.tup [.tup [.int 1,.int 2],G]])]) rfl b1]
 rw [bT (m1:=[s0,.fz PP,.fz (.int c),.fz G,.fz T,s5,s6,s7,.fz E,.fz (.lst [.tup [.tup [.int 1,.int 3],E],.tup [.tup [.int 2,.int 3],G]])]) rfl b2]
 rw [bT (m1:=[s0,.fz PP,.fz (.int c),.fz G,.fz T,s5,s6,s7,.fz E,.fz (.lst [.tup [.tup [.int 1,.int 1],G]])]) rfl b3]
 rfl
theorem Qm {xs:List Int}{lo hi:Option Int}:cut (xs.map D.int) lo hi=(cut xs lo hi).map D.int:=by
 unfold cut
 simp [List.map_take,List.map_drop]
theorem Us:∀ns:List Int,ns.length<=63->∃fr,XM [.lst (ns.map D.int)]=.ok (fr,.bl true):=by
 intro ns hn
 obtain ⟨c0,h0⟩:=cell_eq ns 0 (by omega)
 obtain ⟨c1,h1⟩:=cell_eq ns 1 (by omega)
 obtain ⟨c2,h2⟩:=cell_eq ns 2 (by omega)
 obtain ⟨c3,h3⟩:=cell_eq ns 3 (by omega)
 obtain ⟨p,ep,P⟩:=Vo c0 c1
 have l1:(cut ns (some 8) (some 48)).length<=63:=by unfold cut; simp only [List.length_take,List.length_drop]; omega
 have E:oM ⟨cut ns (some 8) (some 48)++[c3],p,c2 % 64,decide (c2 / 64 % 2=1)⟩:=⟨by simp,by simp; omega,P.p8,by show 0<=c2 % 64/\c2 % 64<64; omega,P.ok⟩
 obtain ⟨g,N,m,e1,I,hz,G⟩:=Xk E (turn:=c2) (rm:=27) (dep:=6) (by omega) (by omega) rfl rfl
 have H:Has p g:=Zj E P.nd I G hz
 rw [show cD ⟨cut ns (some 8) (some 48)++[c3],p,c2 % 64,decide (c2 / 64 % 2=1)⟩=.lst ((cut ns (some 8) (some 48)).map D.int++[.int c3]) by simp [cD]] at e1
 obtain ⟨A,eA⟩:=QM (u2:=.fz (.int c2)) (u3:=.fz (dG g)) (u4:=.fz (.lst (T0 g))) (u5:=.fz (.lst (T0 g))) (u6:=.fz (dG (mpG Mt g))) P hn
 obtain ⟨d,e8⟩:=aaL P H (s0:=.fz (.lst (ns.map D.int))) (s5:=.fz (.lst (T0 g))) (s6:=.fz (dG (mpG Mt g))) (s7:=.fz (nD4 A)) (c:=c2)
 have q:=Ye P H
 exact ⟨false,Xh h0 h1 h2 h3 ep (by show some (D.lst (cut (ns.map D.int) _ _))=_; rw [Qm]) (by simp; omega) e1 (v9 H.gd) (S8 H.tab) rfl q.2 q.1 (aaX P H) (Qa H.gd) (abH P H) (Od P H) (Vc P H) eA (Zd P H A) (JT P H A) (Jd P H A) (U5 P H A) e8 (Iu P H (.inl rfl)) (Iu P H (.inr rfl)) ⟨d,rfl⟩⟩
open PySem L2 Hd F Pk Lw
theorem oR {α:Sort _}{a:α}{p:Prop}:a=a\/p:=Or.inl rfl
theorem aQ {X:Cx}{E:XK}{a:Expr}{fa:Me->Res D}{i j p q}(ha:FB X E a fa):FE X E (.Subscript a (.Constant (.int i) j p) q) (au gIx fa (fC (.int i))):=ig nQ ha (aq aD) (λ_ _=>rfl)
local macro_rules | `(tactic| walk_at "u1")=>`(tactic| exact ⟨rfl,rfl,rfl,by decide +kernel,rfl,by decide +kernel,by decide +kernel⟩)
local macro_rules | `(tactic| walk_at "u2")=>`(tactic| exact ⟨rfl,by decide +kernel,by decide +kernel,by decide +kernel,by decide +kernel⟩)
local macro_rules | `(tactic| walk_at "u3")=>`(tactic| decide +kernel)
noncomputable def top (i:Nat):Stmt:=PySem.Challenge.pw_hushduel_k16_turned_and_put_together.main.body.getD i (.Pass ⟨0,0,0,0⟩)
theorem DQ:bootBuiltins "abs" = some (.builtin "abs"):=by walk_at "u3"
theorem SX:bootBuiltins "all" = some (.builtin "all"):=by walk_at "u3"
theorem Uw:bootBuiltins "any" = some (.builtin "any"):=by walk_at "u3"
theorem Vx:bootBuiltins "bool" = some (.type "bool"):=by walk_at "u3"
theorem YG:bootBuiltins "int" = some (.type "int"):=by walk_at "u3"
theorem dY:bootBuiltins "isinstance" = some (.builtin "isinstance"):=by walk_at "u3"
theorem mF:bootBuiltins "len" = some (.builtin "len"):=by walk_at "u3"
theorem qO:bootBuiltins "list" = some (.type "list"):=by walk_at "u3"
theorem Y0:bootBuiltins "str" = some (.type "str"):=by walk_at "u3"
theorem Td:bootBuiltins "sum" = some (.builtin "sum"):=by walk_at "u3"
theorem ie:bootBuiltins "tuple" = some (.type "tuple"):=by walk_at "u3"
structure Bt (mg:Str->Option Value):Prop where
 ValueError:mg "ValueError" = none
 abs:mg "abs" = none
 all:mg "all" = none
 any:mg "any" = none
 bool:mg "bool" = none
 enumerate:mg "enumerate" = none
 int:mg "int" = none
 isinstance:mg "isinstance" = none
 len:mg "len" = none
 list:mg "list" = none
 range:mg "range" = none
 reversed:mg "reversed" = none
 str:mg "str" = none
 sum:mg "sum" = none
 tuple:mg "tuple" = none
structure CnT (K:W.Frag)(mg:Str->Option Value):Prop where
 NOUGHT:∃v u,mg "NOUGHT" = some u/\RelV v u/\∀O H,DV ⟨K,mg⟩ O H v (.tup [(.int 0),(.int 1)])
 ONE:∃v u,mg "ONE" = some u/\RelV v u/\∀O H,DV ⟨K,mg⟩ O H v (.tup [(.int 1),(.int 1)])
 MOST_PLACES:∃v u,mg "MOST_PLACES" = some u/\RelV v u/\∀O H,DV ⟨K,mg⟩ O H v (.int 64)
 MOST_BRANCHES:∃v u,mg "MOST_BRANCHES" = some u/\RelV v u/\∀O H,DV ⟨K,mg⟩ O H v (.int 12)
 MOST_NAMES:∃v u,mg "MOST_NAMES" = some u/\RelV v u/\∀O H,DV ⟨K,mg⟩ O H v (.int 8)
 MOST_WORDS_SEEN:∃v u,mg "MOST_WORDS_SEEN" = some u/\RelV v u/\∀O H,DV ⟨K,mg⟩ O H v (.int 24)
 GREATEST_TOP:∃v u,mg "GREATEST_TOP" = some u/\RelV v u/\∀O H,DV ⟨K,mg⟩ O H v (.int 999999999999)
 GREATEST_BOTTOM:∃v u,mg "GREATEST_BOTTOM" = some u/\RelV v u/\∀O H,DV ⟨K,mg⟩ O H v (.int 999)
theorem xQ {X:Cx}{E:XK}{pos:Pos}(Cn:CnT X.K X.mg)(hg:Gl X "NOUGHT"):FE X E (.Name "NOUGHT" pos) (fC (.tup [(.int 0),(.int 1)])):=by
 obtain ⟨v,u,h1,h2,h3⟩:=Cn.NOUGHT
 exact pH hg h1 h2 h3
theorem ZL {X:Cx}{E:XK}{pos:Pos}(Cn:CnT X.K X.mg)(hg:Gl X "ONE"):FE X E (.Name "ONE" pos) (fC (.tup [(.int 1),(.int 1)])):=by
 obtain ⟨v,u,h1,h2,h3⟩:=Cn.ONE
 exact pH hg h1 h2 h3
theorem Aw {X:Cx}{E:XK}{pos:Pos}(Cn:CnT X.K X.mg)(hg:Gl X "MOST_PLACES"):FE X E (.Name "MOST_PLACES" pos) (fC (.int 64)):=by
 obtain ⟨v,u,h1,h2,h3⟩:=Cn.MOST_PLACES
 exact pH hg h1 h2 h3
theorem xx {X:Cx}{E:XK}{pos:Pos}(Cn:CnT X.K X.mg)(hg:Gl X "MOST_BRANCHES"):FE X E (.Name "MOST_BRANCHES" pos) (fC (.int 12)):=by
 obtain ⟨v,u,h1,h2,h3⟩:=Cn.MOST_BRANCHES
 exact pH hg h1 h2 h3
theorem Bd {X:Cx}{E:XK}{pos:Pos}(Cn:CnT X.K X.mg)(hg:Gl X "MOST_NAMES"):FE X E (.Name "MOST_NAMES" pos) (fC (.int 8)):=by
 obtain ⟨v,u,h1,h2,h3⟩:=Cn.MOST_NAMES
 exact pH hg h1 h2 h3
theorem uG {X:Cx}{E:XK}{pos:Pos}(Cn:CnT X.K X.mg)(hg:Gl X "MOST_WORDS_SEEN"):FE X E (.Name "MOST_WORDS_SEEN" pos) (fC (.int 24)):=by
 obtain ⟨v,u,h1,h2,h3⟩:=Cn.MOST_WORDS_SEEN
 exact pH hg h1 h2 h3
theorem yl {X:Cx}{E:XK}{pos:Pos}(Cn:CnT X.K X.mg)(hg:Gl X "GREATEST_TOP"):FE X E (.Name "GREATEST_TOP" pos) (fC (.int 999999999999)):=by
 obtain ⟨v,u,h1,h2,h3⟩:=Cn.GREATEST_TOP
 exact pH hg h1 h2 h3
theorem uJ {X:Cx}{E:XK}{pos:Pos}(Cn:CnT X.K X.mg)(hg:Gl X "GREATEST_BOTTOM"):FE X E (.Name "GREATEST_BOTTOM" pos) (fC (.int 999)):=by
 obtain ⟨v,u,h1,h2,h3⟩:=Cn.GREATEST_BOTTOM
 exact pH hg h1 h2 h3
noncomputable abbrev mU:Stmt:=top 9
theorem eN:aX ["first", "second", "great", "small", "rest"] ["first", "second"] (aG mU):=by walk_at "u1"
noncomputable abbrev Aj:Stmt:=top 10
theorem zF:aX ["top", "bottom", "divisor"] ["top", "bottom"] (aG Aj):=by walk_at "u1"
noncomputable abbrev J8:Stmt:=top 11
theorem YK:aX ["first", "second"] ["first", "second"] (aG J8):=by walk_at "u1"
noncomputable abbrev Dr:Stmt:=top 12
theorem WT:aX ["first", "second"] ["first", "second"] (aG Dr):=by walk_at "u1"
noncomputable abbrev Ei:Stmt:=top 13
theorem Vz:aX ["first", "second"] ["first", "second"] (aG Ei):=by walk_at "u1"
noncomputable abbrev Ff:Stmt:=top 14
theorem yN:aX ["some", "result", "each"] ["some"] (aG Ff):=by walk_at "u1"
noncomputable abbrev m9:Stmt:=top 16
theorem Br:aX ["game"] ["game"] (aG m9):=by walk_at "u1"
noncomputable abbrev pO:Stmt:=top 17
theorem nO:aX ["game", "places", "waiting", "place", "behind"] ["game"] (aG pO):=by walk_at "u1"
noncomputable abbrev wj:Stmt:=top 18
theorem GD:aX ["game", "ways"] ["game"] (aG wj):=by walk_at "u1"
noncomputable abbrev qW:Stmt:=top 26
theorem J5:aX ["move"] ["move"] (aG qW):=by walk_at "u1"
noncomputable abbrev mz:Stmt:=top 27
theorem qm:aX ["place", "records", "number", "pair"] ["place", "records", "number"] (aG mz):=by walk_at "u1"
noncomputable abbrev iJ:Stmt:=top 28
theorem cI:aX ["game", "known", "found", "way", "place", "number"] ["game"] (aG iJ):=by walk_at "u1"
noncomputable abbrev zE:Stmt:=top 29
theorem R0:aX ["move", "records"] ["move", "records"] (aG zE):=by walk_at "u1"
noncomputable abbrev vd:Stmt:=top 30
theorem pq:aX ["game", "rows", "way", "place", "records"] ["game"] (aG vd):=by walk_at "u1"
noncomputable abbrev tY:Stmt:=top 31
theorem Qf:aX ["game", "side"] ["game", "side"] (aG tY):=by walk_at "u1"
noncomputable abbrev m7:Stmt:=top 32
theorem Bm:aX ["rows"] ["rows"] (aG m7):=by walk_at "u1"
noncomputable abbrev lK:Stmt:=top 33
theorem zf:aX ["place"] ["place"] (aG lK):=by walk_at "u1"
noncomputable abbrev uR:Stmt:=top 34
theorem Ku:aX ["fraction"] ["fraction"] (aG uR):=by walk_at "u1"
noncomputable abbrev fK:Stmt:=top 35
theorem mj:aX ["game", "places"] ["game"] (aG fK):=by walk_at "u1"
noncomputable abbrev ji:Stmt:=top 36
theorem jb:aX ["game", "side", "rows"] ["game"] (aG ji):=by walk_at "u1"
noncomputable abbrev jg:Stmt:=top 37
theorem sH:aX ["game"] ["game"] (aG jg):=by walk_at "u1"
noncomputable abbrev dH:Stmt:=top 38
theorem gn:aX ["game", "way", "place"] ["game"] (aG dH):=by walk_at "u1"
noncomputable abbrev oO:Stmt:=top 39
theorem El:aX ["shares"] ["shares"] (aG oO):=by walk_at "u1"
noncomputable abbrev kh:Stmt:=top 40
theorem vg:aX ["way", "row", "first_way", "first_row"] ["way", "row", "first_way", "first_row"] (aG kh):=by walk_at "u1"
noncomputable abbrev mR:Stmt:=top 41
theorem dB:aX ["game", "firsts", "way", "place", "records", "row", "first"] ["game"] (aG mR):=by walk_at "u1"
noncomputable abbrev JG:Stmt:=top 42
theorem aag:aX ["game"] ["game"] (aG JG):=by walk_at "u1"
noncomputable abbrev oX:Stmt:=top 44
theorem z7:aX ["_law_script", "_law_k"] ["_law_script", "_law_k"] (aG oX):=by walk_at "u1"
noncomputable abbrev pX:Stmt:=top 45
theorem nF:aX ["_law_top", "_law_bottom", "_law_one", "_law_other"] ["_law_top", "_law_bottom"] (aG pX):=by walk_at "u1"
noncomputable abbrev nM:Stmt:=top 46
theorem cZ:aX ["_law_cell", "_law_turn", "_law_signs", "_law_size", "_law_places", "_law_k", "_law_word", "_law_at", "_law_found", "_law_sign"] ["_law_cell", "_law_turn"] (aG nM):=by walk_at "u1"
noncomputable abbrev qM:Stmt:=top 47
theorem Dw:aX ["_law_number"] ["_law_number"] (aG qM):=by walk_at "u1"
noncomputable abbrev nq:Stmt:=top 48
theorem m5:aX ["_law_number", "_law_many", "_law_parts", "_law_k"] ["_law_number", "_law_many"] (aG nq):=by walk_at "u1"
noncomputable abbrev uP:Stmt:=top 49
theorem Jj:aX ["_law_cell", "_law_k"] ["_law_cell", "_law_k"] (aG uP):=by walk_at "u1"
noncomputable abbrev jY:Stmt:=top 50
theorem oZ:aX ["_law_state", "_law_side", "_law_record", "_law_many", "_law_bit", "_law_key", "%1", "%2"] ["_law_state", "_law_side", "_law_record", "_law_many", "_law_bit"] (aG jY):=by walk_at "u1"
noncomputable abbrev rZ:Stmt:=top 51
theorem dZ:aX ["_law_cells", "_law_state", "_law_depth", "_law_records", "_law_draw", "_law_side", "_law_many", "_law_number", "_law_pool_here", "_law_seen", "_law_ways", "_law_k", "_law_word", "_law_others", "%1", "%2"] ["_law_cells", "_law_state", "_law_depth", "_law_records", "_law_draw"] (aG rZ):=by walk_at "u1"
noncomputable abbrev qR:Stmt:=top 52
theorem fU:aX ["_law_cells", "_law_state", "_law_depth", "_law_records", "_law_at", "_law_own", "_law_draw", "_law_many", "_law_ways", "_law_share", "%1", "%2"] ["_law_cells", "_law_state", "_law_depth", "_law_records"] (aG qR):=by walk_at "u1"
noncomputable abbrev tR:Stmt:=top 53
theorem xT:aX ["_law_cells", "_law_turn", "_law_depth", "_law_room", "_law_pool_here", "_law_state", "%1", "%2"] ["_law_cells", "_law_turn", "_law_depth", "_law_room", "_law_pool_here"] (aG tR):=by walk_at "u1"
noncomputable abbrev ph:Stmt:=top 54
theorem Al:aX ["_law_found"] ["_law_found"] (aG ph):=by walk_at "u1"
noncomputable abbrev mC:Stmt:=top 55
theorem qt:aX ["_law_found", "_law_pair"] ["_law_found"] (aG mC):=by walk_at "u1"
noncomputable abbrev jP:Stmt:=top 56
theorem rH:aX ["_law_found", "_law_row"] ["_law_found"] (aG jP):=by walk_at "u1"
noncomputable abbrev lF:Stmt:=top 57
theorem vA:aX ["_law_game_here", "_law_names", "_law_ways"] ["_law_game_here", "_law_names"] (aG lF):=by walk_at "u1"
noncomputable abbrev gZ:Stmt:=top 58
theorem eG:aX ["_law_row", "_law_names", "_law_side", "_law_seen", "_law_words", "_law_record", "_law_others"] ["_law_row", "_law_names"] (aG gZ):=by walk_at "u1"
noncomputable abbrev ou:Stmt:=top 59
theorem iz:aX ["_law_cell", "_law_pool_here", "_law_names", "_law_left", "_law_k"] ["_law_cell", "_law_pool_here"] (aG ou):=by walk_at "u1"
noncomputable abbrev rB:Stmt:=top 60
theorem lR:aX ["_law_rows", "_law_side", "_law_seen", "_law_word", "_law_found", "_law_row", "_law_record"] ["_law_rows", "_law_side", "_law_seen", "_law_word"] (aG rB):=by walk_at "u1"
noncomputable abbrev lG:Stmt:=top 61
theorem oH:aX ["_law_game_here", "_law_rows", "_law_side", "_law_pool_here", "_law_mine", "_law_some", "_law_found"] ["_law_game_here", "_law_rows", "_law_side", "_law_pool_here"] (aG lG):=by walk_at "u1"
noncomputable abbrev rK:Stmt:=top 62
theorem uA:aX ["_law_script", "_law_pool_here", "_law_turn", "_law_game_here", "_law_rows", "_law_kept", "_law_other", "_law_names", "_law_last", "_law_parts"] ["_law_script"] (aG rK):=by walk_at "u1"
theorem vD (B:Bt mg)(Fu:Fun K "common_divisor" "common_divisor" mU f fd)  :
  cL P w K mg base (CX1 P w) 1 f fd ["first", "second"] (spF ⟨K,mg⟩ gU):=
 bz Fu eN λcdv A outer s H E hr=>by
 have hu:=hr.units
 unfold mV mK
 exact (aB (bG (i:=2) eN.nd rfl oR (cz tZ rfl B.abs DQ (aP (ao 0) aZ)))
  (aB (bG (i:=3) eN.nd rfl oR (cz tZ rfl B.abs DQ (aP (ao 1) aZ)))
  (aB (Ad PassesOwn.leaving (bL (o5 hu) (ao 3) (aq aD) (bH _))
  (aB (bG (i:=4) eN.nd rfl oR (aJ bK (ao 2) (ao 3)))
  (aB (bG (i:=2) eN.nd rfl oR (aC 3))
  (aF (bG (i:=3) eN.nd rfl oR (aC 4))))))
  (aF (bF (aC 2))))))
theorem Pj (B:Bt mg)(Fu:Fun K "lowest" "lowest" Aj f fd)(Gcommon_divisor:FF P w K mg base 1 "common_divisor" ["first", "second"] gU):
  cL P w K mg base (CX1 P w) 2 f fd ["top", "bottom"] (spF ⟨K,mg⟩ lO):=
 bz Fu zF λcdv A outer s H E hr=>by
 have hu:=hr.units
 unfold wF vZ
 exact (aB (bG (i:=2) zF.nd rfl oR (bx Gcommon_divisor hr aN (aa (aC 0) (aa (aC 1) az))))
  (aB (cT (bL (Er hu) (ao 1) (aq aD) (bH _))
  (aF (bG (i:=2) zF.nd rfl oR (By t6 (ao 2))))
  bB)
  (aF (bF (aR (aa (aJ dh (ao 0) (ao 2)) (aa (aJ dh (ao 1) (ao 2)) az)))))))
theorem XD (B:Bt mg)(Fu:Fun K "plus" "plus" J8 f fd)(Glowest:FF P w K mg base 2 "lowest" ["top", "bottom"] lO):
  cL P w K mg base (CX1 P w) 3 f fd ["first", "second"] (spF ⟨K,mg⟩ zX):=
 bz Fu YK λcdv A outer s H E hr=>by
 have hu:=hr.units
 unfold JL Jt
 exact (aF (bF (bx Glowest hr aN (aa (aJ bV (aq (aJ gD (aq (aQ (ao 0))) (aq (aQ (ao 1))))) (aq (aJ gD (aq (aQ (ao 1))) (aq (aQ (ao 0)))))) (aa (aJ gD (aq (aQ (ao 0))) (aq (aQ (ao 1)))) az)))))
theorem Qt (B:Bt mg)(Fu:Fun K "minus" "minus" Dr f fd)(Glowest:FF P w K mg base 2 "lowest" ["top", "bottom"] lO):
  cL P w K mg base (CX1 P w) 3 f fd ["first", "second"] (spF ⟨K,mg⟩ jM):=
 bz Fu WT λcdv A outer s H E hr=>by
 have hu:=hr.units
 unfold Ey Gv
 exact (aF (bF (bx Glowest hr aN (aa (aJ fM (aq (aJ gD (aq (aQ (ao 0))) (aq (aQ (ao 1))))) (aq (aJ gD (aq (aQ (ao 1))) (aq (aQ (ao 0)))))) (aa (aJ gD (aq (aQ (ao 0))) (aq (aQ (ao 1)))) az)))))
theorem Qo (B:Bt mg)(Fu:Fun K "under" "under" Ei f fd)  :
  cL P w K mg base (CX1 P w) 1 f fd ["first", "second"] (spF ⟨K,mg⟩ wC):=
 bz Fu Vz λcdv A outer s H E hr=>by
 have hu:=hr.units
 unfold FQ Dj
 exact (aF (bF (sS (Er hu) (aq (aJ gD (aq (aQ (ao 0))) (aq (aQ (ao 1))))) (aq (aJ gD (aq (aQ (ao 1))) (aq (aQ (ao 0))))) (bH _))))
theorem Sh (B:Bt mg)(Cn:CnT K mg)(Fu:Fun K "total" "total" Ff f fd)(Gplus:FF P w K mg base 3 "plus" ["first", "second"] zX):
  cL P w K mg base (CX1 P w) 4 f fd ["some"] (spF ⟨K,mg⟩ vX):=
 bz Fu yN λcdv A outer s H E hr=>by
 have hu:=hr.units
 unfold Dc Fg
 exact (aB (bG (i:=1) yN.nd rfl oR (xQ Cn rfl))
  (aB (je (k:=1000) PassesOwn.leaving rfl (oG (aC 0)) (aO (i:=2) yN.nd rfl oR)
  (aF (bG (i:=1) yN.nd rfl oR (bx Gplus hr aN (aa (aC 1) (aa (aC 2) az))))))
  (aF (bF (aC 1)))))
theorem zy (B:Bt mg)(Fu:Fun K "branches_of" "branches_of" m9 f fd)  :
  cL P w K mg base (CX1 P w) 1 f fd ["game"] (spF ⟨K,mg⟩ gh):=
 bz Fu Br λcdv A outer s H E hr=>by
 have hu:=hr.units
 unfold uB iH
 exact (aB (cT (bL (fj hu) (aq (aQ (ao 0))) (aq bC) (bH _))
  (aF (mY (gQ az)))
  bB)
  (aF (mY (dR (aG m9) ["lead", "branch"] [] 2 [] rfl (by walk_at "u2") .nil (oW (oY (ig nQ (ao 0) (aq (By t6 (aq aD))) (λ_ _=>rfl)))) (λ_ _ _ _ _ _=>(lN rfl (bI (aO (i:=0) (show List.Nodup (["lead", "branch"]:List Str) by decide) rfl oR) (bI (aO (i:=1) (show List.Nodup (["lead", "branch"]:List Str) by decide) rfl oR) iM)))) (λ_ _ _ _ _ _=>cR) (λ_ _ _ _ _ _=>(aC 1))))))
theorem Fz (B:Bt mg)(Fu:Fun K "places_of" "places_of" pO f fd)(Gbranches_of:FF P w K mg base 1 "branches_of" ["game"] gh):
  cL P w K mg base (CX1 P w) 2 f fd ["game"] (spF ⟨K,mg⟩ eF):=
 bz Fu nO λcdv A outer s H E hr=>by
 have hu:=hr.units
 unfold xW pK
 exact (aB (kZ (i:=1) nO.nd rfl oR (gQ az))
  (aB (kZ (i:=2) nO.nd rfl oR (gQ (aa (aR (aa (aR az) (aa (aC 0) az))) az)))
  (aB (Ad PassesOwn.leaving (bL qL (aq (cz eU rfl B.len mF (aP (ao 2) aZ))) (aq aD) (bH _))
  (aB (Qd 3 2 nO.nd rfl (Or.inr rfl))
  (aB (oU 1 (aC 3))
  (aB (uN (i:=4) (aG pO) ["number", "branch", "place"] ["place"] 2 [3] nO.nd rfl oR rfl (by walk_at "u2") (.cons rfl .nil) (SQ rfl B.enumerate (aP (aq (bx Gbranches_of hr aN (aa (aQ (ao 3)) az))) aZ)) (λ_ _ _ _ _ _=>(lN rfl (bI (aO (i:=0) (show List.Nodup (["number", "branch", "place"]:List Str) by decide) rfl oR) (bI (aO (i:=1) (show List.Nodup (["number", "branch", "place"]:List Str) by decide) rfl oR) iM)))) (λ_ _ _ _ _ _=>cR) (λ_ _ _ _ _ _=>(aR (aa (aJ bV (aq (aQ (ao 2))) (aq (aR (aa (aC 0) az)))) (aa (aC 1) az)))))
  (aF (Ot 2 (Xi rfl rfl B.list rfl B.reversed (aP (ao 4) aZ))))))))
  (aF (yJ 1)))))
theorem Qi (B:Bt mg)(Cn:CnT K mg)(Fu:Fun K "turned" "turned" wj f fd)(Gminus:FF P w K mg base 3 "minus" ["first", "second"] jM)(n:Nat)(Gturned:FF P w K mg base (3+n) "turned" ["game"] (dI n)):
  cL P w K mg base (CX1 P w) (3+n+1) f fd ["game"] (spF ⟨K,mg⟩ (dI (n+1))):=
 bz Fu GD λcdv A outer s H E hr=>by
 have hu:=hr.units
 unfold jn
 exact (aB (cT (bL (fj hu) (aq (aQ (ao 0))) (aq bC) (bH _))
  (aF (bF (aR (aa bC (aa (bx Gminus hr aN (aa (xQ Cn rfl) (aa (aQ (ao 0)) az)) (hk:=by omega)) az)))))
  bB)
  (aB (bG (i:=1) GD.nd rfl oR (jw gf rfl B.tuple ie (aP (aq (fD (dR (aG wj) ["lead", "branch"] [] 2 [] rfl (by walk_at "u2") .nil (oW (oY (ig nQ (ao 0) (aq (By t6 (aq aD))) (λ_ _=>rfl)))) (λ_ _ _ _ _ _=>(lN rfl (bI (aO (i:=0) (show List.Nodup (["lead", "branch"]:List Str) by decide) rfl oR) (bI (aO (i:=1) (show List.Nodup (["lead", "branch"]:List Str) by decide) rfl oR) iM)))) (λ_ _ _ _ _ _=>cR) (λ_ _ _ _ _ _=>(aR (aa (aC 0) (aa (bx Gturned hr ux (aa (aC 1) az) (hk:=by omega)) az))))))) aZ)))
  (aB (cT (bL (fj hu) (aq (aQ (ao 0))) (aq bC) (bH _))
  (aF (bF (aR (aa bC (aa (aQ (ao 0)) (aa (aC 1) az))))))
  bB)
  (aF (bF (aR (aa bC (aa (aJ fM (aq aD) (aq (aQ (ao 0)))) (aa (aQ (ao 0)) (aa (aC 1) az))))))))))
theorem HN (B:Bt mg)(Fu:Fun K "words_at" "words_at" qW f fd)  :
  cL P w K mg base (CX1 P w) 1 f fd ["move"] (spF ⟨K,mg⟩ pB):=
 bz Fu J5 λcdv A outer s H E hr=>by
 have hu:=hr.units
 unfold uU uO
 exact (aF (bF (jw gf rfl B.tuple ie (aP (aq (fD (dR (aG qW) ["word", "branch"] [] 2 [] rfl (by walk_at "u2") .nil (oW (oY (aQ (ao 0)))) (λ_ _ _ _ _ _=>(lN rfl (bI (aO (i:=0) (show List.Nodup (["word", "branch"]:List Str) by decide) rfl oR) (bI (aO (i:=1) (show List.Nodup (["word", "branch"]:List Str) by decide) rfl oR) iM)))) (λ_ _ _ _ _ _=>cR) (λ_ _ _ _ _ _=>(aC 0))))) aZ))))
theorem vK (B:Bt mg)(Fu:Fun K "records_behind" "records_behind" mz f fd)  :
  cL P w K mg base (CX1 P w) 1 f fd ["place", "records", "number"] (spF ⟨K,mg⟩ dD):=
 bz Fu qm λcdv A outer s H E hr=>by
 have hu:=hr.units
 unfold gR gO
 exact (aB (cT (bL (o5 hu) (aq (aQ (ao 0))) (aq bC) (bH _))
  (aF (bF (aC 1)))
  bB)
  (aB (bG (i:=3) qm.nd rfl oR (aR (aa (aQ (ao 0)) (aa (aQ (aq (ig nQ (aq (aQ (ao 0))) (ao 2) (λ_ _=>rfl)))) az))))
  (aB (cT (bL (fj hu) (aq (aQ (ao 0))) (aq aD) (bH _))
  (aF (bF (aR (aa (aJ bV (aq (aQ (ao 1))) (aq (aR (aa (aC 3) az)))) (aa (aQ (ao 1)) az)))))
  bB)
  (aF (bF (aR (aa (aQ (ao 1)) (aa (aJ bV (aq (aQ (ao 1))) (aq (aR (aa (aC 3) az)))) az))))))))
theorem qG (B:Bt mg)(Fu:Fun K "places_with_records" "places_with_records" iJ f fd)(Gbranches_of:FF P w K mg base 1 "branches_of" ["game"] gh)(Gplaces_of:FF P w K mg base 2 "places_of" ["game"] eF)(Grecords_behind:FF P w K mg base 1 "records_behind" ["place", "records", "number"] dD):
  cL P w K mg base (CX1 P w) 3 f fd ["game"] (spF ⟨K,mg⟩ bM):=
 bz Fu cI λcdv A outer s H E hr=>by
 have hu:=hr.units
 unfold lY fL
 refine Wr.out ?_
 exact (Kz (Yh (i:=1) cI.nd rfl oR (Wr.mk (Ti hr (aR az) (aR (aa (aR az) (aa (aR az) az)))))) (Kz (Yh (i:=2) cI.nd rfl oR (abh (Wr.mk az))) (Kz (Wr.mk (je (k:=1000) PassesOwn.leaving rfl (oG (bx Gplaces_of hr aN (aa (aC 0) az))) (lN rfl (bI (aO (i:=3) cI.nd rfl oR) (bI (aO (i:=4) cI.nd rfl oR) iM))) (aB (oU 2 (aR (aa (aC 3) (aa (aC 4) (aa (Fe hr (ao 1) (ao 3) (λ_ _=>rfl)) az))))) (aF (je (k:=1000) PassesOwn.leaving rfl (mO rfl B.range (aP (aq (cz eU rfl B.len mF (aP (aq (bx Gbranches_of hr aN (aa (aC 4) az))) aZ))) aZ)) (aO (i:=5) cI.nd rfl oR) (aF (VP 1 hr (bx Grecords_behind hr aN (aa (aC 4) (aa (Fe hr (ao 1) (ao 3) (λ_ _=>rfl)) (aa (aC 5) az)))) (aJ bV (ao 3) (aq (aR (aa (aC 5) az))))))))))) (abR (Wr.mk (yJ 2))))))
theorem Ov (B:Bt mg)(Fu:Fun K "row_at" "row_at" zE f fd)(Gwords_at:FF P w K mg base 1 "words_at" ["move"] pB):
  cL P w K mg base (CX1 P w) 2 f fd ["move", "records"] (spF ⟨K,mg⟩ nH):=
 bz Fu R0 λcdv A outer s H E hr=>by
 have hu:=hr.units
 unfold wB vH
 exact (aF (bF (aR (aa (aQ (ao 0)) (aa (aQ (ao 0)) (aa (bx Gwords_at hr aN (aa (aC 0) az)) (aa (ig nQ (ao 1) (aq (aJ fM (aq (aQ (ao 0))) (aq aD))) (λ_ _=>rfl)) az)))))))
theorem GZ (B:Bt mg)(Fu:Fun K "table_of" "table_of" vd f fd)(Gplaces_with_records:FF P w K mg base 3 "places_with_records" ["game"] bM)(Grow_at:FF P w K mg base 2 "row_at" ["move", "records"] nH):
  cL P w K mg base (CX1 P w) 4 f fd ["game"] (spF ⟨K,mg⟩ mH):=
 bz Fu pq λcdv A outer s H E hr=>by
 have hu:=hr.units
 unfold zg q9
 exact (aB (kZ (i:=1) pq.nd rfl oR FZ)
  (aB (je (k:=1000) PassesOwn.leaving rfl (oG (bx Gplaces_with_records hr aN (aa (aC 0) az))) (lN rfl (bI (aO (i:=2) pq.nd rfl oR) (bI (aO (i:=3) pq.nd rfl oR) (bI (aO (i:=4) pq.nd rfl oR) iM))))
  (aF (cT (bL (fj hu) (aq (aQ (ao 3))) (aq bC) (bH _))
  (aF (aaj 1 hr (aR (aa (aQ (ao 3)) (aa (aQ (ao 3)) az))) (bx Grow_at hr aN (aa (aC 3) (aa (aC 4) az))) ⟨rfl,rfl,rfl,rfl⟩))
  bB)))
  (aF (mY (RB rfl rfl B.list (ao 1))))))
theorem JS (B:Bt mg)(Fu:Fun K "rows_of" "rows_of" tY f fd)(Gtable_of:FF P w K mg base 4 "table_of" ["game"] mH):
  cL P w K mg base (CX1 P w) 5 f fd ["game", "side"] (spF ⟨K,mg⟩ qx):=
 bz Fu Qf λcdv A outer s H E hr=>by
 have hu:=hr.units
 unfold wZ w5
 exact (aF (mY (dR (aG tY) ["row", "side"] ["side"] 1 [1] rfl (by walk_at "u2") (.cons rfl .nil) (jo (aq (bx Gtable_of hr aN (aa (aC 0) az)))) (λ_ _ _ _ _ _=>(aO (i:=0) (show List.Nodup (["row", "side"]:List Str) by decide) rfl oR)) (λ_ _ _ _ _ _=>(Am (bL (fj hu) (aq (aQ (ao 0))) (ao 1) (bH _)))) (λ_ _ _ _ _ _=>(aC 0)))))
theorem zJ (B:Bt mg)(Fu:Fun K "count_words" "count_words" m7 f fd)  :
  cL P w K mg base (CX1 P w) 1 f fd ["rows"] (spF ⟨K,mg⟩ jH):=
 bz Fu Bm λcdv A outer s H E hr=>by
 have hu:=hr.units
 unfold pZ p7
 exact (aF (bF (cz (Cg rfl) rfl B.sum Td (aP (aq (fD (dR (aG m7) ["row"] [] 1 [] rfl (by walk_at "u2") .nil (jo (ao 0)) (λ_ _ _ _ _ _=>(aO (i:=0) (show List.Nodup (["row"]:List Str) by decide) rfl oR)) (λ_ _ _ _ _ _=>cR) (λ_ _ _ _ _ _=>(cz eU rfl B.len mF (aP (aq (aQ (ao 0))) aZ)))))) aZ))))
theorem yE (B:Bt mg)(Fu:Fun K "fractions_at" "fractions_at" lK f fd)  :
  cL P w K mg base (CX1 P w) 1 f fd ["place"] (spF ⟨K,mg⟩ bY):=
 bz Fu zf λcdv A outer s H E hr=>by
 have hu:=hr.units
 unfold jm jc
 exact (aB (cT (bL (fj hu) (aq (aQ (ao 0))) (aq bC) (bH _))
  (aF (mY (gQ (aa (aQ (ao 0)) az))))
  bB)
  (aB (cT (bL (fj hu) (aq (aQ (ao 0))) (aq bC) (bH _))
  (aF (mY (dR (aG lK) ["share", "branch"] [] 2 [] rfl (by walk_at "u2") .nil (oW (oY (aQ (ao 0)))) (λ_ _ _ _ _ _=>(lN rfl (bI (aO (i:=0) (show List.Nodup (["share", "branch"]:List Str) by decide) rfl oR) (bI (aO (i:=1) (show List.Nodup (["share", "branch"]:List Str) by decide) rfl oR) iM)))) (λ_ _ _ _ _ _=>cR) (λ_ _ _ _ _ _=>(aC 0)))))
  bB)
  (aF (mY (gQ az)))))
theorem HS (B:Bt mg)(Cn:CnT K mg)(Fu:Fun K "is_great" "is_great" uR f fd)  :
  cL P w K mg base (CX1 P w) 1 f fd ["fraction"] (spF ⟨K,mg⟩ o4):=
 bz Fu Ku λcdv A outer s H E hr=>by
 have hu:=hr.units
 unfold uX uZ
 exact (aF (bF (aa4 (sS qL (aq (cz tZ rfl B.abs DQ (aP (aq (aQ (ao 0))) aZ))) (aq (yl Cn rfl)) (bH _)) (Jo (sS qL (aq (aQ (ao 0))) (aq (uJ Cn rfl)) (bH _))))))
theorem qT (B:Bt mg)(Cn:CnT K mg)(Fu:Fun K "refuse_great_places" "refuse_great_places" fK f fd)(Gplaces_of:FF P w K mg base 2 "places_of" ["game"] eF):
  cL P w K mg base (CX1 P w) 3 f fd ["game"] (spF ⟨K,mg⟩ dq):=
 bz Fu mj λcdv A outer s H E hr=>by
 have hu:=hr.units
 unfold iI iK
 exact (aB (bG (i:=1) mj.nd rfl oR (bx Gplaces_of hr aN (aa (aC 0) az)))
  (aB (cT (bL qL (aq (cz eU rfl B.len mF (aP (ao 1) aZ))) (aq (Aw Cn rfl)) (bH _))
  (aF nG)
  bB)
  (aF (cT (jk (cz (Cj rfl) rfl B.any Uw (aP (aq (fD (dR (aG fK) ["way", "place"] [] 2 [] rfl (by walk_at "u2") .nil (jo (ao 1)) (λ_ _ _ _ _ _=>(lN rfl (bI (aO (i:=0) (show List.Nodup (["way", "place"]:List Str) by decide) rfl oR) (bI (aO (i:=1) (show List.Nodup (["way", "place"]:List Str) by decide) rfl oR) iM)))) (λ_ _ _ _ _ _=>cR) (λ_ _ _ _ _ _=>(sS qL (aq (cz eU rfl B.len mF (aP (ao 0) aZ))) (aq (xx Cn rfl)) (bH _)))))) aZ)))
  (aF nG)
  bB))))
theorem rR (B:Bt mg)(Cn:CnT K mg)(Fu:Fun K "refuse_great_table" "refuse_great_table" ji f fd)(Grows_of:FF P w K mg base 5 "rows_of" ["game", "side"] qx)(Gcount_words:FF P w K mg base 1 "count_words" ["rows"] jH):
  cL P w K mg base (CX1 P w) 6 f fd ["game"] (spF ⟨K,mg⟩ dN):=
 bz Fu jb λcdv A outer s H E hr=>by
 have hu:=hr.units
 unfold jd jh
 exact (aF (je (k:=1000) PassesOwn.leaving rfl (oY (aR (aa aD (aa aD az)))) (aO (i:=1) jb.nd rfl oR)
  (aB (bG (i:=2) jb.nd rfl oR (bx Grows_of hr aN (aa (aC 0) (aa (aC 1) az))))
  (aB (cT (bL qL (aq (cz eU rfl B.len mF (aP (ao 2) aZ))) (aq (Bd Cn rfl)) (bH _))
  (aF nG)
  bB)
  (aF (cT (bL qL (aq (bx Gcount_words hr aN (aa (aC 2) az))) (aq (uG Cn rfl)) (bH _))
  (aF nG)
  bB))))))
theorem rT (B:Bt mg)(Fu:Fun K "refuse_great_shape" "refuse_great_shape" jg f fd)(Grefuse_great_places:FF P w K mg base 3 "refuse_great_places" ["game"] dq)(Grefuse_great_table:FF P w K mg base 6 "refuse_great_table" ["game"] dN):
  cL P w K mg base (CX1 P w) 7 f fd ["game"] (spF ⟨K,mg⟩ dO):=
 bz Fu sH λcdv A outer s H E hr=>by
 have hu:=hr.units
 unfold iY iV
 exact (aB (t8 (bx Grefuse_great_places hr aN (aa (aC 0) az)))
  (aF (t8 (bx Grefuse_great_table hr aN (aa (aC 0) az)))))
theorem pF (B:Bt mg)(Fu:Fun K "refuse_great_fractions" "refuse_great_fractions" dH f fd)(Gplaces_of:FF P w K mg base 2 "places_of" ["game"] eF)(Gfractions_at:FF P w K mg base 1 "fractions_at" ["place"] bY)(Gis_great:FF P w K mg base 1 "is_great" ["fraction"] o4):
  cL P w K mg base (CX1 P w) 3 f fd ["game"] (spF ⟨K,mg⟩ cJ):=
 bz Fu gn λcdv A outer s H E hr=>by
 have hu:=hr.units
 unfold gq gk
 exact (aF (je (k:=1000) PassesOwn.leaving rfl (oG (bx Gplaces_of hr aN (aa (aC 0) az))) (lN rfl (bI (aO (i:=1) gn.nd rfl oR) (bI (aO (i:=2) gn.nd rfl oR) iM)))
  (aF (cT (jk (cz (Cj rfl) rfl B.any Uw (aP (aq (fD (dR (aG dH) ["fraction"] [] 1 [] rfl (by walk_at "u2") .nil (jo (aq (bx Gfractions_at hr aN (aa (aC 2) az)))) (λ_ _ _ _ _ _=>(aO (i:=0) (show List.Nodup (["fraction"]:List Str) by decide) rfl oR)) (λ_ _ _ _ _ _=>cR) (λ_ _ _ _ _ _=>(bx Gis_great hr ux (aa (aC 0) az)))))) aZ)))
  (aF nG)
  bB))))
theorem Be (B:Bt mg)(Cn:CnT K mg)(Fu:Fun K "are_shares" "are_shares" oO f fd)(Gunder:FF P w K mg base 1 "under" ["first", "second"] wC)(Gtotal:FF P w K mg base 4 "total" ["some"] vX):
  cL P w K mg base (CX1 P w) 5 f fd ["shares"] (spF ⟨K,mg⟩ lV):=
 bz Fu El λcdv A outer s H E hr=>by
 have hu:=hr.units
 unfold qQ qK
 exact (aF (bF (Jl (cz (BV rfl) rfl B.all SX (aP (aq (fD (dR (aG oO) ["share"] [] 1 [] rfl (by walk_at "u2") .nil (jo (ao 0)) (λ_ _ _ _ _ _=>(aO (i:=0) (show List.Nodup (["share"]:List Str) by decide) rfl oR)) (λ_ _ _ _ _ _=>cR) (λ_ _ _ _ _ _=>(bx Gunder hr ux (aa (xQ Cn rfl) (aa (aC 0) az))))))) aZ)) (Jo (sS (fj hu) (aq (bx Gtotal hr aN (aa (aC 0) az))) (aq (ZL Cn rfl)) (bH _))))))
theorem ud (B:Bt mg)(Fu:Fun K "refuse_other_row" "refuse_other_row" kh f fd)  :
  cL P w K mg base (CX1 P w) 1 f fd ["way", "row", "first_way", "first_row"] (spF ⟨K,mg⟩ dF):=
 bz Fu vg λcdv A outer s H E hr=>by
 have hu:=hr.units
 unfold j0 jU
 exact (aB (cT (bL (o5 hu) (aq (aQ (ao 1))) (aq (aQ (ao 3))) (bH _))
  (aF nG)
  bB)
  (aF (cT (bL (o5 hu) (aq (aQ (ao 1))) (aq (aQ (ao 3))) (bH _))
  (aF nG)
  bB)))
theorem wz (B:Bt mg)(Fu:Fun K "refuse_unsound" "refuse_unsound" mR f fd)(Gplaces_with_records:FF P w K mg base 3 "places_with_records" ["game"] bM)(Grow_at:FF P w K mg base 2 "row_at" ["move", "records"] nH)(Gfractions_at:FF P w K mg base 1 "fractions_at" ["place"] bY)(Gare_shares:FF P w K mg base 5 "are_shares" ["shares"] lV)(Grefuse_other_row:FF P w K mg base 1 "refuse_other_row" ["way", "row", "first_way", "first_row"] dF):
  cL P w K mg base (CX1 P w) 6 f fd ["game"] (spF ⟨K,mg⟩ gW):=
 bz Fu dB λcdv A outer s H E hr=>by
 have hu:=hr.units
 unfold mQ mL
 exact (aB (kZ (i:=1) dB.nd rfl oR FZ)
  (aF (je (k:=1000) PassesOwn.leaving rfl (oG (bx Gplaces_with_records hr aN (aa (aC 0) az))) (lN rfl (bI (aO (i:=2) dB.nd rfl oR) (bI (aO (i:=3) dB.nd rfl oR) (bI (aO (i:=4) dB.nd rfl oR) iM))))
  (aB (cT (Kh (Rv (bL (fj hu) (aq (aQ (ao 3))) (aq bC) (bH _)) (MN (mJ (jk (bx Gare_shares hr aN (aa (bx Gfractions_at hr aN (aa (aC 3) az)) az)))))))
  (aF nG)
  bB)
  (aF (cT (bL (fj hu) (aq (aQ (ao 3))) (aq bC) (bH _))
  (aB (bG (i:=5) dB.nd rfl oR (bx Grow_at hr aN (aa (aC 3) (aa (aC 4) az))))
  (aB (K5 (i:=6) dB.nd rfl oR (YZ 1 hr (aR (aa (aQ (ao 3)) (aa (aQ (ao 3)) az))) (aR (aa (aC 2) (aa (aC 5) az))) ⟨rfl,rfl,rfl,rfl⟩))
  (aF (t8 (bx Grefuse_other_row hr aN (aa (aC 2) (aa (aC 5) (aa (aQ (ao 6)) (aa (aQ (ao 6)) az)))))))))
  bB))))))
theorem Xe (B:Bt mg)(Fu:Fun K "look" "look" JG f fd)(Gtable_of:FF P w K mg base 4 "table_of" ["game"] mH)(Grefuse_great_shape:FF P w K mg base 7 "refuse_great_shape" ["game"] dO)(Grefuse_great_fractions:FF P w K mg base 3 "refuse_great_fractions" ["game"] cJ)(Grefuse_unsound:FF P w K mg base 6 "refuse_unsound" ["game"] gW):
  cL P w K mg base (CX1 P w) 8 f fd ["game"] (spF ⟨K,mg⟩ jf):=
 bz Fu aag λcdv A outer s H E hr=>by
 have hu:=hr.units
 unfold Kv JD
 exact (aB (t8 (bx Grefuse_great_shape hr aN (aa (aC 0) az)))
  (aB (t8 (bx Grefuse_great_fractions hr aN (aa (aC 0) az)))
  (aB (t8 (bx Grefuse_unsound hr aN (aa (aC 0) az)))
  (aF (mY (abr Gtable_of hr aN (aa (aC 0) az)))))))
theorem yq (B:Bt mg)(Fu:Fun K "_law_cell_at" "_law_cell_at" oX f fd)  :
  cL P w K mg base (CX1 P w) 1 f fd ["_law_script", "_law_k"] (spF ⟨K,mg⟩ dM):=
 bz Fu z7 λcdv A outer s H E hr=>by
 have hu:=hr.units
 unfold lU lg
 exact (aB (cT (bL (Er hu) (ao 1) (aq (cz eU rfl B.len mF (aP (ao 0) aZ))) (bH _))
  (aF (bF (ig nQ (ao 0) (ao 1) (λ_ _=>rfl))))
  bB)
  (aF (bF aD)))
theorem Ab (B:Bt mg)(Fu:Fun K "_law_lowest" "_law_lowest" pX f fd)  :
  cL P w K mg base (CX1 P w) 1 f fd ["_law_top", "_law_bottom"] (spF ⟨K,mg⟩ gm):=
 bz Fu nF λcdv A outer s H E hr=>by
 have hu:=hr.units
 unfold pR qj
 exact (aB (bG (i:=2) nF.nd rfl oR (cz tZ rfl B.abs DQ (aP (ao 0) aZ)))
  (aB (bG (i:=3) nF.nd rfl oR (aC 1))
  (aB (Ad PassesOwn.leaving (bL (o5 hu) (ao 3) (aq aD) (bH _))
  (aF (Yu (i:=2) (j:=3) rfl nF.nd rfl rfl (by decide) rfl rfl (aa (aC 3) (aa (aJ bK (ao 2) (ao 3)) az)))))
  (aF (bF (aR (aa (aJ dh (ao 0) (ao 2)) (aa (aJ dh (ao 1) (ao 2)) az))))))))
theorem Gr (B:Bt mg)(Fu:Fun K "_law_pool" "_law_pool" nM f fd)  :
  cL P w K mg base (CX1 P w) 1 f fd ["_law_cell", "_law_turn"] (spF ⟨K,mg⟩ pM):=
 bz Fu cZ λcdv A outer s H E hr=>by
 have hu:=hr.units
 unfold xY kW
 exact (aB (bG (i:=2) cZ.nd rfl (Or.inr rfl) bC)
  (aB (bG (i:=3) cZ.nd rfl oR (aJ bV (aq aD) (aq (aJ bK (ao 0) (aq aD)))))
  (aB (bG (i:=0) cZ.nd rfl oR (aJ dh (ao 0) (aq aD)))
  (aB (kZ (i:=4) cZ.nd rfl oR (gQ az))
  (aB (je (k:=1000) PassesOwn.leaving rfl (mO rfl B.range (aP (ao 3) aZ)) (aO (i:=5) cZ.nd rfl oR)
  (aB (oU 4 (aJ bK (ao 0) (aq aD)))
  (aF (bG (i:=0) cZ.nd rfl oR (aJ dh (ao 0) (aq aD))))))
  (aB (bG (i:=6) cZ.nd rfl (Or.inr rfl) (aay PySem.F.plainAttrs_str PySem.F.slot_str_join PySem.F.type_str_join Tj (aq bC) (aP (aq (fD (dR (aG nM) ["_law_k", "_law_signs"] ["_law_signs"] 1 [2] rfl (by walk_at "u2") (.cons rfl .nil) (jo (ao 4)) (λ_ _ _ _ _ _=>(aO (i:=0) (show List.Nodup (["_law_k", "_law_signs"]:List Str) by decide) rfl oR)) (λ_ _ _ _ _ _=>cR) (λ_ _ _ _ _ _=>(ig nQ (ao 1) (ao 0) (λ_ _=>rfl)))))) aZ)))
  (aB (cT (bL (fj hu) (aq (aJ bK (aq (aJ dh (ao 1) (aq aD))) (aq aD))) (aq aD) (bH _))
  (aF (mY (dR (aG nM) ["_law_k", "_law_word"] ["_law_word"] 1 [6] rfl (by walk_at "u2") (.cons rfl .nil) (oW (Pn rfl B.range (aP (aq aD) (aP (aq aD) aZ)))) (λ_ _ _ _ _ _=>(aO (i:=0) (show List.Nodup (["_law_k", "_law_word"]:List Str) by decide) rfl oR)) (λ_ _ _ _ _ _=>cR) (λ_ _ _ _ _ _=>(vN (aq (aJ Rt (aq aD) (ao 1))) Ef (vP (ao 0)))))))
  bB)
  (aB (bG (i:=7) cZ.nd rfl oR (aJ bK (ao 1) (ao 3)))
  (aB (kZ (i:=8) cZ.nd rfl oR (gQ az))
  (aB (je (k:=1000) PassesOwn.leaving rfl (mO rfl B.range (aP (aq aD) aZ)) (aO (i:=5) cZ.nd rfl oR)
  (aB (bG (i:=9) cZ.nd rfl oR (ig nQ (ao 2) (aq (aJ bK (aq (aJ bV (aq (ig nQ (ao 4) (ao 7) (λ_ _=>rfl))) (aq (aJ gD (aq aD) (ao 5))))) (aq aD))) (λ_ _=>rfl)))
  (aF (oU 8 (aJ bV (aq (aJ bV (aq (vN (ao 6) Ef (vP (ao 7)))) (ao 9))) (aq (vN (ao 6) (vP (aq (aJ bV (ao 7) (aq aD)))) Ef)))))))
  (aF (yJ 8))))))))))))
theorem Bq (B:Bt mg)(Fu:Fun K "_law_stake" "_law_stake" qM f fd)(G_law_lowest:FF P w K mg base 1 "_law_lowest" ["_law_top", "_law_bottom"] gm):
  cL P w K mg base (CX1 P w) 2 f fd ["_law_number"] (spF ⟨K,mg⟩ bN):=
 bz Fu Dw λcdv A outer s H E hr=>by
 have hu:=hr.units
 unfold oJ oF
 exact (aB (cT (bL (fj hu) (aq (aJ bK (ao 0) (aq aD))) (aq aD) (bH _))
  (aF (bF (bx G_law_lowest hr aN (aa (aJ fM (aq (aJ bK (aq (aJ gD (ao 0) (aq aD))) (aq aD))) (aq aD)) (aa (aJ bV (aq aD) (aq (aJ bK (aq (aJ dh (ao 0) (aq aD))) (aq aD)))) az)))))
  bB)
  (aF (bF (bx G_law_lowest hr aN (aa (aJ fM (aq (aJ bK (aq (aJ dh (ao 0) (aq aD))) (aq aD))) (aq aD)) (aa (aJ bV (aq aD) (aq (aJ bK (aq (aJ dh (ao 0) (aq aD))) (aq aD)))) az))))))
theorem An (B:Bt mg)(Fu:Fun K "_law_shares" "_law_shares" nq f fd)(G_law_lowest:FF P w K mg base 1 "_law_lowest" ["_law_top", "_law_bottom"] gm):
  cL P w K mg base (CX1 P w) 2 f fd ["_law_number", "_law_many"] (spF ⟨K,mg⟩ jJ):=
 bz Fu m5 λcdv A outer s H E hr=>by
 have hu:=hr.units
 unfold uh mZ
 exact (aB (kZ (i:=2) m5.nd rfl (Or.inr rfl) (gQ az))
  (aB (je (k:=1000) PassesOwn.leaving rfl (mO rfl B.range (aP (ao 1) aZ)) (aO (i:=3) m5.nd rfl oR)
  (aB (oU 2 (aJ bV (aq (aJ bV (aq aD) (aq (aJ bK (ao 0) (aq aD))))) (aq (aJ gD (aq (aJ dh (aq (aJ bK (aq (aJ dh (ao 0) (aq aD))) (aq aD))) (aq aD))) (aq (aJ bK (aq (aJ dh (ao 0) (aq aD))) (aq aD)))))))
  (aF (bG (i:=0) m5.nd rfl oR (aJ bK (aq (aJ gD (ao 0) (aq aD))) (aq aD))))))
  (aF (mY (dR (aG nq) ["_law_part", "_law_parts"] ["_law_parts"] 1 [2] rfl (by walk_at "u2") (.cons rfl .nil) (jo (ao 2)) (λ_ _ _ _ _ _=>(aO (i:=0) (show List.Nodup (["_law_part", "_law_parts"]:List Str) by decide) rfl oR)) (λ_ _ _ _ _ _=>cR) (λ_ _ _ _ _ _=>(bx G_law_lowest hr ux (aa (aC 0) (aa (cz (Cg rfl) rfl B.sum Td (aP (ao 1) aZ)) az)))))))))
theorem Ir (B:Bt mg)(Fu:Fun K "_law_mix" "_law_mix" uP f fd)  :
  cL P w K mg base (CX1 P w) 1 f fd ["_law_cell", "_law_k"] (spF ⟨K,mg⟩ cW):=
 bz Fu Jj λcdv A outer s H E hr=>by
 have hu:=hr.units
 unfold uM uE
 exact (aF (bF (aJ bK (aq (aJ gD (aq (aJ bV (aq (aJ bK (ao 0) (aq aD))) (aq aD))) (aq (aJ bV (aq aD) (aq (aJ gD (aq aD) (ao 1))))))) (aq aD))))
theorem ue (B:Bt mg)(Fu:Fun K "_law_name_number" "_law_name_number" jY f fd)  :
  cL P w K mg base (CX1 P w) 1 f fd ["_law_state", "_law_side", "_law_record", "_law_many", "_law_bit"] (JW ⟨K,mg⟩ 0 cB):=
 zO 0 Fu oZ (by decide) λcdv A outer s H E hr=>by
 have hu:=hr.units
 unfold fB fH
 exact (aB (bG (i:=5) oZ.nd rfl oR (aR (aa (aC 1) (aa (aC 2) (aa (aC 3) (aa (aC 4) az))))))
  (aB (cT (bL (Vq hr) (ao 5) (Dm 6 (dm hr (ao 0) (aq bC) (λ_ _=>rfl))) (by with_unfolding_all rfl))
  (aB (J4 6 hr (ig nQ (Dm 7 (dm hr (ao 0) (aq bC) (λ_ _=>rfl))) (aq (aJ fM (ao 1) (aq aD))) (λ_ _=>rfl)) (dm hr (ao 0) (aq bC) (λ_ _=>rfl)) (aC 5))
  (aF (HX 7 (aJ bV (aq (ig nQ (Dm 7 (dm hr (ao 0) (aq bC) (λ_ _=>rfl))) (aq (aJ fM (ao 1) (aq aD))) (λ_ _=>rfl))) (aq aD)) (dm hr (ao 0) (aq bC) (λ_ _=>rfl)) (aJ fM (ao 1) (aq aD)))))
  bB)
  (aF (bF (Fe hr (Dm 6 (dm hr (ao 0) (aq bC) (λ_ _=>rfl))) (ao 5) (λ_ _=>rfl))))))
theorem Gg (B:Bt mg)(Fu:Fun K "_law_move" "_law_move" rZ f fd)(G_law_stake:FF P w K mg base 2 "_law_stake" ["_law_number"] bN)(G_law_name_number:FST P w K mg base 1 "_law_name_number" ["_law_state", "_law_side", "_law_record", "_law_many", "_law_bit"] 0 cB)(k:Nat)(hc:2<=k)(Φb:List D->D->Addr×D->Addr×D->Res (D×D×D×D))(G_law_built:FST P w K mg base k "_law_built" ["_law_cells", "_law_state", "_law_depth", "_law_records"] 1 Φb):
  cL P w K mg base (CX1 P w) (k+1) f fd ["_law_cells", "_law_state", "_law_depth", "_law_records", "_law_draw"] (JW ⟨K,mg⟩ 1 (nP Φb)):=
 zO 1 Fu dZ (by decide) λcdv A outer s H E hr=>by
 have hu:=hr.units
 unfold kI
 exact (aB (bG (i:=5) dZ.nd rfl oR (aJ bV (aq aD) (aq (aJ bK (ao 4) (aq aD)))))
  (aB (bG (i:=6) dZ.nd rfl oR (aJ bV (aq aD) (aq (aJ bK (aq (aJ dh (ao 4) (aq aD))) (aq aD)))))
  (aB (K5 (i:=7) dZ.nd rfl oR (GJ 1 14 15 G_law_name_number hr aN (tQ (i:=1) (aa (aC 5) (aa (ig nQ (ao 3) (aq (aJ fM (ao 5) (aq aD))) (λ_ _=>rfl)) (aa (aC 6) (aa (aJ bK (aq (aJ dh (ao 4) (aq aD))) (aq aD)) az))))) (hk:=by omega)))
  (aB (cT (bL RJ (ao 7) (aq aD) (bH _))
  (aF (bF (aR (aa bC (aa (bx G_law_stake hr aN (aa (aC 4) az) (hk:=by omega)) az)))))
  bB)
  (aB (vY 1 hr (aJ fM (aq (dm hr (ao 1) (aq bC) (λ_ _=>rfl))) (ao 6)) bC)
  (aB (bG (i:=8) dZ.nd rfl oR (dm hr (ao 1) (aq bC) (λ_ _=>rfl)))
  (aB (bG (i:=9) dZ.nd rfl oR (ig nQ (ao 8) (aq (aJ bK (aq (aJ bV (ao 7) (aq (dm hr (ao 1) (aq bC) (λ_ _=>rfl))))) (aq aD))) (λ_ _=>rfl)))
  (aB (kZ (i:=10) dZ.nd rfl oR (gQ az))
  (aB (je (k:=1000) PassesOwn.leaving rfl (mO rfl B.range (aP (ao 6) aZ)) (aO (i:=11) dZ.nd rfl oR)
  (aB (bG (i:=12) dZ.nd rfl oR (ig nQ (ao 8) (aq (aJ bK (aq (aJ bV (aq (aJ bV (aq (aJ gD (aq aD) (ao 7))) (ao 11))) (aq (aJ dh (aq (dm hr (ao 1) (aq bC) (λ_ _=>rfl))) (aq aD))))) (aq aD))) (λ_ _=>rfl)))
  (aB (kZ (i:=13) dZ.nd rfl oR (xF uT rfl B.list qO (aP (ao 3) aZ)))
  (aB (Tt 13 (aJ bV (aq (ig nQ (ao 13) (aq (aJ fM (ao 5) (aq aD))) (λ_ _=>rfl))) (aq (aR (aa (aR (aa (aC 9) (aa (aC 12) az))) az)))) (aJ fM (ao 5) (aq aD)))
  (V2 13 (aF (zc 10 (Uh (vM (X5 (aC 12)) (vM (GJ 1 14 15 G_law_built hr aN (v7 (aC 0) (tQ (i:=1) (aa (aJ fM (ao 2) (aq aD)) (aa (aC 13) az)))) (hk:=by omega)) Lg))))))))))
  (aF (bF (aR (aa bC (aa (aC 5) (aa (aC 9) (aa (jw gf rfl B.tuple ie (aP (ao 10) aZ)) az))))))))))))))))
theorem Bl (B:Bt mg)(Fu:Fun K "_law_built" "_law_built" qR f fd)(G_law_stake:FF P w K mg base 2 "_law_stake" ["_law_number"] bN)(G_law_shares:FF P w K mg base 2 "_law_shares" ["_law_number", "_law_many"] jJ)(G_law_mix:FF P w K mg base 1 "_law_mix" ["_law_cell", "_law_k"] cW)(n:Nat)(G_law_built:FST P w K mg base (2+2 * n) "_law_built" ["_law_cells", "_law_state", "_law_depth", "_law_records"] 1 (bf n))(G_law_move:FST P w K mg base (2+2 * n+1) "_law_move" ["_law_cells", "_law_state", "_law_depth", "_law_records", "_law_draw"] 1 (nP (bf n))):
  cL P w K mg base (CX1 P w) (2+2 * n+1+1) f fd ["_law_cells", "_law_state", "_law_depth", "_law_records"] (JW ⟨K,mg⟩ 1 (bf (n+1))):=
 zO 1 Fu fU (by decide) λcdv A outer s H E hr=>by
 have hu:=hr.units
 unfold dU
 exact (aB (bG (i:=4) fU.nd rfl oR (dm hr (ao 1) (aq bC) (λ_ _=>rfl)))
  (aB (vY 1 hr (aJ bV (ao 4) (aq aD)) bC)
  (aB (cT (bL RJ (ao 4) (aq (cz eU rfl B.len mF (aP (ao 0) aZ))) (bH _))
  (aF (bF (aR (aa bC (aa (bx G_law_stake hr aN (aa (bx G_law_mix hr aN (aa (aJ bV (aq (ig nQ (ao 0) (aq (By t6 (aq aD))) (λ_ _=>rfl))) (aq (aJ gD (ao 4) (ao 4)))) (aa (aC 4) az)) (hk:=by omega)) az) (hk:=by omega)) az)))))
  bB)
  (aB (bG (i:=5) fU.nd rfl oR (bx G_law_mix hr aN (aa (ig nQ (ao 0) (ao 4) (λ_ _=>rfl)) (aa (aC 4) az)) (hk:=by omega)))
  (aB (bG (i:=6) fU.nd rfl oR (aC 5))
  (aB (cT (jk (dm hr (ao 1) (aq bC) (λ_ _=>rfl)))
  (aF (bG (i:=6) fU.nd rfl oR (aJ bV (aq (aJ fM (ao 5) (aq (aJ bK (ao 5) (aq aD))))) (aq (aJ bK (aq (bx G_law_mix hr aN (aa (ig nQ (ao 0) (aq (aJ bK (ao 2) (aq (cz eU rfl B.len mF (aP (ao 0) aZ))))) (λ_ _=>rfl)) (aa (aC 2) az)) (hk:=by omega))) (aq aD))))))
  bB)
  (aB (cT (Kh (sW (bL (fj hu) (ao 2) (aq aD) (bH _)) (sW (bL (Er hu) (aq (dm hr (ao 1) (aq bC) (λ_ _=>rfl))) (aq aD) (bH _)) (Av (Kh (Rv (bL (fj hu) (aq (aJ bK (ao 6) (aq aD))) (aq aD) (bH _)) (MN (bL qL (ao 4) (aq aD) (bH _)))))))))
  (aF (bF (aR (aa bC (aa (bx G_law_stake hr aN (aa (aC 5) az) (hk:=by omega)) az)))))
  bB)
  (aB (cT (bL qL (aq (aJ bK (ao 6) (aq aD))) (aq aD) (bH _))
  (aF (Hk (GJ 1 10 11 G_law_move hr aN (v7 (aC 0) (tQ (i:=1) (aa (aC 2) (aa (aC 3) (aa (aC 6) az))))) (hk:=by omega))))
  bB)
  (aB (bG (i:=7) fU.nd rfl oR (aJ bV (aq aD) (aq (aJ bK (aq (aJ dh (ao 6) (aq aD))) (aq aD)))))
  (aB (vY 1 hr (aJ fM (aq (dm hr (ao 1) (aq bC) (λ_ _=>rfl))) (ao 7)) bC)
  (aB (kZ (i:=8) fU.nd rfl oR (gQ az))
  (aB (je (k:=1000) PassesOwn.leaving rfl (oG (bx G_law_shares hr aN (aa (aC 5) (aa (aC 7) az)) (hk:=by omega))) (aO (i:=9) fU.nd rfl oR)
  (aF (zc 8 (Uh (vM (X5 (aC 9)) (vM (GJ 1 10 11 G_law_built hr aN (v7 (aC 0) (tQ (i:=1) (aa (aJ fM (ao 2) (aq aD)) (aa (aC 3) az)))) (hk:=by omega)) Lg))))))
  (aF (bF (aR (aa bC (aa (ig nQ (aq (dm hr (ao 1) (aq bC) (λ_ _=>rfl))) (aq (aJ bK (aq (aJ dh (ao 5) (aq aD))) (aq aD))) (λ_ _=>rfl)) (aa (jw gf rfl B.tuple ie (aP (ao 8) aZ)) az))))))))))))))))))
theorem Ed (B:Bt mg)(Fu:Fun K "_law_game" "_law_game" tR f fd)(G_law_built:FST P w K mg base 28 "_law_built" ["_law_cells", "_law_state", "_law_depth", "_law_records"] 1 (bf 13)):
  cL P w K mg base (CX1 P w) 29 f fd ["_law_cells", "_law_turn", "_law_depth", "_law_room", "_law_pool_here"] (spF ⟨K,mg⟩ pL):=
 bz Fu xT λcdv A outer s H E hr=>by
 have hu:=hr.units
 unfold yf pP
 exact (T3 (i:=5) (j1:=6) (j2:=7) xT.nd rfl oR (tK bC aD (tK bC (aC 3) (tK bC FZ (tK bC (gQ (aa aD (aa aD az))) (tK bC (aC 4) WX)))))
  (aB (vY 5 hr (aJ bK (ao 1) (aq aD)) bC)
  (aB (vY 5 hr (sS (fj hu) (aq (aJ bK (aq (aJ dh (ao 1) (aq aD))) (aq aD))) (aq aD) (bH _)) bC)
  (aF (Hk (GJ 5 6 7 G_law_built hr aN (v7 (aC 0) (tQ (i:=5) (aa (aC 2) (aa (fD (gQ (aa (aR az) (aa (aR az) az)))) az))))))))))
theorem yr (B:Bt mg)(Fu:Fun K "_law_is_text" "_law_is_text" ph f fd)  :
  cL P w K mg base (CX1 P w) 1 f fd ["_law_found"] (spF ⟨K,mg⟩ dJ):=
 bz Fu Al λcdv A outer s H E hr=>by
 have hu:=hr.units
 unfold sO rY
 exact (aF (bF (sV (x:="") (ao 0) rfl B.isinstance dY rfl B.str Y0)))
theorem v5 (B:Bt mg)(Fu:Fun K "_law_is_record" "_law_is_record" mC f fd)(G_law_is_text:FF P w K mg base 1 "_law_is_text" ["_law_found"] dJ):
  cL P w K mg base (CX1 P w) 2 f fd ["_law_found"] (spF ⟨K,mg⟩ gG):=
 bz Fu qt λcdv A outer s H E hr=>by
 have hu:=hr.units
 unfold mG mq
 exact (aB (cT (mJ (jk (sV (x:="") (ao 0) rfl B.isinstance dY rfl B.tuple ie)))
  (aF (bF qu))
  bB)
  (aB (je (k:=1000) PassesOwn.leaving rfl (oY (aC 0)) (aO (i:=1) qt.nd rfl oR)
  (aF (cT (Kh (sW (mJ (jk (sV (x:="") (ao 1) rfl B.isinstance dY rfl B.tuple ie))) (sW (bL (o5 hu) (aq (cz eU rfl B.len mF (aP (ao 1) aZ))) (aq aD) (bH _)) (sW (mJ (jk (bx G_law_is_text hr aN (aa (aQ (ao 1)) az)))) (Av (mJ (jk (bx G_law_is_text hr aN (aa (aQ (ao 1)) az)))))))))
  (aF (bF qu))
  bB)))
  (aF (bF qu))))
theorem xq (B:Bt mg)(Fu:Fun K "_law_is_table" "_law_is_table" jP f fd)(G_law_is_text:FF P w K mg base 1 "_law_is_text" ["_law_found"] dJ)(G_law_is_record:FF P w K mg base 2 "_law_is_record" ["_law_found"] gG):
  cL P w K mg base (CX1 P w) 3 f fd ["_law_found"] (spF ⟨K,mg⟩ iC):=
 bz Fu rH λcdv A outer s H E hr=>by
 have hu:=hr.units
 unfold oh nU
 exact (aB (cT (mJ (jk (sV (x:="") (ao 0) rfl B.isinstance dY rfl B.list qO)))
  (aF (bF qu))
  bB)
  (aB (je (k:=1000) PassesOwn.leaving rfl (oG (aC 0)) (aO (i:=1) rH.nd rfl oR)
  (aB (cT (Kh (sW (mJ (jk (sV (x:="") (ao 1) rfl B.isinstance dY rfl B.tuple ie))) (sW (bL (o5 hu) (aq (cz eU rfl B.len mF (aP (ao 1) aZ))) (aq aD) (bH _)) (sW (mJ (jk (sV (x:="") (aq (aQ (ao 1))) rfl B.isinstance dY rfl B.int YG))) (Av (jk (sV (x:="") (aq (aQ (ao 1))) rfl B.isinstance dY rfl B.bool Vx)))))))
  (aF (bF qu))
  bB)
  (aB (cT (Kh (sW (mJ (jk (bx G_law_is_text hr aN (aa (aQ (ao 1)) az)))) (sW (mJ (jk (sV (x:="") (aq (aQ (ao 1))) rfl B.isinstance dY rfl B.tuple ie))) (Av (mJ (jk (bx G_law_is_record hr aN (aa (aQ (ao 1)) az))))))))
  (aF (bF qu))
  bB)
  (aF (cT (mJ (jk (cz (BV rfl) rfl B.all SX (aP (aq (fD (dR (aG jP) ["_law_word"] [] 1 [] rfl (by walk_at "u2") .nil (oW (oY (aQ (ao 1)))) (λ_ _ _ _ _ _=>(aO (i:=0) (show List.Nodup (["_law_word"]:List Str) by decide) rfl oR)) (λ_ _ _ _ _ _=>cR) (λ_ _ _ _ _ _=>(bx G_law_is_text hr ux (aa (aC 0) az)))))) aZ))))
  (aF (bF qu))
  bB)))))
  (aF (bF qu))))
theorem Bx (B:Bt mg)(Fu:Fun K "_law_named" "_law_named" lF f fd)  (n:Nat)(G_law_named:FF P w K mg base (0+n) "_law_named" ["_law_game_here", "_law_names"] (aV n)):
  cL P w K mg base (CX1 P w) (0+n+1) f fd ["_law_game_here", "_law_names"] (spF ⟨K,mg⟩ (aV (n+1))):=
 bz Fu vA λcdv A outer s H E hr=>by
 have hu:=hr.units
 unfold fW
 exact (aB (cT (bL (fj hu) (aq (aQ (ao 0))) (aq bC) (bH _))
  (aF (bF (aC 0)))
  bB)
  (aB (cT (bL (fj hu) (aq (aQ (ao 0))) (aq bC) (bH _))
  (aF (bF (aR (aa bC (aa (dm hr (aq (aQ (ao 1))) (aq (aQ (ao 0))) (λ_ _=>rfl)) (aa (jw gf rfl B.tuple ie (aP (aq (fD (dR (aG lF) ["_law_share", "_law_part", "_law_names"] ["_law_names"] 2 [1] rfl (by walk_at "u2") (.cons rfl .nil) (oW (oY (aQ (ao 0)))) (λ_ _ _ _ _ _=>(lN rfl (bI (aO (i:=0) (show List.Nodup (["_law_share", "_law_part", "_law_names"]:List Str) by decide) rfl oR) (bI (aO (i:=1) (show List.Nodup (["_law_share", "_law_part", "_law_names"]:List Str) by decide) rfl oR) iM)))) (λ_ _ _ _ _ _=>cR) (λ_ _ _ _ _ _=>(aR (aa (aC 0) (aa (bx G_law_named hr ux (aa (aC 1) (aa (aC 2) az)) (hk:=by omega)) az))))))) aZ)) az))))))
  bB)
  (aB (uN (i:=2) (aG lF) ["_law_word", "_law_part", "_law_names"] ["_law_names"] 2 [1] vA.nd rfl oR rfl (by walk_at "u2") (.cons rfl .nil) (oW (oY (aQ (ao 0)))) (λ_ _ _ _ _ _=>(lN rfl (bI (aO (i:=0) (show List.Nodup (["_law_word", "_law_part", "_law_names"]:List Str) by decide) rfl oR) (bI (aO (i:=1) (show List.Nodup (["_law_word", "_law_part", "_law_names"]:List Str) by decide) rfl oR) iM)))) (λ_ _ _ _ _ _=>cR) (λ_ _ _ _ _ _=>(aR (aa (dm hr (aq (aQ (ao 2))) (ao 0) (λ_ _=>rfl)) (aa (bx G_law_named hr ux (aa (aC 1) (aa (aC 2) az)) (hk:=by omega)) az)))))
  (aF (bF (aR (aa bC (aa (aQ (ao 0)) (aa (dm hr (aq (ig nQ (ao 1) (aq (aQ (ao 0))) (λ_ _=>rfl))) (aq (aQ (ao 0))) (λ_ _=>rfl)) (aa (jw gf rfl B.tuple ie (aP (ao 2) aZ)) az))))))))))
theorem vh (B:Bt mg)(Fu:Fun K "_law_row_named" "_law_row_named" gZ f fd)  :
  cL P w K mg base (CX1 P w) 1 f fd ["_law_row", "_law_names"] (spF ⟨K,mg⟩ ju):=
 bz Fu eG λcdv A outer s H E hr=>by
 have hu:=hr.units
 unfold qw jt
 exact (aB (aal (k:=1000) (aC 0) (lN rfl (bI (aO (i:=2) eG.nd rfl (Or.inr rfl)) (bI (aO (i:=3) eG.nd rfl oR) (bI (aO (i:=4) eG.nd rfl oR) (bI (aO (i:=5) eG.nd rfl oR) iM))))))
  (aB (bG (i:=6) eG.nd rfl oR (jw gf rfl B.tuple ie (aP (aq (fD (dR (aG gZ) ["_law_name", "_law_word", "_law_names", "_law_side"] ["_law_names", "_law_side"] 2 [1,2] rfl (by walk_at "u2") (.cons rfl (.cons rfl .nil)) (oW (oY (aC 5))) (λ_ _ _ _ _ _=>(lN rfl (bI (aO (i:=0) (show List.Nodup (["_law_name", "_law_word", "_law_names", "_law_side"]:List Str) by decide) rfl oR) (bI (aO (i:=1) (show List.Nodup (["_law_name", "_law_word", "_law_names", "_law_side"]:List Str) by decide) rfl oR) iM)))) (λ_ _ _ _ _ _=>cR) (λ_ _ _ _ _ _=>(aR (aa (dm hr (aq (ig nQ (ao 2) (ao 3) (λ_ _=>rfl))) (ao 0) (λ_ _=>rfl)) (aa (dm hr (aq (aQ (ao 2))) (ao 1) (λ_ _=>rfl)) az))))))) aZ)))
  (aF (bF (aR (aa (aC 2) (aa (dm hr (aq (ig nQ (ao 1) (ao 2) (λ_ _=>rfl))) (ao 3) (λ_ _=>rfl)) (aa (jw gf rfl B.tuple ie (aP (aq (fD (dR (aG gZ) ["_law_word", "_law_names"] ["_law_names"] 1 [1] rfl (by walk_at "u2") (.cons rfl .nil) (oW (oY (aC 4))) (λ_ _ _ _ _ _=>(aO (i:=0) (show List.Nodup (["_law_word", "_law_names"]:List Str) by decide) rfl oR)) (λ_ _ _ _ _ _=>cR) (λ_ _ _ _ _ _=>(dm hr (aq (aQ (ao 1))) (ao 0) (λ_ _=>rfl)))))) aZ)) (aa (aC 6) az)))))))))
theorem xu (B:Bt mg)(Fu:Fun K "_law_names_by" "_law_names_by" ou f fd)  :
  cL P w K mg base (CX1 P w) 1 f fd ["_law_cell", "_law_pool_here"] (spF ⟨K,mg⟩ iB):=
 bz Fu iz λcdv A outer s H E hr=>by
 have hu:=hr.units
 unfold rF jL
 exact (aB (kZ (i:=2) iz.nd rfl oR V9)
  (aB (kZ (i:=3) iz.nd rfl oR (xF uT rfl B.list qO (aP (ao 1) aZ)))
  (aB (je (k:=1000) PassesOwn.leaving rfl (mO rfl B.range (aP (aq aD) aZ)) (aO (i:=4) iz.nd rfl oR)
  (aB (Uq 2 hr (Q7 3 (aJ bK (ao 0) (aq (cz eU rfl B.len mF (aP (ao 3) aZ))))) (ig nQ (ao 1) (ao 4) (λ_ _=>rfl)))
  (aF (bG (i:=0) iz.nd rfl oR (aJ dh (ao 0) (aq aD))))))
  (aF (yJ 2)))))
theorem Bc (B:Bt mg)(Fu:Fun K "_law_ahead" "_law_ahead" rB f fd)  :
  cL P w K mg base (CX1 P w) 1 f fd ["_law_rows", "_law_side", "_law_seen", "_law_word"] (spF ⟨K,mg⟩ lD):=
 bz Fu lR λcdv A outer s H E hr=>by
 have hu:=hr.units
 unfold vI oK
 exact (aB (kZ (i:=4) lR.nd rfl oR (gQ az))
  (aB (je (k:=1000) PassesOwn.leaving rfl (oG (aC 0)) (aO (i:=5) lR.nd rfl oR)
  (aB (bG (i:=6) lR.nd rfl oR (aQ (ao 5)))
  (aB (cT (bL (fj hu) (aq (aQ (ao 5))) (ao 1) (bH _))
  (aF (bG (i:=6) lR.nd rfl oR (aJ bV (aq (aR (aa (aR (aa (aC 2) (aa (aC 3) az))) az))) (ao 6))))
  bB)
  (aF (oU 4 (aR (aa (aQ (ao 5)) (aa (aQ (ao 5)) (aa (aQ (ao 5)) (aa (aC 6) az))))))))))
  (aF (bF (aJ bV (aq (fD (gQ (aa (aR (aa (aC 1) (aa (aC 2) (aa (aR (aa (aC 3) az)) (aa (aR az) az))))) az)))) (ao 4))))))
theorem Bu (B:Bt mg)(Fu:Fun K "_law_moved" "_law_moved" lG f fd)(Glook:FF P w K mg base 8 "look" ["game"] jf)(G_law_ahead:FF P w K mg base 1 "_law_ahead" ["_law_rows", "_law_side", "_law_seen", "_law_word"] lD):
  cL P w K mg base (CX1 P w) 9 f fd ["_law_game_here", "_law_rows", "_law_side", "_law_pool_here"] (spF ⟨K,mg⟩ kY):=
 bz Fu oH λcdv A outer s H E hr=>by
 have hu:=hr.units
 unfold iy qH
 exact (aB (bG (i:=4) oH.nd rfl (Or.inr rfl) (fD (dR (aG lG) ["_law_row", "_law_side"] ["_law_side"] 1 [2] rfl (by walk_at "u2") (.cons rfl .nil) (jo (ao 1)) (λ_ _ _ _ _ _=>(aO (i:=0) (show List.Nodup (["_law_row", "_law_side"]:List Str) by decide) rfl oR)) (λ_ _ _ _ _ _=>(Am (bL (fj hu) (aq (aQ (ao 0))) (ao 1) (bH _)))) (λ_ _ _ _ _ _=>(aQ (ao 0))))))
  (aB (uN (i:=5) (aG lG) ["_law_name", "_law_mine"] ["_law_mine"] 1 [4] oH.nd rfl oR rfl (by walk_at "u2") (.cons rfl .nil) (jo (ao 3)) (λ_ _ _ _ _ _=>(aO (i:=0) (show List.Nodup (["_law_name", "_law_mine"]:List Str) by decide) rfl oR)) (λ_ _ _ _ _ _=>(Am (bL WN (ao 0) (ao 1) (by with_unfolding_all rfl)))) (λ_ _ _ _ _ _=>(aC 0)))
  (aB (cT (bL (fj hu) (aq (cz eU rfl B.len mF (aP (ao 5) aZ))) (aq aD) (bH _))
  (aF (bF qu))
  bB)
  (aB (bG (i:=6) oH.nd rfl oR (bx Glook hr aN (aa (aR (aa bC (aa (aC 2) (aa (aQ (ao 5)) (aa (aR (aa (aR (aa (ig nQ (ao 5) (aq (By t6 (aq aD))) (λ_ _=>rfl)) (aa (aC 0) az))) az)) az))))) az)))
  (aF (bF (sS (fj hu) (ao 6) (aq (bx G_law_ahead hr aN (aa (aC 1) (aa (aC 2) (aa (aQ (ao 5)) (aa (ig nQ (ao 5) (aq (By t6 (aq aD))) (λ_ _=>rfl)) az)))))) (bH _))))))))
theorem aak (B:Bt mg)(Fu:Fun K "law" "law" rK f fd)(Gturned:FF P w K mg base 33 "turned" ["game"] (dI 30))(Glook:FF P w K mg base 8 "look" ["game"] jf)(G_law_cell_at:FF P w K mg base 1 "_law_cell_at" ["_law_script", "_law_k"] dM)(G_law_pool:FF P w K mg base 1 "_law_pool" ["_law_cell", "_law_turn"] pM)(G_law_game:FF P w K mg base 29 "_law_game" ["_law_cells", "_law_turn", "_law_depth", "_law_room", "_law_pool_here"] pL)(G_law_is_table:FF P w K mg base 3 "_law_is_table" ["_law_found"] iC)(G_law_named:FF P w K mg base 30 "_law_named" ["_law_game_here", "_law_names"] (aV 30))(G_law_row_named:FF P w K mg base 1 "_law_row_named" ["_law_row", "_law_names"] ju)(G_law_names_by:FF P w K mg base 1 "_law_names_by" ["_law_cell", "_law_pool_here"] iB)(G_law_moved:FF P w K mg base 9 "_law_moved" ["_law_game_here", "_law_rows", "_law_side", "_law_pool_here"] kY):
  cL P w K mg base (CX1 P w) 34 f fd ["_law_script"] (spF ⟨K,mg⟩ XM):=
 bz Fu uA λcdv A outer s H E hr=>by
 have hu:=hr.units
 unfold XX K8
 exact (aB (bG (i:=1) uA.nd rfl (Or.inr rfl) (bx G_law_pool hr aN (aa (bx G_law_cell_at hr aN (aa (aC 0) (aa aD az))) (aa (bx G_law_cell_at hr aN (aa (aC 0) (aa aD az))) az))))
  (aB (bG (i:=2) uA.nd rfl oR (bx G_law_cell_at hr aN (aa (aC 0) (aa aD az))))
  (aB (bG (i:=3) uA.nd rfl oR (bx G_law_game hr aN (aa (aJ bV (aq (vN (ao 0) (vP (aq aD)) (vP (aq aD)))) (aq (fD (gQ (aa (bx G_law_cell_at hr aN (aa (aC 0) (aa aD az))) az))))) (aa (aC 2) (aa aD (aa aD (aa (aC 1) az)))))))
  (aB (bG (i:=4) uA.nd rfl oR (bx Glook hr aN (aa (aC 3) az)))
  (aB (cT (mJ (jk (bx G_law_is_table hr aN (aa (aC 4) az))))
  (aF (bF qu))
  bB)
  (aB (bG (i:=5) uA.nd rfl oR (fD (xF uT rfl B.list qO (aP (ao 4) aZ))))
  (aB (bG (i:=6) uA.nd rfl oR (bx Gturned hr aN (aa (aC 3) az)))
  (aB (cT (Kh (sW (bL (o5 hu) (aq (bx Glook hr aN (aa (aC 6) az))) (aq (fD (dR (aG rK) ["_law_row"] [] 1 [] rfl (by walk_at "u2") .nil (jo (ao 4)) (λ_ _ _ _ _ _=>(aO (i:=0) (show List.Nodup (["_law_row"]:List Str) by decide) rfl oR)) (λ_ _ _ _ _ _=>cR) (λ_ _ _ _ _ _=>(aR (aa (aJ fM (aq aD) (aq (aQ (ao 0)))) (aa (aQ (ao 0)) (aa (aQ (ao 0)) (aa (aQ (ao 0)) az))))))))) (bH _)) (Av (bL (o5 hu) (aq (bx Glook hr aN (aa (bx Gturned hr aN (aa (aC 6) az)) az))) (ao 4) (bH _)))))
  (aF (bF qu))
  bB)
  (aB (bG (i:=7) uA.nd rfl (Or.inr rfl) (fD (dR (aG rK) ["_law_k", "_law_pool_here", "_law_script"] ["_law_pool_here", "_law_script"] 1 [1,0] rfl (by walk_at "u2") (.cons rfl (.cons rfl .nil)) (oW (mO rfl B.range (aP (aq aD) aZ))) (λ_ _ _ _ _ _=>(aO (i:=0) (show List.Nodup (["_law_k", "_law_pool_here", "_law_script"]:List Str) by decide) rfl oR)) (λ_ _ _ _ _ _=>cR) (λ_ _ _ _ _ _=>(bx G_law_names_by hr ux (aa (bx G_law_cell_at hr ux (aa (aC 2) (aa (aJ bV (aq aD) (ao 0)) az))) (aa (aC 1) az)))))))
  (aB (cT (bL (o5 hu) (aq (bx Glook hr aN (aa (bx G_law_named hr aN (aa (aC 3) (aa (aC 7) az))) az))) (aq (fD (dR (aG rK) ["_law_row", "_law_names"] ["_law_names"] 1 [7] rfl (by walk_at "u2") (.cons rfl .nil) (jo (ao 4)) (λ_ _ _ _ _ _=>(aO (i:=0) (show List.Nodup (["_law_row", "_law_names"]:List Str) by decide) rfl oR)) (λ_ _ _ _ _ _=>cR) (λ_ _ _ _ _ _=>(bx G_law_row_named hr ux (aa (aC 0) (aa (aC 1) az))))))) (bH _))
  (aF (bF qu))
  bB)
  (aB (bG (i:=8) uA.nd rfl oR (aR (aa bC (aa (aR (aa (aJ fM (aq (aJ bK (aq (aJ dh (ao 2) (aq aD))) (aq aD))) (aq aD)) (aa aD az))) az))))
  (aB (je (k:=1000) PassesOwn.leaving rfl (oG (fD (gQ (aa (fD (gQ (aa (aR (aa (aR (aa aD (aa aD az))) (aa (aC 3) az))) (aa (aR (aa (aR (aa aD (aa aD az))) (aa (aC 3) az))) az)))) (aa (fD (gQ (aa (aR (aa (aR (aa aD (aa aD az))) (aa (aC 8) az))) (aa (aR (aa (aR (aa aD (aa aD az))) (aa (aC 3) az))) az)))) (aa (fD (gQ (aa (aR (aa (aR (aa aD (aa aD az))) (aa (aC 3) az))) az))) az)))))) (aO (i:=9) uA.nd rfl oR)
  (aF (cT (bL (o5 hu) (aq (bx Glook hr aN (aa (aR (aa bC (aa (ig nQ (ao 1) (aq (aJ bK (aq (aJ dh (ao 2) (aq aD))) (aq aD))) (λ_ _=>rfl)) (aa (jw gf rfl B.tuple ie (aP (ao 9) aZ)) az)))) az))) (ao 4) (bH _))
  (aF (bF qu))
  bB)))
  (aF (bF (Jl (bx G_law_moved hr aN (aa (aC 3) (aa (aC 4) (aa aD (aa (aC 1) az))))) (Jl (bx G_law_moved hr aN (aa (aC 3) (aa (aC 4) (aa aD (aa (aC 1) az))))) (Jo (sS (fj hu) (ao 4) (ao 5) (bH _)))))))))))))))))))
open PySem L2 Hd F Pk Lw
local macro_rules | `(tactic| walk_at "b1")=>`(tactic| exact λ_ _ _ _ _ _ us hl=>(xl1 hl).elim λa e=>by subst e; rfl)
local macro_rules | `(tactic| walk_at "b2")=>`(tactic| exact λ_ _ _ _ _ _ us hl=>by obtain ⟨a,b,e⟩:=xl2 hl; subst e; rfl)
local macro_rules | `(tactic| walk_at "b3")=>`(tactic| exact λ_ _ _ _ _ _ us hl=>by obtain ⟨a,b,c,e⟩:=xl3 hl; subst e; rfl)
local macro_rules | `(tactic| walk_at "b4")=>`(tactic| exact λ_ _ _ _ _ _ us hl=>by obtain ⟨a,b,c,d,e⟩:=xl4 hl; subst e; rfl)
theorem abE {K:W.Frag}{mg:Str->Option Value}{x:Str}{st:Stmt}{ps:List Str}{f:Addr}{oc:Value}{od an:Option Addr}{osl:Array (Option Value)}{kV doc pm cdv ct:Value}(l:K.lookup f=some ⟨oc,od,.func (W.fnOf x x (m8 st) (jr st) (aG st) .none kV doc pm an cdv ct),osl⟩)
  (c:W.codeIn K cdv x=true) (k:W.keepIn K (.ref f)=true) (m:mg x=some (.ref f)) (hb:∀(kV doc pm:Value) (an:Option Addr) (cdv ct:Value) (us:List Value),us.length=ps.length->bindArgs (W.fnOf x x (m8 st) (jr st) (aG st) .none kV doc pm an cdv ct) ⟨us,[]⟩=pure (ps.zip us)):Df K mg x st ps:=
 let F:=Ug (st:=st) l c k
 ⟨f,_,F,F.binds hb,m⟩
noncomputable abbrev DfK (K:W.Frag)(x:Str)(st:Stmt):Prop:=∃(f:Addr) (oc:Value) (od an:Option Addr) (osl:Array (Option Value)) (kV doc pm cdv ct:Value),W.nsIn K mainGlobals x=some (some (.ref f))/\K.lookup f=some ⟨oc,od,.func (W.fnOf x x (m8 st) (jr st) (aG st) .none kV doc pm an cdv ct),osl⟩/\W.codeIn K cdv x=true/\W.keepIn K (.ref f)=true
theorem fZ {K:W.Frag}{h:Heap}{mg:Str->Option Value}{x:Str}{st:Stmt}{ps:List Str}(X:K.In h)(G:h.Ns mainGlobals mg)(d:DfK K x st)(hb:∀(kV doc pm:Value) (an:Option Addr) (cdv ct:Value) (us:List Value),us.length=ps.length->bindArgs (W.fnOf x x (m8 st) (jr st) (aG st) .none kV doc pm an cdv ct) ⟨us,[]⟩=pure (ps.zip us)):Df K mg x st ps:=by
 obtain ⟨f,_,_,_,_,_,_,_,_,_,a,l,c,k⟩:=d
 exact abE l c k (W.mg_of X G a) hb
theorem all_mk {l:PySem.W.OpenLaw}{w:World}{K:W.Frag}{h:Heap}{mg:Str->Option Value}{fa f44:Addr}(X:K.In h)(G:h.Ns mainGlobals mg)(hfa:mg "law" = some (.ref fa))
  (d0:DfK K "common_divisor" mU)
  (d1:DfK K "lowest" Aj)
  (d2:DfK K "plus" J8)
  (d3:DfK K "minus" Dr)
  (d4:DfK K "under" Ei)
  (d5:DfK K "total" Ff)
  (d6:DfK K "branches_of" m9)
  (d7:DfK K "places_of" pO)
  (d8:DfK K "turned" wj)
  (d9:DfK K "words_at" qW)
  (d10:DfK K "records_behind" mz)
  (d11:DfK K "places_with_records" iJ)
  (d12:DfK K "row_at" zE)
  (d13:DfK K "table_of" vd)
  (d14:DfK K "rows_of" tY)
  (d15:DfK K "count_words" m7)
  (d16:DfK K "fractions_at" lK)
  (d17:DfK K "is_great" uR)
  (d18:DfK K "refuse_great_places" fK)
  (d19:DfK K "refuse_great_table" ji)
  (d20:DfK K "refuse_great_shape" jg)
  (d21:DfK K "refuse_great_fractions" dH)
  (d22:DfK K "are_shares" oO)
  (d23:DfK K "refuse_other_row" kh)
  (d24:DfK K "refuse_unsound" mR)
  (d25:DfK K "look" JG)
  (d26:DfK K "_law_cell_at" oX)
  (d27:DfK K "_law_lowest" pX)
  (d28:DfK K "_law_pool" nM)
  (d29:DfK K "_law_stake" qM)
  (d30:DfK K "_law_shares" nq)
  (d31:DfK K "_law_mix" uP)
  (d32:DfK K "_law_name_number" jY)
  (d33:DfK K "_law_move" rZ)
  (d34:DfK K "_law_built" qR)
  (d35:DfK K "_law_game" tR)
  (d36:DfK K "_law_is_text" ph)
  (d37:DfK K "_law_is_record" mC)
  (d38:DfK K "_law_is_table" jP)
  (d39:DfK K "_law_named" lF)
  (d40:DfK K "_law_row_named" gZ)
  (d41:DfK K "_law_names_by" ou)
  (d42:DfK K "_law_ahead" rB)
  (d43:DfK K "_law_moved" lG)
  {od44 an44:Option Addr} {sl44:Array (Option Value)} {oc44 kV44 dc44 pm44 cd44 ct44:Value}
  (a44:W.nsIn K mainGlobals "law" = some (some (.ref f44))) (l44:K.lookup f44=some ⟨oc44,od44,.func (W.fnOf "law" "law" (m8 rK) (jr rK) (aG rK) .none kV44 dc44 pm44 an44 cd44 ct44),sl44⟩) (c44:W.codeIn K cd44 "law" = true) (k44:W.keepIn K (.ref f44)=true)
  (zValueError:W.nsIn K mainGlobals "ValueError" = some none)
  (zabs:W.nsIn K mainGlobals "abs" = some none)
  (zall:W.nsIn K mainGlobals "all" = some none)
  (zany:W.nsIn K mainGlobals "any" = some none)
  (zbool:W.nsIn K mainGlobals "bool" = some none)
  (zenumerate:W.nsIn K mainGlobals "enumerate" = some none)
  (zint:W.nsIn K mainGlobals "int" = some none)
  (zisinstance:W.nsIn K mainGlobals "isinstance" = some none)
  (zlen:W.nsIn K mainGlobals "len" = some none)
  (zlist:W.nsIn K mainGlobals "list" = some none)
  (zrange:W.nsIn K mainGlobals "range" = some none)
  (zreversed:W.nsIn K mainGlobals "reversed" = some none)
  (zstr:W.nsIn K mainGlobals "str" = some none)
  (zsum:W.nsIn K mainGlobals "sum" = some none)
  (ztuple:W.nsIn K mainGlobals "tuple" = some none)
  {CNOUGHT:Addr} (nNOUGHT:W.nsIn K mainGlobals "NOUGHT" = some (some (.ref CNOUGHT)))
  {odNOUGHT:Option Addr} {nnNOUGHT:Nat} {slNOUGHT:Array (Option Value)} {tNOUGHT0 tNOUGHT1:Tok} (vNOUGHT:K.lookup CNOUGHT=some ⟨.type "tuple",odNOUGHT,.seq #[.int 0 tNOUGHT0,.int 1 tNOUGHT1] nnNOUGHT,slNOUGHT⟩)
  {CONE:Addr} (nONE:W.nsIn K mainGlobals "ONE" = some (some (.ref CONE)))
  {odONE:Option Addr} {nnONE:Nat} {slONE:Array (Option Value)} {tONE0 tONE1:Tok} (vONE:K.lookup CONE=some ⟨.type "tuple",odONE,.seq #[.int 1 tONE0,.int 1 tONE1] nnONE,slONE⟩)
  {tMOST_PLACES:Tok} (nMOST_PLACES:W.nsIn K mainGlobals "MOST_PLACES" = some (some (.int 64 tMOST_PLACES)))
  {tMOST_BRANCHES:Tok} (nMOST_BRANCHES:W.nsIn K mainGlobals "MOST_BRANCHES" = some (some (.int 12 tMOST_BRANCHES)))
  {tMOST_NAMES:Tok} (nMOST_NAMES:W.nsIn K mainGlobals "MOST_NAMES" = some (some (.int 8 tMOST_NAMES)))
  {tMOST_WORDS_SEEN:Tok} (nMOST_WORDS_SEEN:W.nsIn K mainGlobals "MOST_WORDS_SEEN" = some (some (.int 24 tMOST_WORDS_SEEN)))
  {tGREATEST_TOP:Tok} (nGREATEST_TOP:W.nsIn K mainGlobals "GREATEST_TOP" = some (some (.int 999999999999 tGREATEST_TOP)))
  {tGREATEST_BOTTOM:Tok} (nGREATEST_BOTTOM:W.nsIn K mainGlobals "GREATEST_BOTTOM" = some (some (.int 999 tGREATEST_BOTTOM)))
  : ∃fd:FuncData,(∀(s:Shared) (v:Value),BindsTo s fd ⟨[v],[]⟩ [("_law_script",v)])/\∀base:Heap,K.In base->base.Ns mainGlobals mg->cL l.prog w K mg base (CX1 l.prog w) 34 fa fd ["_law_script"] (LQ K):=by
 have e:=hfa.symm.trans (W.mg_of X G a44)
 cases e
 have D0:=fZ (ps:=["first", "second"]) X G d0 (by walk_at "b2")
 have D1:=fZ (ps:=["top", "bottom"]) X G d1 (by walk_at "b2")
 have D2:=fZ (ps:=["first", "second"]) X G d2 (by walk_at "b2")
 have D3:=fZ (ps:=["first", "second"]) X G d3 (by walk_at "b2")
 have D4:=fZ (ps:=["first", "second"]) X G d4 (by walk_at "b2")
 have D5:=fZ (ps:=["some"]) X G d5 (by walk_at "b1")
 have D6:=fZ (ps:=["game"]) X G d6 (by walk_at "b1")
 have D7:=fZ (ps:=["game"]) X G d7 (by walk_at "b1")
 have D8:=fZ (ps:=["game"]) X G d8 (by walk_at "b1")
 have D9:=fZ (ps:=["move"]) X G d9 (by walk_at "b1")
 have D10:=fZ (ps:=["place", "records", "number"]) X G d10 (by walk_at "b3")
 have D11:=fZ (ps:=["game"]) X G d11 (by walk_at "b1")
 have D12:=fZ (ps:=["move", "records"]) X G d12 (by walk_at "b2")
 have D13:=fZ (ps:=["game"]) X G d13 (by walk_at "b1")
 have D14:=fZ (ps:=["game", "side"]) X G d14 (by walk_at "b2")
 have D15:=fZ (ps:=["rows"]) X G d15 (by walk_at "b1")
 have D16:=fZ (ps:=["place"]) X G d16 (by walk_at "b1")
 have D17:=fZ (ps:=["fraction"]) X G d17 (by walk_at "b1")
 have D18:=fZ (ps:=["game"]) X G d18 (by walk_at "b1")
 have D19:=fZ (ps:=["game"]) X G d19 (by walk_at "b1")
 have D20:=fZ (ps:=["game"]) X G d20 (by walk_at "b1")
 have D21:=fZ (ps:=["game"]) X G d21 (by walk_at "b1")
 have D22:=fZ (ps:=["shares"]) X G d22 (by walk_at "b1")
 have D23:=fZ (ps:=["way", "row", "first_way", "first_row"]) X G d23 (by walk_at "b4")
 have D24:=fZ (ps:=["game"]) X G d24 (by walk_at "b1")
 have D25:=fZ (ps:=["game"]) X G d25 (by walk_at "b1")
 have D26:=fZ (ps:=["_law_script", "_law_k"]) X G d26 (by walk_at "b2")
 have D27:=fZ (ps:=["_law_top", "_law_bottom"]) X G d27 (by walk_at "b2")
 have D28:=fZ (ps:=["_law_cell", "_law_turn"]) X G d28 (by walk_at "b2")
 have D29:=fZ (ps:=["_law_number"]) X G d29 (by walk_at "b1")
 have D30:=fZ (ps:=["_law_number", "_law_many"]) X G d30 (by walk_at "b2")
 have D31:=fZ (ps:=["_law_cell", "_law_k"]) X G d31 (by walk_at "b2")
 have D32:=fZ (ps:=["_law_state", "_law_side", "_law_record", "_law_many", "_law_bit"]) X G d32 (λ_ _ _ _ _ _ us hl=>match us,hl with | [_,_,_,_,_],_=>rfl)
 have D33:=fZ (ps:=["_law_cells", "_law_state", "_law_depth", "_law_records", "_law_draw"]) X G d33 (λ_ _ _ _ _ _ us hl=>match us,hl with | [_,_,_,_,_],_=>rfl)
 have D34:=fZ (ps:=["_law_cells", "_law_state", "_law_depth", "_law_records"]) X G d34 (by walk_at "b4")
 have D35:=fZ (ps:=["_law_cells", "_law_turn", "_law_depth", "_law_room", "_law_pool_here"]) X G d35 (λ_ _ _ _ _ _ us hl=>match us,hl with | [_,_,_,_,_],_=>rfl)
 have D36:=fZ (ps:=["_law_found"]) X G d36 (by walk_at "b1")
 have D37:=fZ (ps:=["_law_found"]) X G d37 (by walk_at "b1")
 have D38:=fZ (ps:=["_law_found"]) X G d38 (by walk_at "b1")
 have D39:=fZ (ps:=["_law_game_here", "_law_names"]) X G d39 (by walk_at "b2")
 have D40:=fZ (ps:=["_law_row", "_law_names"]) X G d40 (by walk_at "b2")
 have D41:=fZ (ps:=["_law_cell", "_law_pool_here"]) X G d41 (by walk_at "b2")
 have D42:=fZ (ps:=["_law_rows", "_law_side", "_law_seen", "_law_word"]) X G d42 (by walk_at "b4")
 have D43:=fZ (ps:=["_law_game_here", "_law_rows", "_law_side", "_law_pool_here"]) X G d43 (by walk_at "b4")
 have B:Bt mg:=⟨W.mg_none_of X G zValueError,W.mg_none_of X G zabs,W.mg_none_of X G zall,W.mg_none_of X G zany,W.mg_none_of X G zbool,W.mg_none_of X G zenumerate,W.mg_none_of X G zint,W.mg_none_of X G zisinstance,W.mg_none_of X G zlen,W.mg_none_of X G zlist,W.mg_none_of X G zrange,W.mg_none_of X G zreversed,W.mg_none_of X G zstr,W.mg_none_of X G zsum,W.mg_none_of X G ztuple⟩
 have Cn:CnT K mg:=⟨⟨.ref CNOUGHT,_,W.mg_of X G nNOUGHT,rfl,λ_ _=>.tup (xs:=[.int 0,.int 1]) (.inr ⟨_,_,_,vNOUGHT,rfl,rfl,(show 2<=sizeLine by decide),(.cons ⟨tNOUGHT0,rfl⟩ (.cons ⟨tNOUGHT1,rfl⟩ .nil))⟩) (.cons (.int 0) (.cons (.int 1) .nil))⟩,⟨.ref CONE,_,W.mg_of X G nONE,rfl,λ_ _=>.tup (xs:=[.int 1,.int 1]) (.inr ⟨_,_,_,vONE,rfl,rfl,(show 2<=sizeLine by decide),(.cons ⟨tONE0,rfl⟩ (.cons ⟨tONE1,rfl⟩ .nil))⟩) (.cons (.int 1) (.cons (.int 1) .nil))⟩,⟨.int 64,_,W.mg_of X G nMOST_PLACES,⟨tMOST_PLACES,rfl⟩,λ_ _=>.int 64⟩,⟨.int 12,_,W.mg_of X G nMOST_BRANCHES,⟨tMOST_BRANCHES,rfl⟩,λ_ _=>.int 12⟩,⟨.int 8,_,W.mg_of X G nMOST_NAMES,⟨tMOST_NAMES,rfl⟩,λ_ _=>.int 8⟩,⟨.int 24,_,W.mg_of X G nMOST_WORDS_SEEN,⟨tMOST_WORDS_SEEN,rfl⟩,λ_ _=>.int 24⟩,⟨.int 999999999999,_,W.mg_of X G nGREATEST_TOP,⟨tGREATEST_TOP,rfl⟩,λ_ _=>.int 999999999999⟩,⟨.int 999,_,W.mg_of X G nGREATEST_BOTTOM,⟨tGREATEST_BOTTOM,rfl⟩,λ_ _=>.int 999⟩⟩
 refine ⟨W.fnOf "law" "law" (m8 rK) (jr rK) (aG rK) .none kV44 dc44 pm44 an44 cd44 ct44,λs v=>.of_eq rfl,λbase kb nb=>?_⟩
 have Gcommon_divisor:=D0.fn (P:=l.prog) (w:=w) (base:=base) λf fd F=>vD B F
 have Glowest:=D1.fn (P:=l.prog) (w:=w) (base:=base) λf fd F=>Pj B F Gcommon_divisor
 have Gplus:=D2.fn (P:=l.prog) (w:=w) (base:=base) λf fd F=>XD B F Glowest
 have Gminus:=D3.fn (P:=l.prog) (w:=w) (base:=base) λf fd F=>Qt B F Glowest
 have Gunder:=D4.fn (P:=l.prog) (w:=w) (base:=base) λf fd F=>Qo B F
 have Gtotal:=D5.fn (P:=l.prog) (w:=w) (base:=base) λf fd F=>Sh B Cn F Gplus
 have Gbranches_of:=D6.fn (P:=l.prog) (w:=w) (base:=base) λf fd F=>zy B F
 have Gplaces_of:=D7.fn (P:=l.prog) (w:=w) (base:=base) λf fd F=>Fz B F Gbranches_of
 have Gturned:∀n:Nat,FF l.prog w K mg base (3+n) "turned" ["game"] (dI n):=by
  intro n
  induction n with
  |zero=>exact D8.fn λf fd F=>Yd
  |succ n ih=>exact D8.fn λf fd F=>Qi B Cn F Gminus n ih
 have Gwords_at:=D9.fn (P:=l.prog) (w:=w) (base:=base) λf fd F=>HN B F
 have Grecords_behind:=D10.fn (P:=l.prog) (w:=w) (base:=base) λf fd F=>vK B F
 have Gplaces_with_records:=D11.fn (P:=l.prog) (w:=w) (base:=base) λf fd F=>qG B F Gbranches_of Gplaces_of Grecords_behind
 have Grow_at:=D12.fn (P:=l.prog) (w:=w) (base:=base) λf fd F=>Ov B F Gwords_at
 have Gtable_of:=D13.fn (P:=l.prog) (w:=w) (base:=base) λf fd F=>GZ B F Gplaces_with_records Grow_at
 have Grows_of:=D14.fn (P:=l.prog) (w:=w) (base:=base) λf fd F=>JS B F Gtable_of
 have Gcount_words:=D15.fn (P:=l.prog) (w:=w) (base:=base) λf fd F=>zJ B F
 have Gfractions_at:=D16.fn (P:=l.prog) (w:=w) (base:=base) λf fd F=>yE B F
 have Gis_great:=D17.fn (P:=l.prog) (w:=w) (base:=base) λf fd F=>HS B Cn F
 have Grefuse_great_places:=D18.fn (P:=l.prog) (w:=w) (base:=base) λf fd F=>qT B Cn F Gplaces_of
 have Grefuse_great_table:=D19.fn (P:=l.prog) (w:=w) (base:=base) λf fd F=>rR B Cn F Grows_of Gcount_words
 have Grefuse_great_shape:=D20.fn (P:=l.prog) (w:=w) (base:=base) λf fd F=>rT B F Grefuse_great_places Grefuse_great_table
 have Grefuse_great_fractions:=D21.fn (P:=l.prog) (w:=w) (base:=base) λf fd F=>pF B F Gplaces_of Gfractions_at Gis_great
 have Gare_shares:=D22.fn (P:=l.prog) (w:=w) (base:=base) λf fd F=>Be B Cn F Gunder Gtotal
 have Grefuse_other_row:=D23.fn (P:=l.prog) (w:=w) (base:=base) λf fd F=>ud B F
 have Grefuse_unsound:=D24.fn (P:=l.prog) (w:=w) (base:=base) λf fd F=>wz B F Gplaces_with_records Grow_at Gfractions_at Gare_shares Grefuse_other_row
 have Glook:=D25.fn (P:=l.prog) (w:=w) (base:=base) λf fd F=>Xe B F Gtable_of Grefuse_great_shape Grefuse_great_fractions Grefuse_unsound
 have G_law_cell_at:=D26.fn (P:=l.prog) (w:=w) (base:=base) λf fd F=>yq B F
 have G_law_lowest:=D27.fn (P:=l.prog) (w:=w) (base:=base) λf fd F=>Ab B F
 have G_law_pool:=D28.fn (P:=l.prog) (w:=w) (base:=base) λf fd F=>Gr B F
 have G_law_stake:=D29.fn (P:=l.prog) (w:=w) (base:=base) λf fd F=>Bq B F G_law_lowest
 have G_law_shares:=D30.fn (P:=l.prog) (w:=w) (base:=base) λf fd F=>An B F G_law_lowest
 have G_law_mix:=D31.fn (P:=l.prog) (w:=w) (base:=base) λf fd F=>Ir B F
 have G_law_name_number:=D32.fn (P:=l.prog) (w:=w) (base:=base) λf fd F=>ue B F
 have G_law_built:∀n:Nat,FST l.prog w K mg base (2+2 * n) "_law_built" ["_law_cells", "_law_state", "_law_depth", "_law_records"] 1 (bf n):=by
  intro n
  induction n with
  |zero=>exact D34.fn λf fd F=>aaQ
  |succ n ih=>
   have GM:FST l.prog w K mg base (2+2 * n+1) "_law_move" ["_law_cells", "_law_state", "_law_depth", "_law_records", "_law_draw"] 1 (nP (bf n)):=D33.fn λf fd F=>Gg B F G_law_stake G_law_name_number (2+2 * n) (by omega) _ ih
   exact D34.fn λf fd F=>Bl B F G_law_stake G_law_shares G_law_mix n ih GM
 have G_law_game:=D35.fn (P:=l.prog) (w:=w) (base:=base) λf fd F=>Ed B F (G_law_built 13)
 have G_law_is_text:=D36.fn (P:=l.prog) (w:=w) (base:=base) λf fd F=>yr B F
 have G_law_is_record:=D37.fn (P:=l.prog) (w:=w) (base:=base) λf fd F=>v5 B F G_law_is_text
 have G_law_is_table:=D38.fn (P:=l.prog) (w:=w) (base:=base) λf fd F=>xq B F G_law_is_text G_law_is_record
 have G_law_named:∀n:Nat,FF l.prog w K mg base (0+n) "_law_named" ["_law_game_here", "_law_names"] (aV n):=by
  intro n
  induction n with
  |zero=>exact D39.fn λf fd F=>Yd
  |succ n ih=>exact D39.fn λf fd F=>Bx B F  n ih
 have G_law_row_named:=D40.fn (P:=l.prog) (w:=w) (base:=base) λf fd F=>vh B F
 have G_law_names_by:=D41.fn (P:=l.prog) (w:=w) (base:=base) λf fd F=>xu B F
 have G_law_ahead:=D42.fn (P:=l.prog) (w:=w) (base:=base) λf fd F=>Bc B F
 have G_law_moved:=D43.fn (P:=l.prog) (w:=w) (base:=base) λf fd F=>Bu B F Glook G_law_ahead
 have F:=Ug (st:=rK) l44 c44 k44
 exact Wd Us (aak B F (Gturned 30) Glook G_law_cell_at G_law_pool G_law_game G_law_is_table (G_law_named 30) G_law_row_named G_law_names_by G_law_moved)
theorem walk {l:PySem.W.OpenLaw}{q:Program}{loose:List Str}{XP:(Str->Option Value)->Heap->Prop}{YP:World->Heap->Prop}{d:DefRec}{K:Params->W.Frag}(hn:l.most=some 63)(hdf:d.params.defaults=[])
  (hY:∀(w:World) (h:Heap),YP w h->(K w.params).In h)
  (F:∀(w:World) (mg:Str->Option Value) (fa:Addr) (h:Heap),(K w.params).In h->h.Ns mainGlobals mg->mg d.name=some (.ref fa)->
   ∃fd:FuncData,(∀(s:Shared) (u:Value),BindsTo s fd ⟨[u],[]⟩ [("_law_script",u)])/\∀base:Heap,(K w.params).In base->base.Ns mainGlobals mg->cL l.prog w (K w.params) mg base (CX1 l.prog w) 34 fa fd ["_law_script"] (LQ (K w.params))):
  PySem.W.WalkO q loose XP YP l.row.toRowW d [] (λf vs=>PySem.call f vs):=
 L2.Vn (n:=63) (k:=34) (x:="_law_script") (CX:=λw=>CX1 l.prog w) (sp:=λw=>LQ (K w.params)) hn (by decide) hdf ⟨rfl,by decide,by decide,rfl⟩ hY F (λ_ _ a ns hl _ hS=>⟨a,ns,rfl,hS,hl,λ_=>rfl⟩) λ_ _ _ _ _ ⟨_,_,_,_,_,_,z⟩=>z.elim
end K16
namespace PySem.W.Fast
theorem tw10032534189055400207:True:=⟨⟩
theorem tw1016030555350245653:True:=⟨⟩
theorem tw10248246582143183291:True:=⟨⟩
theorem tw10324360148489545003:True:=⟨⟩
theorem tw10561615505101424249:True:=⟨⟩
theorem tw10617532747501325283:True:=⟨⟩
theorem tw10645690167249986961:True:=⟨⟩
theorem tw10650331698170751420:True:=⟨⟩
theorem tw10660514628521964803:True:=⟨⟩
theorem tw1081070303180353059:True:=⟨⟩
theorem tw10953705966821583691:True:=⟨⟩
theorem tw11098110858414387158:True:=⟨⟩
theorem tw11152847321663207419:True:=⟨⟩
theorem tw11223550235980357502:True:=⟨⟩
theorem tw1134644909942530005:True:=⟨⟩
theorem tw11429599329020181822:True:=⟨⟩
theorem tw11541585944975507081:True:=⟨⟩
theorem tw11636942999550832507:True:=⟨⟩
theorem tw1166687645797170209:True:=⟨⟩
theorem tw11863870131439044008:True:=⟨⟩
theorem tw12001184398664746256:True:=⟨⟩
theorem tw12047516769124481735:True:=⟨⟩
theorem tw12071756968022098506:True:=⟨⟩
theorem tw12085300909066870150:True:=⟨⟩
theorem tw12090188196628957709:True:=⟨⟩
theorem tw12360775044853967639:True:=⟨⟩
theorem tw12426725094270523854:True:=⟨⟩
theorem tw12561232778383661602:True:=⟨⟩
theorem tw12820317717690343898:True:=⟨⟩
theorem tw12822564722189151128:True:=⟨⟩
theorem tw12872953464662878080:True:=⟨⟩
theorem tw13052341808754953043:True:=⟨⟩
theorem tw13067514944696208548:True:=⟨⟩
theorem tw13102065946098953133:True:=⟨⟩
theorem tw13189092644071901683:True:=⟨⟩
theorem tw13291978558301376656:True:=⟨⟩
theorem tw13335450570178407595:True:=⟨⟩
theorem tw13378270596491732739:True:=⟨⟩
theorem tw13410066645305463794:True:=⟨⟩
theorem tw13536234944067271062:True:=⟨⟩
theorem tw13772206196099351381:True:=⟨⟩
theorem tw13865643078682464317:True:=⟨⟩
theorem tw14071811859089521258:True:=⟨⟩
theorem tw14187128799960991651:True:=⟨⟩
theorem tw142288648183068587:True:=⟨⟩
theorem tw14233004573197367975:True:=⟨⟩
theorem tw14263147194751181759:True:=⟨⟩
theorem tw14299987443565319097:True:=⟨⟩
theorem tw14370392293887401708:True:=⟨⟩
theorem tw14544089054841392363:True:=⟨⟩
theorem tw14797461357075467563:True:=⟨⟩
theorem tw14875455670561769289:True:=⟨⟩
theorem tw14989135038206387126:True:=⟨⟩
theorem tw15019875676759623013:True:=⟨⟩
theorem tw15040212725091173165:True:=⟨⟩
theorem tw15118260900922166771:True:=⟨⟩
theorem tw15157251065466390430:True:=⟨⟩
theorem tw15188902488640745021:True:=⟨⟩
theorem tw15308997704861920271:True:=⟨⟩
theorem tw15310103070970308588:True:=⟨⟩
theorem tw15450689500352713464:True:=⟨⟩
theorem tw15471057229806470912:True:=⟨⟩
theorem tw15842005019278180376:True:=⟨⟩
theorem tw15968322657335851096:True:=⟨⟩
theorem tw15998631628929918845:True:=⟨⟩
theorem tw16100928133913626204:True:=⟨⟩
theorem tw16176089318359374741:True:=⟨⟩
theorem tw16181297261563525791:True:=⟨⟩
theorem tw16854225010687850537:True:=⟨⟩
theorem tw17016965999982515242:True:=⟨⟩
theorem tw17090673777562135758:True:=⟨⟩
theorem tw17285852880262984209:True:=⟨⟩
theorem tw17328708295841295397:True:=⟨⟩
theorem tw17400163659448940341:True:=⟨⟩
theorem tw17461230460286752731:True:=⟨⟩
theorem tw17521850075947955620:True:=⟨⟩
theorem tw1763974364577652783:True:=⟨⟩
theorem tw17664544784194647762:True:=⟨⟩
theorem tw17758398264833303066:True:=⟨⟩
theorem tw17785817455616695650:True:=⟨⟩
theorem tw17963551867552228387:True:=⟨⟩
theorem tw18001974368564489140:True:=⟨⟩
theorem tw18079957375327327949:True:=⟨⟩
theorem tw18416923027690831843:True:=⟨⟩
theorem tw1856400873908302159:True:=⟨⟩
theorem tw1864993357426235547:True:=⟨⟩
theorem tw1928294388981169803:True:=⟨⟩
theorem tw2212825946284486899:True:=⟨⟩
theorem tw2239914230372146393:True:=⟨⟩
theorem tw2392540472128117914:True:=⟨⟩
theorem tw2529954588871332688:True:=⟨⟩
theorem tw2544894990278743970:True:=⟨⟩
theorem tw254896614386251522:True:=⟨⟩
theorem tw2635168639576051054:True:=⟨⟩
theorem tw2930953346684654644:True:=⟨⟩
theorem tw3066392938567240553:True:=⟨⟩
theorem tw3108445587376000817:True:=⟨⟩
theorem tw3337603054828244006:True:=⟨⟩
theorem tw3366123983191941512:True:=⟨⟩
theorem tw3452507066249981341:True:=⟨⟩
theorem tw3556928515728213247:True:=⟨⟩
theorem tw3639146209777286478:True:=⟨⟩
theorem tw364033595860829273:True:=⟨⟩
theorem tw3691340692103262410:True:=⟨⟩
theorem tw3787924598785864144:True:=⟨⟩
theorem tw3863390806195456410:True:=⟨⟩
theorem tw3981095184617317077:True:=⟨⟩
theorem tw4014440368303511017:True:=⟨⟩
theorem tw4059272851952796905:True:=⟨⟩
theorem tw4080260485004229614:True:=⟨⟩
theorem tw4148387343127400846:True:=⟨⟩
theorem tw4247999795273621637:True:=⟨⟩
theorem tw4325768644761495286:True:=⟨⟩
theorem tw4379681750779195883:True:=⟨⟩
theorem tw4432745502824049839:True:=⟨⟩
theorem tw4578885897022929074:True:=⟨⟩
theorem tw4889463597753193999:True:=⟨⟩
theorem tw521520268448840918:True:=⟨⟩
theorem tw5615286295623932906:True:=⟨⟩
theorem tw5688295831047595834:True:=⟨⟩
theorem tw5854859887546168731:True:=⟨⟩
theorem tw6079638181622632075:True:=⟨⟩
theorem tw6125755148476193007:True:=⟨⟩
theorem tw6183901024077533466:True:=⟨⟩
theorem tw6209856702147690197:True:=⟨⟩
theorem tw6571721737875017101:True:=⟨⟩
theorem tw7027891011100153831:True:=⟨⟩
theorem tw7070776678983122499:True:=⟨⟩
theorem tw7076788431611864400:True:=⟨⟩
theorem tw7121526301400163412:True:=⟨⟩
theorem tw7137634983004452231:True:=⟨⟩
theorem tw7280218175909401150:True:=⟨⟩
theorem tw7315711011320622733:True:=⟨⟩
theorem tw7541911652232227400:True:=⟨⟩
theorem tw812228309246744590:True:=⟨⟩
theorem tw8181627596269932224:True:=⟨⟩
theorem tw8264389389656865441:True:=⟨⟩
theorem tw8292623402321486510:True:=⟨⟩
theorem tw829547706650180520:True:=⟨⟩
theorem tw8398870524515810520:True:=⟨⟩
theorem tw8522429599865987312:True:=⟨⟩
theorem tw8722222788130360108:True:=⟨⟩
theorem tw8861853944843642188:True:=⟨⟩
theorem tw8900963056608288964:True:=⟨⟩
theorem tw9029466488516668314:True:=⟨⟩
theorem tw9125111069804670031:True:=⟨⟩
theorem tw9168248708657173860:True:=⟨⟩
theorem tw9183456536894915235:True:=⟨⟩
theorem tw9255806263018761968:True:=⟨⟩
theorem tw9292046552809009118:True:=⟨⟩
theorem tw9374154647018633251:True:=⟨⟩
theorem tw9487469207302295786:True:=⟨⟩
theorem tw956963345739081226:True:=⟨⟩
theorem tw9767118936421351416:True:=⟨⟩
theorem tw9918682268455461063:True:=⟨⟩
end PySem.W.Fast
open PySem PySem.W PyProof.Rows
set_option maxRecDepth 100000 in
set_option maxHeartbeats 0 in
theorem PySem.Challenge.cw_hushduel_k16_turned_and_put_together_holds : PySem.Challenge.rw_hushduel_k16_turned_and_put_together.Holds := by
 w_on; o_law; k_head; (case hw=>w_witness2)
 k_fill
 refine K16.walk (l:=PySem.Challenge.rw_hushduel_k16_turned_and_put_together) rfl rfl (λw h Y=>PySem.W.kIn_of Y) ?F
 case F=>
  intro w mg fa h KX G hmg
  refine' K16.all_mk KX G hmg ?_ ?_ ?_ ?_ ?_ ?_ ?_ ?_ ?_ ?_ ?_ ?_ ?_ ?_ ?_ ?_ ?_ ?_ ?_ ?_ ?_ ?_ ?_ ?_ ?_ ?_ ?_ ?_ ?_ ?_ ?_ ?_ ?_ ?_ ?_ ?_ ?_ ?_ ?_ ?_ ?_ ?_ ?_ ?_ ?_ ?_ ?_ ?_ ?_ ?_ ?_ ?_ ?_ ?_ ?_ ?_ ?_ ?_ ?_ ?_ ?_ ?_ ?_ ?_ ?_ ?_ ?_ ?_ ?_ ?_ ?_ ?_ ?_
  all_goals first | exact ⟨_,_,_,_,_,_,_,_,_,_,by k_is,by k_is,by k_is,by k_is⟩ | k_is | skip
