import PyProof.Rows.All
import Wide.All
import OpenK.AllK
import Wide.FinOn
import Lean
import PyProof.EqAt
import PyProof.EqKinds
import PyProof.TupleCall
import PyProof.TupleKey
import KE.KRevSl
import PyProof.P3Eq
import KE.LcSums
import PyProof.EnumMake
import PyProof.StrWalks
import PyProof.Conv_int_bool
import KE.KIntText
import PyProof.Rows.StrNews2
import PyProof.StrBlock2
import PyProof.Rows.StrNews
import PyProof.StrLawsRepr
import PyProof.ReprStr
import PyProof.ReprRoads
import PyProof.DictIter
import PyProof.Rows.SetFrom
import KE.KDictList
import KE.KDictOf
import PyProof.AttrMissHeap
import KE.KEqDict
import PyProof.DictItems
import KE.KPairComp
import PyProof.Rows.Range3
import KE.IntTextText
import PyProof.StrLawsFirst
import PyProof.ReprBulk
import PyProof.ZipIter
import PyProof.Rows.ZipGen
import PyProof.TupleIter
import PyProof.ListRange
import PySem.Challenge.RW_hushduel_k21_straight_in_each_share
set_option compiler.extract_closed false
set_option genSizeOf false
noncomputable section
abbrev Zaa:=PySem.Addr->Prop
abbrev Zp:=PySem.Str->Option PySem.Value
abbrev Zl:=List (PySem.Addr×PySem.Obj)
abbrev Zs:=PySem.Value->PySem.Shared->Prop
theorem xq5 {A B C D E:Sort _}{R Q:A->B->C->D->E->Prop}{P:Prop}(h:∃a b c d e,R a b c d e/\Q a b c d e)(k:∀a b c d e,R a b c d e->Q a b c d e->P):P:=by
 obtain ⟨a,b,c,d,e,r,q⟩:=h
 exact k a b c d e r q
theorem xq7 {A B C D E F G:Sort _}{R Q S T:A->B->C->D->E->F->G->Prop}{P:Prop}(h:∃a b c d e f g,R a b c d e f g/\Q a b c d e f g/\S a b c d e f g/\T a b c d e f g)(k:∀a b c d e f g,R a b c d e f g->Q a b c d e f g->S a b c d e f g->T a b c d e f g->P):P:=by
 obtain ⟨a,b,c,d,e,f,g,r,q,s,t⟩:=h
 exact k a b c d e f g r q s t
theorem xq2 {A B:Sort _}{R Q S:A->B->Prop}{P:Prop}(h:∃a b,R a b/\Q a b/\S a b)(k:∀a b,R a b->Q a b->S a b->P):P:=by
 obtain ⟨a,b,r,q,s⟩:=h
 exact k a b r q s
theorem xl1 {A:Type _}{us:List A}(h:us.length=1):∃a,us=[a]:=by
 cases us with
 |nil=>cases h
 |cons a t=>cases t with
  |nil=>exact ⟨a,rfl⟩
  |cons _ _=>cases h
theorem xl0 {A:Type _}{us:List A}{n:Nat}(h:us.length=n+1):∃a t,us=a::t/\t.length=n:=by
 cases us with
 |nil=>cases h
 |cons a t=>exact ⟨a,t,rfl,Nat.succ.inj h⟩
theorem xl2 {A:Type _}{us:List A}(h:us.length=2):∃a b,us=[a,b]:=by
 obtain ⟨a,t,rfl,h'⟩:=xl0 (n:=1) h
 obtain ⟨b,rfl⟩:=xl1 h'
 exact ⟨a,b,rfl⟩
theorem xl3 {A:Type _}{us:List A}(h:us.length=3):∃a b c,us=[a,b,c]:=by
 obtain ⟨a,t,rfl,h'⟩:=xl0 (n:=2) h
 obtain ⟨b,c,rfl⟩:=xl2 h'
 exact ⟨a,b,c,rfl⟩
theorem xl4 {A:Type _}{us:List A}(h:us.length=4):∃a b c d,us=[a,b,c,d]:=by
 obtain ⟨a,t,rfl,h'⟩:=xl0 (n:=3) h
 obtain ⟨b,c,d,rfl⟩:=xl3 h'
 exact ⟨a,b,c,d,rfl⟩
set_option Elab.async false
set_option linter.all false
set_option maxRecDepth 100000
namespace L2
open PySem PySem.Spec PyProof.Rows
abbrev Key:=Sum Int Str
noncomputable def xW:Key->Value->Bool
 | .inl k,v=>Value.isInt k v
 | .inr x,v=>Value.isStrOf x v
noncomputable def abj (w:World):Key->Int
 | .inl k=>hashInt k
 | .inr x=>hashStr w x
theorem bZ:∀{k:Key} {v:Value},xW k v=true->(∃i t,k=Sum.inl i/\v=Value.int i t)\/(∃x t,k=Sum.inr x/\v=Value.str x t)
 | .inl i,v,h=>by
  obtain ⟨t,e⟩:=Value.isInt_shape (k:=i) (v:=v) h
  exact .inl ⟨i,t,rfl,e⟩
 | .inr x,v,h=>by
  obtain ⟨t,e⟩:=Value.isStrOf_shape (x:=x) (v:=v) h
  exact .inr ⟨x,t,rfl,e⟩
theorem Qa (i:Int)(t:Tok):xW (.inl i) (.int i t)=true:=by simp [xW,Value.isInt]
theorem Qe (x:Str)(t:Tok):xW (.inr x) (.str x t)=true:=by simp [xW,Value.isStrOf]
theorem YK (a b:Int):decide ((Sum.inl a:Key)=Sum.inl b)=(a == b):=by
 by_cases e:a=b
 ·subst e;simp
 ·have h:¬(Sum.inl a:Key)=Sum.inl b:=λq=>e (Sum.inl.inj q)
  rw [decide_eq_false h]
  exact (beq_eq_false_iff_ne.mpr e).symm
theorem Zj (a b:Str):decide ((Sum.inr a:Key)=Sum.inr b)=decide (a=b):=by
 by_cases e:a=b
 ·subst e;simp
 ·have h:¬(Sum.inr a:Key)=Sum.inr b:=λq=>e (Sum.inr.inj q)
  rw [decide_eq_false h,decide_eq_false e]
theorem YL (a:Int)(b:Str):decide ((Sum.inl a:Key)=Sum.inr b)=false:=decide_eq_false (λq=>nomatch q)
theorem Y5 (a:Str)(b:Int):decide ((Sum.inr a:Key)=Sum.inl b)=false:=decide_eq_false (λq=>nomatch q)
noncomputable def jf (prog:Program)(w:World):PySem.KeyKind prog w Key where
 is:=xW
 hash:=abj w
 inj:=λv a b ha hb=>by
  rcases bZ ha with ⟨i,t,rfl,rfl⟩ | ⟨x,t,rfl,rfl⟩
  ·rcases bZ hb with ⟨j,u,rfl,e⟩ | ⟨y,u,rfl,e⟩
   ·injection e with e1 _;rw [e1]
   ·exact nomatch e
  ·rcases bZ hb with ⟨j,u,rfl,e⟩ | ⟨y,u,rfl,e⟩
   ·exact nomatch e
   ·injection e with e1 _;rw [e1]
 byValue:=λk v h=>by
  rcases bZ h with ⟨i,t,rfl,rfl⟩ | ⟨x,t,rfl,rfl⟩<;>rfl
 pyHash:=λhv h=>by
  rcases bZ hv with ⟨i,t,rfl,rfl⟩ | ⟨x,t,rfl,rfl⟩
  ·exact wpAny_pyHash_int h
  ·exact wpAny_pyHash_str h
 eqBool:=λhu hv h=>by
  rcases bZ hu with ⟨i,t,rfl,rfl⟩ | ⟨x,t,rfl,rfl⟩
  ·rcases bZ hv with ⟨j,u,rfl,rfl⟩ | ⟨y,u,rfl,rfl⟩
   ·rw [YK] at h;exact wpAny_eqBool_int h
   ·rw [YL] at h;exact SeqAt.EqAt.int_str i t y u _ _ _ _ h
  ·rcases bZ hv with ⟨j,u,rfl,rfl⟩ | ⟨y,u,rfl,rfl⟩
   ·rw [Y5] at h;exact SeqAt.EqAt.str_int x t j u _ _ _ _ h
   ·rw [Zj] at h;exact wpAny_eqBool_str h
 «strs»:=λk x t v h=>by
  rcases bZ h with ⟨i,u,rfl,e⟩ | ⟨y,u,rfl,e⟩
  ·exact nomatch e
  ·injection e with e1 _
   subst e1
   cases v<;>rfl
theorem Ia (prog:Program)(w:World)(i:Int)(t:Tok):(jf prog w).is (.inl i) (.int i t)=true:=Qa i t
theorem HR (prog:Program)(w:World)(x:Str)(t:Tok):(jf prog w).is (.inr x) (.str x t)=true:=Qe x t
inductive Kt where
 |k (x:Key) | t (xs:List Kt)
mutual
noncomputable def Kt.dec:(a b:Kt)->Decidable (a=b)
 | .k x,.k y=>if h:x=y then .isTrue (by rw [h]) else .isFalse λe=>h (by injection e)
 | .t xs,.t ys=>match Kt.decs xs ys with
  | .isTrue h=>.isTrue (by rw [h])
  | .isFalse h=>.isFalse λe=>h (by injection e)
 | .k _,.t _=>.isFalse λe=>nomatch e
 | .t _,.k _=>.isFalse λe=>nomatch e
noncomputable def Kt.decs:(a b:List Kt)->Decidable (a=b)
 |[],[]=>.isTrue rfl
 |[],_::_=>.isFalse λe=>nomatch e
 |_::_,[]=>.isFalse λe=>nomatch e
 |x::xs,y::ys=>match Kt.dec x y,Kt.decs xs ys with
  | .isTrue h,.isTrue g=>.isTrue (by rw [h,g])
  | .isFalse h,_=>.isFalse λe=>h (by injection e)
  |_,.isFalse g=>.isFalse λe=>g (by injection e)
end
instance:DecidableEq Kt:=Kt.dec
mutual
noncomputable def uw (w:World):Kt->Int
 | .k x=>abj w x
 | .t xs=>reduceHash (Builtin.Tuple.tupleHashOf (my w xs))
noncomputable def my (w:World):List Kt->List Int
 |[]=>[]
 |x::xs=>uw w x::my w xs
end
mutual
noncomputable def sO:Kt->Nat
 | .k _=>1
 | .t xs=>fB xs+1
noncomputable def fB:List Kt->Nat
 |[]=>0
 |x::xs=>sO x+fB xs
end
def lE (h:Heap):Nat->Kt->Value->Prop
 |_,.k x,v=>xW x v=true
 |0,.t _,_=>False
 |n+1,.t xs,v=>∃a o items m,v=.ref a/\h.get? a=some o/\o.cls=.type "tuple"/\o.data=.seq items m/\Paired (lE h n) xs items.toList
theorem jT {h:Heap}{n:Nat}{xs:List Kt}{v:Value}:lE h (n+1) (.t xs) v↔∃a o items m,v=.ref a/\h.get? a=some o/\o.cls=.type "tuple"/\o.data=.seq items m/\Paired (lE h n) xs items.toList:=by rw [lE]
theorem oE {h:Heap}{n:Nat}{x:Key}{v:Value}:lE h n (.k x) v↔xW x v=true:=by cases n<;>rw [lE]
theorem zG {α β:Type}{F G:α->β->Prop}(f:∀a b,F a b->G a b):∀{l:List α} {m:List β},Paired F l m->Paired G l m
 |_,_,.nil=>.nil
 |_,_,.cons r t=>.cons (f _ _ r) (zG f t)
theorem zW {α β:Type}{F:α->β->Prop}(f:∀x y b,F x b->F y b->x=y):∀{l l':List α} {m:List β},Paired F l m->Paired F l' m->l=l'
 |_,_,_,.nil,.nil=>rfl
 |_,_,_,.cons r t,.cons r' t'=>by rw [f _ _ _ r r',zW f t t']
theorem Bh {h:Heap}:∀(n:Nat) (x y:Kt) (v:Value),lE h n x v->lE h n y v->x=y
 |n,.k x,.k y,v,hx,hy=>by
  rw [oE] at hx hy
  rcases bZ hx with ⟨i,t,rfl,rfl⟩ | ⟨z,t,rfl,rfl⟩
  ·rcases bZ hy with ⟨j,u,rfl,e⟩ | ⟨y,u,rfl,e⟩
   ·injection e with e1 _;rw [e1]
   ·exact nomatch e
  ·rcases bZ hy with ⟨j,u,rfl,e⟩ | ⟨y,u,rfl,e⟩
   ·exact nomatch e
   ·injection e with e1 _;rw [e1]
 |0,.t _,_,_,hx,_=>by rw [lE] at hx;exact hx.elim
 |0,.k _,.t _,_,_,hy=>by rw [lE] at hy;exact hy.elim
 |n+1,.k x,.t ys,v,hx,hy=>by
  rw [oE] at hx
  obtain ⟨a,_,_,_,e,_⟩:=jT.mp hy
  subst e
  rcases bZ hx with ⟨_,_,_,e⟩ | ⟨_,_,_,e⟩<;>exact nomatch e
 |n+1,.t xs,.k y,v,hx,hy=>by
  rw [oE] at hy
  obtain ⟨a,_,_,_,e,_⟩:=jT.mp hx
  subst e
  rcases bZ hy with ⟨_,_,_,e⟩ | ⟨_,_,_,e⟩<;>exact nomatch e
 |n+1,.t xs,.t ys,v,hx,hy=>by
  obtain ⟨a,o,it,m,e,g,_,d,p⟩:=jT.mp hx
  obtain ⟨a',o',it',m',e',g',_,d',p'⟩:=jT.mp hy
  subst e
  injection e' with e'
  subst e'
  cases g.symm.trans g'
  rw [d] at d'
  injection d' with d' _
  subst d'
  rw [zW (Bh n) p p']
theorem Ao {h h':Heap}{d:Addr}{o:Obj}{es ep}(ho:h.get? d=some o)(hd:o.data=.dict es ep)(hs:Heap.SameBut d h h'):∀(n:Nat) (x:Kt) (v:Value),lE h n x v->lE h' n x v
 |n,.k x,v,hx=>by rw [oE] at hx ⊢;exact hx
 |0,.t _,_,hx=>by rw [lE] at hx;exact hx.elim
 |n+1,.t xs,v,hx=>by
  obtain ⟨a,o',it,m,e,g,c,dd,p⟩:=jT.mp hx
  have ne:a≠d:=by
   rintro rfl
   cases g.symm.trans ho
   rw [hd] at dd
   cases dd
  exact jT.mpr ⟨a,o',it,m,e,(hs.2 a ne).trans g,c,dd,zG (Ao ho hd hs n) p⟩
section
variable {pr:Program}{wo:World}{E:Zs}
theorem xN (w:World):∀xs:List Kt,my w xs=xs.map (uw w)
 |[]=>by rw [my];rfl
 |x::xs=>by rw [my,xN w xs];rfl
theorem vd:∀xs ys:List Kt,fB (xs++ys)=fB xs+fB ys
 |[],ys=>by rw [List.nil_append,fB,Nat.zero_add]
 |x::xs,ys=>by rw [List.cons_append,fB,fB,vd xs ys,Nat.add_assoc]
theorem GF (x:Kt):fB [x]=sO x:=by rw [fB,fB,Nat.add_zero]
theorem CT:∀(n:Nat) {A:Around} {s:Shared} {x:Kt} {v:Value} {Q:Int->Shared->Prop},A.units+n<cLine->lE s.heap n x v->Q (uw wo x) { s with toks:=s.toks+sO x }->wpAny (model pr wo) A (pyHash v) Q E s
 |n,A,s,.k x,v,Q,hu,hx,q=>by
  rw [oE] at hx
  rw [uw,sO] at q
  exact (jf pr wo).pyHash hx q
 |0,_,_,.t _,_,_,_,hx,_=>by rw [lE] at hx;exact hx.elim
 |n+1,A,s,.t xs,v,Q,hu,hx,h=>by
  obtain ⟨a,o,items,m,e,ho,hc,hd,hi⟩:=jT.mp hx
  subst e
  have hT:s.TypeIs (.ref a) "tuple":=⟨o,ho,hc⟩
  rw [uw,sO] at h
  unfold pyHash
  first | unfold pyHashByItsType | skip
  first | refine wpAny_bind (wpAny_cRoomFor_or (.inr (by omega)) ?_) | skip
  refine wpAny_bind (wpAny_specialOf hT PySem.F.slot_tuple_hash.lookup ?_)
  show wpAny _ _ (if (some (Value.builtin "tuple.__hash__") == some Value.none)=true then _ else _) Q E s
  rw [if_neg (by rw [beq_builtin_none];exact Bool.false_ne_true)]
  refine wpAny_bind (wpAny_specialOf hT PySem.F.slot_tuple_hash.lookup ?_)
  show wpAny _ _ (callSpecialIfBoundUnlessNone? (.ref a) "__hash__" _ >>= _) Q E s
  refine wpAny_bind (wpAny_callSpecialIfBoundUnlessNone?_slot hT PySem.F.slot_tuple_hash (wpAny_call_entry PySem.F.slot_tuple_hash hT PySem.F.entry_tuple_hash ?_ (PySem.F.args_tuple_hash_1 _)))
  show wpAny _ _ (Builtin.Tuple.tupleItemsOf (.ref a) >>= _) _ _ s
  refine wpAny_bind (wpAny_tupleItemsOf ho hd ?_)
  refine wpAny_bind ?_
  rw [← Array.forIn_toList]
  refine wpAny_forIn_list _
   (λrest (b:Array Int) s'=>∃done left,xs=done++left/\Paired (lE s.heap n) left rest/\b.toList=done.map (uw wo)/\s'={ s with toks:=s.toks+fB done })
   _ ?_ ?_ _ _ ⟨[],xs,rfl,hi,rfl,by rw [fB];rfl⟩
  ·rintro x rest b s' ⟨done,left,rfl,hl,hb,rfl⟩
   cases hl with
   | @cons k _ ks' _ h1 hl'=>
    refine wpAny_bind (CT n (A:=A.in1) (show A.units+1+n<cLine by omega) (s:={ s with toks:=s.toks+fB done }) h1 ?_)
    refine wpAny_pure ⟨done++[k],ks',by simp,hl',by simp [hb],?_⟩
    rw [vd,GF,Nat.add_assoc]
  ·rintro b s' ⟨done,left,rfl,hl,hb,rfl⟩
   cases hl
   rw [List.append_nil] at h
   show wpAny _ _ (retInt (Builtin.Tuple.tupleHashOf b.toList)) _ _ _
   rw [hb,← xN]
   refine wpAny_ret_mkInt ?_
   show wpAny _ _ (if (decide (-(2:Int) ^ 63<=Builtin.Tuple.tupleHashOf (my wo done)) && decide (Builtin.Tuple.tupleHashOf (my wo done)<2 ^ 63))=true then _ else _) Q E _
   unfold reduceHash at h
   by_cases hr:(decide (-(2:Int) ^ 63<=Builtin.Tuple.tupleHashOf (my wo done)) && decide (Builtin.Tuple.tupleHashOf (my wo done)<2 ^ 63))=true
   ·rw [if_pos hr]
    rw [if_pos hr] at h
    exact wpAny_pure (by simpa [Nat.add_assoc] using h)
   ·rw [if_neg hr]
    rw [if_neg hr] at h
    exact wpAny_bind (wpAny_rule (wpAny_pure (by simpa [Nat.add_assoc] using h)))
noncomputable def rK (xs ys:List Kt)(j:Nat):Bool:=match xs[j]?,ys[j]? with
 |some x,some y=>decide (x=y)
 |_,_=>true
theorem An:∀xs ys:List Kt,((List.range (min xs.length ys.length)).all (rK xs ys) && xs.length == ys.length)=decide (xs=ys)
 |[],[]=>by simp
 |[],_::_=>by simp
 |_::_,[]=>by simp
 |x::xs,y::ys=>by
  have ih:=An xs ys
  rw [List.length_cons,List.length_cons,Nat.succ_min_succ,List.range_succ_eq_map,List.all_cons,List.all_map]
  have e:(rK (x::xs) (y::ys) ∘ Nat.succ)=rK xs ys:=by funext j;simp [rK]
  rw [e]
  have e0:rK (x::xs) (y::ys) 0=decide (x=y):=by simp [rK]
  rw [e0,Bool.and_assoc]
  have e1:((xs.length+1 == ys.length+1):Bool)=(xs.length == ys.length):=by simp
  rw [e1,ih]
  by_cases a:x=y<;>by_cases b:xs=ys<;>simp [a,b]
theorem wN {α β:Type}{F:α->β->Prop}:∀{l:List α} {m:List β} (j:Nat) (h:j<m.length),Paired F l m->∃a,l[j]? = some a/\F a m[j]
 |_,_,j,h,.nil=>absurd h (Nat.not_lt_zero _)
 |_,_,0,_,.cons r _=>⟨_,rfl,r⟩
 |_,_,j+1,h,.cons _ t=>by
  obtain ⟨a,h1,h2⟩:=wN j (by simpa using h) t
  exact ⟨a,by simpa using h1,by simpa using h2⟩
theorem Ot:∀(n:Nat) (A:Around) (s:Shared) (x y:Kt) (v u:Value),A.units+n<cLine->lE s.heap n x v->lE s.heap n y u->SeqAt.EqAt A s v u (decide (x=y))
 |n,A,s,.k x,.k y,v,u,hu,hx,hy=>by
  rw [oE] at hx hy
  intro pr wo E Q q
  refine (jf pr wo).eqBool (a:=x) (b:=y) hx hy ?_
  have e:decide (Kt.k x=Kt.k y)=decide (x=y):=decide_eq_decide.mpr ⟨λe=>by injection e,λe=>by rw [e]⟩
  rw [← e]
  exact q
 |0,_,_,.t _,_,_,_,_,hx,_=>by rw [lE] at hx;exact hx.elim
 |0,_,_,.k _,.t _,_,_,_,_,hy=>by rw [lE] at hy;exact hy.elim
 |n+1,A,s,.k x,.t ys,v,u,hu,hx,hy=>by
  rw [oE] at hx
  obtain ⟨a,o,it,m,e,g,c,d,_⟩:=jT.mp hy
  subst e
  have hl:s.heap.IsTuple a it:=⟨o,g,c,m,d⟩
  rw [show decide (Kt.k x=Kt.t ys)=false from decide_eq_false λe=>nomatch e]
  rcases bZ hx with ⟨i,t,rfl,rfl⟩ | ⟨z,t,rfl,rfl⟩
  ·exact SeqAt.EqAt.int_tuple i t hl (by omega)
  ·exact SeqAt.EqAt.str_tuple z t hl (by omega)
 |n+1,A,s,.t xs,.k y,v,u,hu,hx,hy=>by
  rw [oE] at hy
  obtain ⟨a,o,it,m,e,g,c,d,_⟩:=jT.mp hx
  subst e
  have hl:s.heap.IsTuple a it:=⟨o,g,c,m,d⟩
  rw [show decide (Kt.t xs=Kt.k y)=false from decide_eq_false λe=>nomatch e]
  rcases bZ hy with ⟨i,t,rfl,rfl⟩ | ⟨z,t,rfl,rfl⟩
  ·exact SeqAt.EqAt.tuple_int i t hl (by omega)
  ·exact SeqAt.EqAt.tuple_str z t hl (by omega)
 |n+1,A,s,.t xs,.t ys,v,u,hu,hx,hy=>by
  have hx':=hx
  have hy':=hy
  obtain ⟨a,o,it,m,e,g,c,d,p⟩:=jT.mp hx
  obtain ⟨a',o',it',m',e',g',c',d',p'⟩:=jT.mp hy
  subst e e'
  by_cases ne:a=a'
  ·subst ne
   rw [Bh _ _ _ _ hx' hy',decide_eq_true rfl]
   exact SeqAt.EqAt.same _
  ·have hl:s.heap.IsTuple a it:=⟨o,g,c,m,d⟩
   have hl':s.heap.IsTuple a' it':=⟨o',g',c',m',d'⟩
   have n1:it.size=xs.length:=by have:=Paired.length p;simpa using this.symm
   have n2:it'.size=ys.length:=by have:=Paired.length p';simpa using this.symm
   have e2:decide (Kt.t xs=Kt.t ys)=decide (xs=ys):=decide_eq_decide.mpr ⟨λe=>by injection e,λe=>by rw [e]⟩
   rw [e2,← An xs ys,← n1,← n2]
   refine SeqAt.EqAt.of_refs ne (SeqAt.RcAt.tuples hl hl' (by omega) λj j1 j2=>?_)
   obtain ⟨b,q1,q2⟩:=wN j (by simpa using j1) p
   obtain ⟨b',r1,r2⟩:=wN j (by simpa using j2) p'
   have:rK xs ys j=decide (b=b'):=by unfold rK;rw [q1,r1]
   rw [this]
   exact Ot n A.in1 s b b' _ _ (show A.units+1+n<cLine by omega) (by simpa using q2) (by simpa using r2)
theorem K8:∀(n:Nat) {A:Around} {s:Shared} {x:Kt} {v:Value} {Q:Bool->Shared->Prop},lE s.heap n x v->Q true s->wpAny (model pr wo) A (eqIsQuiet n v) Q E s
 |n,A,s,.k x,v,Q,hx,q=>by
  rw [oE] at hx
  rw [eqIsQuiet_byValue _ ((jf pr wo).byValue _ _ hx)]
  exact wpAny_pure q
 |0,_,_,.t _,_,_,hx,_=>by rw [lE] at hx;exact hx.elim
 |n+1,A,s,.t xs,v,Q,hx,h=>by
  obtain ⟨a,o,items,m,e,ho,hc,hd,hi⟩:=jT.mp hx
  subst e
  have hT:s.TypeIs (.ref a) "tuple":=⟨o,ho,hc⟩
  unfold eqIsQuiet
  refine wpAny_bind (wpAny_specialOf hT PySem.F.slot_tuple_eq.lookup ?_)
  show wpAny _ _ (isInstance (.ref a) (.type "tuple") >>= _) _ _ s
  refine wpAny_bind (wpAny_isInstance hT isSubtype_tuple_tuple ?_)
  simp only [Bool.not_true,Bool.false_eq_true,if_false]
  refine wpAny_bind (wpAny_seqItems ho hd (wpAny_bind ?_))
  show wpAny _ _ (forIn items _ _) _ _ s
  rw [← Array.forIn_toList]
  refine wpAny_forIn_list _ (λrest r s'=>r.1=none/\s'=s/\∃ks,Paired (lE s.heap n) ks rest) _ ?_ ?_ _ _ ⟨rfl,rfl,xs,hi⟩
  ·rintro v rest r s' ⟨hr,rfl,ks,al⟩
   cases al with
   |cons h1 al'=>
    refine wpAny_bind (K8 n h1 ?_)
    simp only [Bool.not_true,Bool.false_eq_true,if_false]
    exact wpAny_pure ⟨rfl,rfl,_,al'⟩
  ·rintro ⟨r1,r2⟩ s' ⟨hr,rfl,_⟩
   simp only at hr
   subst hr
   exact wpAny_pure h
end
noncomputable def ju (pr:Program)(wo:World):HeapKind pr wo (List Kt) where
 is:=λh ks a=>lE h 8 (.t ks) (.ref a)
 hash:=λks=>uw wo (.t ks)
 draws:=λks=>sO (.t ks)
 room:=λA=>A.units+8<cLine
 inj:=λa b=>by have:=Bh _ _ _ _ a b;injection this
 keeps:=λx a b c=>Ao a b c _ _ _ x
 pyHash:=λa b c=>CT 8 a b c
 eqBool:=λ{A E s x y a b Q} h1 h2 h3 h4=>by
  refine Ot 8 A s _ _ _ _ h1 h2 h3 _ _ _ _ ?_
  rw [show decide (Kt.t x=Kt.t y)=decide (x=y) from decide_eq_decide.mpr ⟨λe=>by injection e,λe=>by rw [e]⟩]
  exact h4
 quiet:=λa b=>K8 8 a b
inductive V where
 |non | bl (b:Bool) | int (i:Int) | str (x:Str) | byt (b:Array UInt8) | flt (b:UInt64) | ref (a:Addr) | ty (n:String)
 deriving DecidableEq
def RelV:V->Value->Prop
 | .non,u=>u=Value.none
 | .bl b,u=>u=Value.bool b
 | .int i,u=>∃t,u=Value.int i t
 | .str x,u=>∃t,u=Value.str x t
 | .byt b,u=>∃t,u=Value.bytes b t
 | .flt b,u=>∃t,u=Value.float b t
 | .ref a,u=>u=Value.ref a
 | .ty n,u=>u=Value.type n
abbrev Vals:List V->List Value->Prop:=Paired RelV
theorem Vals.length {xs:List V}{us:List Value}(r:Vals xs us):xs.length=us.length:=Paired.length r
theorem Vals.get:∀{xs:List V} {us:List Value} {i:Nat} {x:V},Vals xs us->xs[i]? = some x->∃u,us[i]? = some u/\RelV x u
 |_,_,_,_,.nil,e=>by simp at e
 |_,_,0,_,.cons r _,e=>by simp at e;subst e;exact ⟨_,rfl,r⟩
 |_,_,i+1,x,.cons _ t,e=>by
  obtain ⟨u,h1,h2⟩:=Vals.get (i:=i) (x:=x) t (by simpa using e)
  exact ⟨u,by simpa using h1,h2⟩
theorem Vals.set {x:V}{u:Value}(r:RelV x u):∀{xs:List V} {us:List Value} (i:Nat),Vals xs us->Vals (xs.set i x) (us.set i u)
 |_,_,_,.nil=>.nil
 |_,_,0,.cons _ t=>.cons r t
 |_,_,i+1,.cons q t=>.cons q (Vals.set r i t)
theorem Vals.append:∀{xs ys:List V} {us ws:List Value},Vals xs us->Vals ys ws->Vals (xs++ys) (us++ws)
 |_,_,_,_,.nil,s=>s
 |_,_,_,_,.cons r t,s=>.cons r (Vals.append t s)
theorem Vals.take:∀{xs:List V} {us:List Value} (n:Nat),Vals xs us->Vals (xs.take n) (us.take n)
 |_,_,0,_=>.nil
 |_,_,_+1,.nil=>.nil
 |_,_,n+1,.cons r t=>.cons r (Vals.take n t)
theorem Vals.drop:∀{xs:List V} {us:List Value} (n:Nat),Vals xs us->Vals (xs.drop n) (us.drop n)
 |_,_,0,r=>r
 |_,_,_+1,.nil=>.nil
 |_,_,n+1,.cons _ t=>Vals.drop n t
def wQ:Option V->Option Value->Prop
 |some v,some u=>RelV v u
 |none,none=>True
 |_,_=>False
def KV {κ:Type}:List (κ×V)->List (κ×Value)->Prop:=Paired λ(p:κ×V) (q:κ×Value)=>p.1=q.1/\RelV p.2 q.2
noncomputable def kV:Key->V
 | .inl i=>.int i
 | .inr x=>.str x
inductive HO where
  |lst (xs:List V)
  |tup (xs:List V)
  |dK (kvs:List (Key×V)) | dT (T:Addr->List V->Prop) (kvs:List (List Kt×V))
  |set (S:Int->Bool) (n:Nat)
  |ins (C dx:Addr) (fs:List (Str×V))
  |own (x:Addr)
  |xd (fs:List (Str×V))
  |met (f x:Addr)
  |rng (lo hi:Int)
  |frz (o:Obj) (u:HO)
  |tbl (ps:Array Value)
  |ext (φ:Heap->Prop)
abbrev Hp:=Addr->Option HO
noncomputable def upd (H:Hp)(a:Addr)(o:HO):Hp:=λb=>if b=a then some o else H b
theorem aW {H:Hp}{a:Addr}{o:HO}:upd H a o a=some o:=by unfold upd;rw [if_pos rfl]
theorem cH {H:Hp}{a b:Addr}{o:HO}(h:b≠a):upd H a o b=H b:=by unfold upd;rw [if_neg h]
theorem QZ {H:Hp}{a b:Addr}{o u:HO}(h:H a=some o)(h':H b=some u)(d:o≠u):a≠b:=by
 intro e;subst e;rw [h] at h';exact d (Option.some.inj h')
theorem jX {H:Hp}{a b:Addr}{o:HO}(h:H a=some o)(h':H b=none):a≠b:=by
 intro e;subst e;rw [h] at h';cases h'
mutual
inductive yw (T:Addr->List V->Prop)(H:Hp):Nat->V->Kt->Prop where
 |k {n:Nat} {x:Key}:yw T H n (kV x) (.k x)
 |t {n:Nat} {b:Addr} {vs:List V} {ks:List Kt}:(H b=some (.tup vs)\/T b vs)->qL T H n vs ks->yw T H (n+1) (.ref b) (.t ks)
inductive qL (T:Addr->List V->Prop)(H:Hp):Nat->List V->List Kt->Prop where
 |nil {n:Nat}:qL T H n [] []
 |cons {n:Nat} {v:V} {vs:List V} {k:Kt} {ks:List Kt}:yw T H n v k->qL T H n vs ks->qL T H n (v::vs) (k::ks)
end
def TrT (T:Addr->List V->Prop)(H:Hp)(b:Addr)(ks:List Kt):Prop:=∃vs,(H b=some (.tup vs)\/T b vs)/\qL T H 7 vs ks
section
variable {T:Addr->List V->Prop}{H H':Hp}
mutual
theorem yw.imp (ht:∀b xs,H b=some (.tup xs)->H' b=some (.tup xs)):∀{n:Nat} {v:V} {k:Kt},yw T H n v k->yw T H' n v k
 |_,_,_,.k=>.k
 |_,_,_,.t h hs=>.t (h.imp (ht _ _) id) (qL.imp ht hs)
theorem qL.imp (ht:∀b xs,H b=some (.tup xs)->H' b=some (.tup xs)):∀{n:Nat} {vs:List V} {ks:List Kt},qL T H n vs ks->qL T H' n vs ks
 |_,_,_,.nil=>.nil
 |_,_,_,.cons h hs=>.cons (yw.imp ht h) (qL.imp ht hs)
end
theorem TrT.imp {b:Addr}{ks:List Kt}(h:TrT T H b ks)(ht:∀b xs,H b=some (.tup xs)->H' b=some (.tup xs)):TrT T H' b ks:=
 let ⟨vs,h1,h2⟩:=h;⟨vs,h1.imp (ht _ _) id,h2.imp ht⟩
end
section
variable (P:Program)(w:World)
def dH (H:Hp)(h:Heap)(a:Addr):HO->Prop
 | .lst xs=>xs.length<=sizeLine/\∃(its:List Value) (n:Nat),Vals xs its/\h.get? a=some { cls:=.type "list",data:=.seq its.toArray n }
 | .tup xs=>xs.length<=sizeLine/\∃its:List Value,Vals xs its/\IsTup h a its.toArray
 | .dK kvs=>kvs.length<=sizeLine/\(a == sysModules)=false/\∃vs,KV kvs vs/\h.DictOf (jf P w) a vs
 | .dT T kvs=>kvs.length<=sizeLine/\(a == sysModules)=false/\∃xs:List (List Kt×Addr×Value),
   Paired (λ(p:List Kt×V) (q:List Kt×Addr×Value)=>p.1=q.1/\TrT T H q.2.1 p.1/\RelV p.2 q.2.2) kvs xs/\
   ∃o es ep,h.get? a=some o/\o.ExactDict/\o.data=.dict es ep/\es.toList=xs.map (entryOfKey (ju P w))/\(xs.map (·.1)).Nodup
 | .set S n=>h.SetOf (intKind P w) a S n
 | .ins C dx fs=>H dx=some (.own a)/\fs.length<=1000/\dx≠a/\h.get? a=some (W.instObj C dx)/\
   ∃mA,h.Ns1 dx mA/\(∀f,wQ (fs.lookup f) (mA f))/\PySem.Within mA (fs.map (·.1))
 | .own _=>∃o,h.get? a=some o
 | .xd fs=>∃mA,h.Ns1 a mA/\∀f,wQ (fs.lookup f) (mA f)
 | .rng lo hi=>∃t u v,h.get? a=some { cls:=.type "range",data:=.fields #[.int lo t,.int hi u,.int 1 v] }
 | .frz o u=>h.get? a=some o/\dH H h a u
 | .tbl ps=>h.get? a=some { cls:=.none,data:=.fields ps }
 | .met f x=>h.get? a=some (W.methodObj (.ref f) (.ref x))
 | .ext φ=>φ h/\(∃o,h.get? a=some o)/\∀h1 h2:Heap,φ h1->(∀o,h1.get? a=some o->h2.get? a=some o)->φ h2
def HOk (H:Hp)(h:Heap):Prop:=∀a o,H a=some o->dH P w H h a o
end
section
variable {P:Program}{w:World}{H H':Hp}{h h':Heap}{a:Addr}{o:HO}
theorem dH.lt (x:dH P w H h a o):a<h.objs.size:=by
 cases o with
 |lst xs=>obtain ⟨_,_,_,_,e⟩:=x;exact Heap.lt_size e
 |tup xs=>obtain ⟨_,_,_,p⟩:=x;exact p.lt
 |dK kvs=>obtain ⟨_,_,_,_,o,_,_,e,_⟩:=x;exact Heap.lt_size e
 |dT T kvs=>obtain ⟨_,_,_,_,o,_,_,e,_⟩:=x;exact Heap.lt_size e
 |set S n=>obtain ⟨o,_,_,_,e,_⟩:=x;exact Heap.lt_size e
 |ins C dx fs=>obtain ⟨_,_,_,e,_⟩:=x;exact Heap.lt_size e
 |own y=>obtain ⟨_,e⟩:=x;exact Heap.lt_size e
 |xd fs=>obtain ⟨_,⟨_,_,_,e,_⟩,_⟩:=x;exact Heap.lt_size e
 |rng lo hi=>obtain ⟨_,_,_,e⟩:=x;exact Heap.lt_size e
 |frz ob u=>obtain ⟨e,_⟩:=x;exact Heap.lt_size e
 |tbl ps=>exact Heap.lt_size (show h.get? a=some _ from x)
 |met f y=>exact Heap.lt_size (show h.get? a=some _ from x)
 |ext φ=>obtain ⟨_,⟨_,e⟩,_⟩:=x;exact Heap.lt_size e
theorem Paired.ZK {α β:Type}{F G:α->β->Prop}:∀{l₁:List α} {l₂:List β},Paired F l₁ l₂->(∀a b,F a b->G a b)->Paired G l₁ l₂
 |_,_,.nil,_=>.nil
 |_,_,.cons r t,f=>.cons (f _ _ r) (Paired.ZK t f)
theorem dH.stay (x:dH P w H h a o)(k:∀b u,(b=a\/H b=some (.own a))->h.get? b=some u->h'.get? b=some u)
  (ho:∀b,H b=some (.own a)->H' b=some (.own a)) (ht:∀b xs,H b=some (.tup xs)->H' b=some (.tup xs)):dH P w H' h' a o:=by
 induction o with
 |lst xs=>obtain ⟨z,its,n,r,e⟩:=x;exact ⟨z,its,n,r,k _ _ (.inl rfl) e⟩
 |tup xs=>obtain ⟨z,its,r,ob,e,c⟩:=x;exact ⟨z,its,r,ob,k _ _ (.inl rfl) e,c⟩
 |dK kvs=>obtain ⟨z,y,vs,r,ob,es,ep,e,c⟩:=x;exact ⟨z,y,vs,r,ob,es,ep,k _ _ (.inl rfl) e,c⟩
 |dT T kvs=>
  obtain ⟨z,y,xs,r,ob,es,ep,e,c⟩:=x
  exact ⟨z,y,xs,Paired.ZK r λp q z=>⟨z.1,z.2.1.imp ht,z.2.2⟩,ob,es,ep,k _ _ (.inl rfl) e,c⟩
 |set S n=>obtain ⟨ob,es,ep,t,e,c⟩:=x;exact ⟨ob,es,ep,t,k _ _ (.inl rfl) e,c⟩
 |ins C dx fs=>
  obtain ⟨d,z,ne,e,mA,⟨od,es,ep,e2,c⟩,r⟩:=x
  exact ⟨ho _ d,z,ne,k _ _ (.inl rfl) e,mA,⟨od,es,ep,k _ _ (.inr d) e2,c⟩,r⟩
 |own y=>obtain ⟨ob,e⟩:=x;exact ⟨ob,k _ _ (.inl rfl) e⟩
 |xd fs=>obtain ⟨mA,⟨od,es,ep,e,c⟩,r⟩:=x;exact ⟨mA,⟨od,es,ep,k _ _ (.inl rfl) e,c⟩,r⟩
 |rng lo hi=>obtain ⟨t,u,v,e⟩:=x;exact ⟨t,u,v,k _ _ (.inl rfl) e⟩
 |frz ob u ih=>obtain ⟨e,q⟩:=x;exact ⟨k _ _ (.inl rfl) e,ih q⟩
 |tbl ps=>
  have e:h.get? a=some { cls:=.none,data:=.fields ps }:=x
  show h'.get? a=some { cls:=.none,data:=.fields ps }
  exact k a _ (.inl rfl) e
 |met f y=>
  have e:h.get? a=some (W.methodObj (.ref f) (.ref y)):=x
  show h'.get? a=some (W.methodObj (.ref f) (.ref y))
  exact k a _ (.inl rfl) e
 |ext φ=>obtain ⟨p,⟨o,e⟩,st⟩:=x;exact ⟨st _ _ p λo q=>k _ _ (.inl rfl) q,⟨o,k _ _ (.inl rfl) e⟩,st⟩
theorem HOk.lt (x:HOk P w H h)(e:H a=some o):a<h.objs.size:=(x a o e).lt
theorem HOk.fresh (x:HOk P w H h)(e:h.objs.size<=a):H a=none:=by
 cases q:H a with
 |none=>rfl
 |some u=>exact absurd (Nat.lt_of_lt_of_le (x.lt q) e) (Nat.lt_irrefl _)
theorem HOk.kept (x:HOk P w H h)(k:∀b u,h.get? b=some u->h'.get? b=some u):HOk P w H h':=λa o e=>
 (x a o e).stay (λb u _ q=>k b u q) (λ_ q=>q) λ_ _ q=>q
theorem HOk.laid (x:HOk P w H h)(k:∀b u,h.get? b=some u->h'.get? b=some u)(hp:h.objs.size<=a)(new:dH P w (upd H a o) h' a o):HOk P w (upd H a o) h':=λb u e=>by
 have hn:=x.fresh hp
 by_cases hb:b=a
 ·subst hb;rw [aW] at e;cases e;exact new
 ·rw [cH hb] at e
  exact (x b u e).stay (λc v _ q=>k c v q) (λc q=>by rw [cH (jX q hn)];exact q) λc xs q=>by rw [cH (jX q hn)];exact q
end
def Rd (H:Hp)(a:Addr)(u:HO):Prop:=H a=some u\/∃o,H a=some (.frz o u)
theorem Rd.ok {P:Program}{w:World}{H:Hp}{h:Heap}{a:Addr}{u:HO}(r:Rd H a u)(x:HOk P w H h):dH P w H h a u:=by
 rcases r with r | ⟨o,r⟩
 ·exact x a u r
 ·obtain ⟨_,q⟩:=x a _ r
  exact q
def Mut:Option HO->Prop
 |some (.lst _)=>True
 |some (.dK _)=>True
 |some (.dT _ _)=>True
 |some (.set _ _)=>True
 |some (.ins _ _ _)=>True
 |some (.ext _)=>True
 |_=>False
section
variable {P:Program}{w:World}{H:Hp}{h h':Heap}{x e:Addr}{o':HO}
theorem HOk.write (ok:HOk P w H h)(mu:Mut (H x))(he:e=x\/H e=some (.own x))(k:∀b u,b≠e->h.get? b=some u->h'.get? b=some u)(heo:∃u,h'.get? e=some u)
  (new:dH P w (upd H x o') h' x o'):HOk P w (upd H x o') h':=λb u q=>by
 have nown:∀c y,H c=some (.own y)->c≠x:=λc y r z=>by subst z;rw [r] at mu;exact mu
 have ntup:∀c xs,H c=some (.tup xs)->c≠x:=λc xs r z=>by subst z;rw [r] at mu;exact mu
 by_cases hb:b=x
 ·subst hb;rw [aW] at q;cases q;exact new
 ·rw [cH hb] at q
  by_cases hbe:b=e
  ·have q':H b=some (.own x):=by
    rcases he with z | z
    ·exact absurd (hbe.trans z) hb
    ·rw [hbe];exact z
   rw [q] at q';cases q'
   obtain ⟨v,hv⟩:=heo
   exact ⟨v,by rw [hbe];exact hv⟩
  ·refine (ok b u q).stay (λc v hc r=>k c v ?_ r) (λc r=>by rw [cH (nown c b r)];exact r) λc xs r=>by rw [cH (ntup c xs r)];exact r
   rcases hc with rfl | hc
   ·exact hbe
   ·rintro rfl
    rcases he with z | z
    ·exact nown c b hc z
    ·rw [hc] at z;cases z;exact hb rfl
end
structure Un (fs ex:List Addr)(H H':Hp)(h h':Heap):Prop where
 keep:∀b o,h.get? b=some o->H b=none->b∉fs->b∉ex->h'.get? b=some o
 slot:∀b o,h.get? b=some o->H b=none->b∈fs->b∉ex->∃sl,h'.get? b=some { o with slots:=sl }
 free:∀b o,h.get? b=some o->H b=none->b∉ex->H' b=none
 there:∀b o,h.get? b=some o->b∉ex->∃o',h'.get? b=some o'
 tups:∀b xs,H b=some (.tup xs)->H' b=some (.tup xs)
 frzs:∀b o u,H b=some (.frz o u)->H' b=some (.frz o u)
 tbls:∀b ps,H b=some (.tbl ps)->∃more,H' b=some (.tbl (ps++more))
section
variable {fs fs' ex ex':List Addr}{H H1 H2:Hp}{h h1 h2 h':Heap}{a x e:Addr}{o:HO}
theorem Un.any (u:Un fs ex H H1 h h1){b:Addr}{ob:Obj}(q:h.get? b=some ob)(n:H b=none)(hx:b∉ex):∃sl,h1.get? b=some { ob with slots:=sl }:=by
 by_cases hb:b∈fs
 ·exact u.slot b ob q n hb hx
 ·exact ⟨ob.slots,u.keep b ob q n hb hx⟩
theorem Un.kept (k:∀b u,h.get? b=some u->h'.get? b=some u):Un fs ex H H h h':=
 ⟨λb ob q _ _ _=>k b ob q,λb ob q _ _ _=>⟨ob.slots,k b ob q⟩,λ_ _ _ n _=>n,λb ob q _=>⟨ob,k b ob q⟩,λ_ _ q=>q,λ_ _ _ q=>q,λ_ ps q=>⟨#[],by rw [q];simp⟩⟩
theorem Un.refl:Un fs ex H H h h:=Un.kept λ_ _ q=>q
theorem Un.laid (k:∀b u,h.get? b=some u->h'.get? b=some u)(hp:h.objs.size<=a)(hn:H a=none):Un fs ex H (upd H a o) h h' where
 keep:=λb u q _ _ _=>k b u q
 slot:=λb u q _ _ _=>⟨u.slots,k b u q⟩
 free:=λb u q n _=>by rw [cH (Nat.ne_of_lt (Nat.lt_of_lt_of_le (Heap.lt_size q) hp))];exact n
 there:=λb u q _=>⟨u,k b u q⟩
 tups:=λb xs q=>by rw [cH (jX q hn)];exact q
 frzs:=λb u xs q=>by rw [cH (jX q hn)];exact q
 tbls:=λb ps q=>⟨#[],by rw [cH (jX q hn),q];simp⟩
theorem Un.write (mu:Mut (H x))(he:e=x\/H e=some (.own x))(k:∀b u,b≠e->h.get? b=some u->h'.get? b=some u)(heo:∃u,h'.get? e=some u):Un fs ex H (upd H x o) h h':=by
 have hx:∀b,H b=none->b≠x:=λb n z=>by subst z;rw [n] at mu;exact mu
 have hb:∀b,H b=none->b≠e:=λb n z=>by
  subst z
  rcases he with r | r
  ·exact hx b n r
  ·rw [n] at r;cases r
 have hm:∀b u,H b=some u->¬Mut (some u)->b≠x:=λb u q nm z=>by subst z;rw [q] at mu;exact nm mu
 refine ⟨λb u q n _ _=>k b u (hb b n) q,λb u q n _ _=>⟨u.slots,k b u (hb b n) q⟩,λb u q n _=>by rw [cH (hx b n)];exact n,λb u q _=>?_,
  λb xs q=>by rw [cH (hm b _ q λz=>z)];exact q,λb u xs q=>by rw [cH (hm b _ q λz=>z)];exact q,λb ps q=>⟨#[],by rw [cH (hm b _ q λz=>z),q];simp⟩⟩
 by_cases hbe:b=e
 ·subst hbe;exact heo
 ·exact ⟨u,k b u hbe q⟩
end
noncomputable def trk (h:Heap)(H:Hp):List Addr:=(List.range h.objs.size).filter λa=>(H a).isSome
noncomputable def Er (h:Heap)(H:Hp):Heap:=W.hideAll h (trk h H)
theorem Pb (h:Heap)(H:Hp):(Er h H).objs.size=h.objs.size:=W.hideAll_size _ _
theorem U4 {h:Heap}{H:Hp}{b:Addr}{o:Obj}(e:h.get? b=some o)(n:H b=none):(Er h H).get? b=some o:=
 W.hideAll_get _ e λhm=>by
  have q:(H b).isSome=true:=(List.mem_filter.mp hm).2
  rw [n] at q;simp at q
theorem Xb {h:Heap}{H:Hp}{b:Addr}{o:Obj}(e:(Er h H).get? b=some o):h.get? b=some o/\H b=none:=by
 have e':h.get? b=some o:=W.of_hideAll (trk h H) e
 refine ⟨e',?_⟩
 cases q:H b with
 |none=>rfl
 |some x=>
  have hm:b∈trk h H:=List.mem_filter.mpr ⟨List.mem_range.mpr (Heap.lt_size e'),by simp [q]⟩
  have z:(Er h H).get? b=none:=W.hideAll_none (trk h H) hm
  rw [z] at e;cases e
noncomputable def Ve (g h:Heap)(L:Addr):Zl:=(List.range h.objs.size).filterMap λa=>if a=L\/(g.get? a).isSome=true then none else (h.get? a).map λo=>(a,o)
noncomputable def rest (g h:Heap)(L d:Addr):Zl:=(Ve g h L).filter λp=>decide (p.1≠d)
structure Mod (K:W.Frag)(mg:Zp)(base:Heap):Prop where
 kin:K.In base
 glob:base.Ns mainGlobals mg
 blt:∃mb,base.Ns builtinsNs mb/\∀x:Str,x≠"__name__"->mb x=bootBuiltins x
 nolimit:base.NoLimit
structure Cx where
 prog:Program
 w:World
 K:W.Frag
 mg:Zp
 base:Heap
 A:Around
 N:List Str
 s₀:Shared
 H₀:Hp
 env:Env
 outer:List Env
 stack:List Env
 ex:List Addr
 fn:Str->Bool
 calm:Bool
 pn:Zl
 xe:Zs
noncomputable def frs (l:List Env):List Addr:=l.filterMap (·.frame)
noncomputable abbrev Cx.fs (X:Cx):List Addr:=frs X.outer
def Vis (sc:Scope)(x:Str):Prop:=sc.names.lookup x=some .local\/sc.names.lookup x=some .cell\/sc.names.lookup x=some .free
def Loc (sc:Scope)(x:Str):Prop:=sc.names.lookup x=some .local\/sc.names.lookup x=some .cell
def Look (env:Env)(h:Heap)(m:Zp)(x:Str)(u:Value):Prop:=
 (env.kindOf x=some .local/\m x=some u)\/((env.kindOf x=some .cell\/env.kindOf x=some .free)/\∃c,env.cells.lookup x=some c/\h.IsCell c (some u))
structure Cx.Ok (X:Cx):Prop where
 mod:Mod X.K X.mg X.base
 kind:X.env.scope.kind=.function
 glob:X.env.globals=mainGlobals
 blt:X.env.builtins=builtinsNs
 above:X.s₀.heap.objs.size<=X.env.locals
 inj:∀x y c,X.env.cells.lookup x=some c->X.env.cells.lookup y=some c->x=y
 has:∀x,(X.env.kindOf x=some .cell\/X.env.kindOf x=some .free)->∃c,X.env.cells.lookup x=some c
 cab:∀x c,X.fn x=true->X.env.cells.lookup x=some c->X.s₀.heap.objs.size<=c
 hd:X.calm=true->X.A.handled=none
 frames:X.A.frames=some X.stack
 stk:X.stack=X.outer\/(X.stack=X.env::X.outer/\X.env.frame=some X.env.locals)
 exf:∀b∈X.ex,b≠X.env.locals/\∀x c,X.env.cells.lookup x=some c->c≠b
 bs:∀b o,X.base.get? b=some o->X.s₀.heap.get? b=some o/\X.H₀ b=none
 bsz:X.base.objs.size<=X.s₀.heap.objs.size
 noex:∀b o,X.base.get? b=some o->b∉X.ex
 exfs:∀b∈X.ex,b∉X.fs
 yE:X.s₀.heap.FunFrames X.base X.outer
 frf:∀b∈X.fs,X.H₀ b=none
structure Inv (X:Cx)(pins:Zl)(σ:List (Option V))(H:Hp)(s:Shared):Prop where
 ok:X.Ok
 os:s.os=X.s₀.os
 bare:AllBare s.gens
 base:Un X.fs X.ex X.H₀ H X.s₀.heap s.heap
 loc:∃m,s.heap.Ns X.env.locals m/\∀(i:Nat) (x:Str) (v:V),X.N[i]? = some x->σ[i]? = some (some v)->Vis X.env.scope x->∃u,RelV v u/\Look X.env s.heap m x u
 cell:∀x c,X.env.cells.lookup x=some c->∃v,s.heap.IsCell c v
 free:H X.env.locals=none
 freeC:∀x c,X.env.cells.lookup x=some c->H c=none
 pin:∀p∈X.pn++pins,s.heap.get? p.1=some p.2/\H p.1=none/\p.1≠X.env.locals/\p.1∉X.fs/\∀v,p.2.data≠.cell v
 hok:HOk X.prog X.w H s.heap
 len:σ.length=X.N.length
section
variable {X:Cx}{pins:Zl}{σ:List (Option V)}{H H':Hp}{s:Shared}{h':Heap}
theorem Cx.Ok.acQ (ok:X.Ok){b:Addr}{o:Obj}(e:X.base.get? b=some o):b∉X.fs:=λhb=>by
 have:=(ok.yE.mem hb).1
 rw [e] at this;cases this
theorem Inv.bs (I:Inv X pins σ H s):∀b o,X.base.get? b=some o->s.heap.get? b=some o/\H b=none:=λb o e=>
 ⟨I.base.keep b o (I.ok.bs b o e).1 (I.ok.bs b o e).2 (I.ok.acQ e) (I.ok.noex b o e),I.base.free b o (I.ok.bs b o e).1 (I.ok.bs b o e).2 (I.ok.noex b o e)⟩
theorem Inv.bk (I:Inv X pins σ H s):∀b o,X.base.get? b=some o->s.heap.get? b=some o:=λb o e=>(I.bs b o e).1
theorem Inv.mod (I:Inv X pins σ H s):Mod X.K X.mg X.base:=I.ok.mod
theorem Inv.kIn (I:Inv X pins σ H s):X.K.In s.heap:=I.ok.mod.kin.keeps I.bk
theorem Inv.nolimit (I:Inv X pins σ H s):s.heap.NoLimit:=I.ok.mod.nolimit.keeps I.bk
theorem Inv.fr (I:Inv X pins σ H s):∃m,Fr X.base X.env.locals s.heap m:=
 let ⟨m,hn,_⟩:=I.loc
 ⟨m,hn,I.bk,Nat.le_trans I.ok.bsz I.ok.above⟩
theorem Inv.lt (I:Inv X pins σ H s):X.env.locals<s.heap.objs.size:=let ⟨_,hn,_⟩:=I.loc;hn.lt
theorem Inv.sz (I:Inv X pins σ H s):X.s₀.heap.objs.size<=s.heap.objs.size:=Nat.le_trans I.ok.above (Nat.le_of_lt I.lt)
theorem Inv.acC (I:Inv X pins σ H s){a:Addr}(h:s.heap.objs.size<=a):a∉X.fs:=λhb=>by
 obtain ⟨_,o,ho,_⟩:=I.ok.yE.mem hb
 exact absurd (Nat.lt_of_lt_of_le (Heap.lt_size ho) (Nat.le_trans I.sz h)) (Nat.lt_irrefl _)
theorem Inv.cne (I:Inv X pins σ H s):∀x c,X.env.cells.lookup x=some c->c≠X.env.locals:=λx c e z=>by
 obtain ⟨v,o,ho,hd⟩:=I.cell x c e
 obtain ⟨m,⟨o',es,ep,ho',hd',_⟩,_⟩:=I.loc
 rw [z,ho'] at ho;cases ho;rw [hd'] at hd;cases hd
theorem Inv.yE (I:Inv X pins σ H s):s.heap.FunFrames X.base X.outer:=by
 have all:∀(l:List Env),(∀b∈frs l,b∈X.fs)->X.s₀.heap.FunFrames X.base l->s.heap.FunFrames X.base l:=by
  intro l
  induction l with
  |nil=>intro _ _;trivial
  |cons env r ih=>
   intro hs hl
   obtain ⟨hk,⟨L,o,hf,hn,ho,hd⟩,hr⟩:=hl
   have hL:L∈X.fs:=hs L (by unfold frs;rw [List.filterMap_cons,hf];exact List.mem_cons_self)
   obtain ⟨sl,e⟩:=I.base.slot L o ho (I.ok.frf L hL) hL λz=>I.ok.exfs L z hL
   exact ⟨hk,⟨L,_,hf,hn,e,hd⟩,ih (λb hb=>hs b (by unfold frs;rw [List.filterMap_cons,hf];exact List.mem_cons_of_mem _ hb)) hr⟩
 exact all X.outer (λ_ hb=>hb) I.ok.yE
theorem Inv.stack (I:Inv X pins σ H s):s.heap.FunFrames X.base X.stack:=by
 rcases I.ok.stk with e | ⟨e,hf⟩
 ·rw [e];exact I.yE
 ·rw [e]
  obtain ⟨m,hn,_⟩:=I.loc
  refine .cons (by rw [I.ok.kind];decide) hf hn ?_ I.yE
  exact Heap.get?_none_of_le (Nat.le_trans I.ok.bsz I.ok.above)
theorem Inv.Ew (I:Inv X pins σ H s):∀b∈frs X.stack,b∈X.env.locals::X.fs:=λb hb=>by
 rcases I.ok.stk with e | ⟨e,hf⟩
 ·rw [e] at hb;exact List.mem_cons_of_mem _ hb
 ·rw [e] at hb
  unfold frs at hb
  rw [List.filterMap_cons,hf] at hb
  exact hb
theorem Inv.K6 (I:Inv X pins σ H s):∀b∈frs X.stack,H b=none:=λb hb=>by
 rcases List.mem_cons.mp (I.Ew b hb) with e | hb
 ·rw [e];exact I.free
 ·obtain ⟨_,o,ho,_⟩:=I.ok.yE.mem hb
  exact I.base.free b o ho (I.ok.frf b hb) λz=>I.ok.exfs b z hb
theorem Inv.step {g':Array GenState}{t':Nat}{d':Drawn}{ch:List Addr}(I:Inv X pins σ H s)
  (hch:∀b∈ch,(b∈X.ex\/X.s₀.heap.objs.size<=b)/\b≠X.env.locals/\(∀x c,X.env.cells.lookup x=some c->c≠b)/\∀p∈X.pn++pins,p.1≠b)
  (keep:∀b o,b≠X.env.locals->b∉X.fs->b∉ch->s.heap.get? b=some o->H b=none->h'.get? b=some o)
  (slot:∀b o,b≠X.env.locals->b∈X.fs->b∉ch->s.heap.get? b=some o->H b=none->∃sl,h'.get? b=some { o with slots:=sl }) (free:∀b o,b∉ch->s.heap.get? b=some o->H b=none->H' b=none)
  (there:∀b o,b∉ch->s.heap.get? b=some o->∃o',h'.get? b=some o')
  (tups:∀b xs,H b=some (.tup xs)->H' b=some (.tup xs)) (frzs:∀b o u,H b=some (.frz o u)->H' b=some (.frz o u)) (tbls:∀b ps,H b=some (.tbl ps)->∃more,H' b=some (.tbl (ps++more)))
  (ns:∀m,s.heap.Ns X.env.locals m->h'.Ns X.env.locals m) (hok:HOk X.prog X.w H' h') (hg:AllBare g'):
  Inv X pins σ H' { s with heap:=h',gens:=g',drawn:=d',toks:=t' }:=by
 have neL:∀b o,X.s₀.heap.get? b=some o->b≠X.env.locals:=λb o e=>Nat.ne_of_lt (Nat.lt_of_lt_of_le (Heap.lt_size e) I.ok.above)
 have neC:∀b o,X.s₀.heap.get? b=some o->b∉X.ex->b∉ch:=λb o e hx hb=>by
  rcases (hch b hb).1 with z | z
  ·exact hx z
  ·exact absurd (Nat.lt_of_lt_of_le (Heap.lt_size e) z) (Nat.lt_irrefl _)
 have cellK:∀x c,X.env.cells.lookup x=some c->∀v,s.heap.IsCell c v->h'.IsCell c v:=λx c e v ⟨o,ho,hd⟩=>by
  have nch:c∉ch:=λz=>(hch c z).2.2.1 x c e rfl
  by_cases hc:c∈X.fs
  ·obtain ⟨sl,q⟩:=slot c o (I.cne x c e) hc nch ho (I.freeC x c e)
   exact ⟨_,q,hd⟩
  ·exact ⟨o,keep c o (I.cne x c e) hc nch ho (I.freeC x c e),hd⟩
 refine ⟨I.ok,I.os,hg,⟨λb o e n hb hx=>?_,λb o e n hb hx=>?_,λb o e n hx=>?_,λb o e hx=>?_,λb xs e=>tups b xs (I.base.tups b xs e),λb o xs e=>frzs b o xs (I.base.frzs b o xs e),λb ps e=>?_⟩,?_,λx c e=>?_,?_,λx c e=>?_,λp hp=>?_,hok,I.len⟩
 ·exact keep b o (neL b o e) hb (neC b o e hx) (I.base.keep b o e n hb hx) (I.base.free b o e n hx)
 ·obtain ⟨sl,e1⟩:=I.base.slot b o e n hb hx
  obtain ⟨sl',e2⟩:=slot b _ (neL b o e) hb (neC b o e hx) e1 (I.base.free b o e n hx)
  exact ⟨sl',e2⟩
 ·obtain ⟨o',e1⟩:=I.base.there b o e hx
  exact free b o' (neC b o e hx) e1 (I.base.free b o e n hx)
 ·obtain ⟨o',e1⟩:=I.base.there b o e hx
  exact there b o' (neC b o e hx) e1
 ·obtain ⟨m1,e1⟩:=I.base.tbls b ps e
  obtain ⟨m2,e2⟩:=tbls b _ e1
  exact ⟨m1++m2,by rw [e2,Array.append_assoc]⟩
 ·obtain ⟨m,hn,hl⟩:=I.loc
  refine ⟨m,ns m hn,λi x v e1 e2 e3=>?_⟩
  obtain ⟨u,r,l⟩:=hl i x v e1 e2 e3
  refine ⟨u,r,?_⟩
  rcases l with l | ⟨k,c,e,z⟩
  ·exact .inl l
  ·exact .inr ⟨k,c,e,cellK x c e _ z⟩
 ·obtain ⟨v,z⟩:=I.cell x c e
  exact ⟨v,cellK x c e v z⟩
 ·obtain ⟨m,⟨o,_,_,ho,_⟩,_⟩:=I.loc
  exact free _ o (λz=>(hch _ z).2.1 rfl) ho I.free
 ·obtain ⟨v,o,ho,hd⟩:=I.cell x c e
  exact free c o (λz=>(hch c z).2.2.1 x c e rfl) ho (I.freeC x c e)
 ·obtain ⟨e,n,ne,nf,d⟩:=I.pin p hp
  have nch:p.1∉ch:=λz=>(hch p.1 z).2.2.2 p hp rfl
  exact ⟨keep p.1 p.2 ne nf nch e n,free p.1 p.2 nch e n,ne,nf,d⟩
theorem Inv.un {t':Nat}(I:Inv X pins σ H s)(u:Un X.fs [] H H' s.heap h')(hok:HOk X.prog X.w H' h'):Inv X pins σ H' { s with heap:=h',toks:=t' }:=by
 obtain ⟨m,⟨o,es,ep,ho,r⟩,_⟩:=id I.loc
 obtain ⟨sl,hL⟩:=u.any ho I.free (by simp)
 exact I.step (g':=s.gens) (d':=s.drawn) (ch:=[]) (λ_ z=>nomatch z) (λb o _ hb _ e n=>u.keep b o e n hb (by simp)) (λb o _ hb _ e n=>u.slot b o e n hb (by simp)) (λb o _ e n=>u.free b o e n (by simp)) (λb o _ e=>u.there b o e (by simp)) u.tups u.frzs u.tbls (λm' hm=>by
  obtain ⟨o',es',ep',ho',r'⟩:=hm
  rw [ho] at ho';cases ho'
  exact ⟨_,es',ep',hL,r'⟩) hok I.bare
theorem Inv.call {g':Array GenState}{t':Nat}{d':Drawn}{ch:List Addr}(I:Inv X pins σ H s)(u:Un (frs X.stack) ch H H' s.heap h')(hok:HOk X.prog X.w H' h')(hg:AllBare g')
  (hch:∀b∈ch,(b∈X.ex\/X.s₀.heap.objs.size<=b)/\b≠X.env.locals/\(∀x c,X.env.cells.lookup x=some c->c≠b)/\∀p∈X.pn++pins,p.1≠b):
  Inv X pins σ H' { s with heap:=h',gens:=g',drawn:=d',toks:=t' }:=by
 obtain ⟨m,⟨o,es,ep,ho,r⟩,_⟩:=id I.loc
 obtain ⟨sl,hL⟩:=u.any ho I.free λz=>(hch _ z).2.1 rfl
 exact I.step (ch:=ch) hch (λb o hL hb hc e n=>u.keep b o e n (λz=>(List.mem_cons.mp (I.Ew b z)).elim hL hb) hc) (λb o _ _ hc e n=>u.any e n hc) (λb o hc e n=>u.free b o e n hc) (λb o hc e=>u.there b o e hc) u.tups u.frzs u.tbls (λm' hm=>by
  obtain ⟨o',es',ep',ho',r'⟩:=hm
  rw [ho] at ho';cases ho'
  exact ⟨_,es',ep',hL,r'⟩) hok hg
theorem Inv.turned {t':Nat}{it:Addr}(I:Inv X pins σ H s)(k:∀b o,b≠it->s.heap.get? b=some o->h'.get? b=some o)(hn:H it=none)(hL:it≠X.env.locals)
  (h1:it∈X.ex\/X.s₀.heap.objs.size<=it) (h2:∀x c,X.env.cells.lookup x=some c->c≠it) (h3:∀p∈X.pn++pins,p.1≠it):Inv X pins σ H { s with heap:=h',toks:=t' }:=by
 have nit:∀b u,H b=some u->b≠it:=λb u e z=>by rw [z,hn] at e;cases e
 refine I.step (g':=s.gens) (d':=s.drawn) (ch:=[it]) (λb hb=>?_) (λb o _ _ hc e _=>k b o (λz=>hc (by simp [z])) e) (λb o _ _ hc e _=>⟨o.slots,k b o (λz=>hc (by simp [z])) e⟩) (λ_ _ _ _ n=>n)
  (λb o hc e=>⟨o,k b o (λz=>hc (by simp [z])) e⟩) (λ_ _ e=>e) (λ_ _ _ e=>e) (λb ps e=>⟨#[],by rw [e];simp⟩) (λm hm=>?_) (λb u e=>?_) I.bare
 ·have e:b=it:=by simpa using hb
  subst e
  exact ⟨h1,hL,h2,h3⟩
 ·obtain ⟨o,es,ep,ho,r⟩:=hm
  exact ⟨o,es,ep,k _ o (Ne.symm hL) ho,r⟩
 ·refine (I.hok b u e).stay (λc v hc q=>k c v ?_ q) (λ_ q=>q) λ_ _ q=>q
  rcases hc with z | z
  ·rw [z];exact nit b u e
  ·exact nit c _ z
theorem Inv.tok (I:Inv X pins σ H s)(t:Nat):Inv X pins σ H { s with toks:=t }:=I.un (h':=s.heap) (t':=t) Un.refl I.hok
theorem Inv.kept {t':Nat}(I:Inv X pins σ H s)(k:∀b u,s.heap.get? b=some u->h'.get? b=some u):Inv X pins σ H { s with heap:=h',toks:=t' }:=I.un (Un.kept k) (I.hok.kept k)
theorem Inv.laid {a:Addr}{o:HO}{t':Nat}(I:Inv X pins σ H s)(k:∀b u,s.heap.get? b=some u->h'.get? b=some u)(hp:s.heap.objs.size<=a)(new:dH X.prog X.w (upd H a o) h' a o):
  Inv X pins σ (upd H a o) { s with heap:=h',toks:=t' }:=I.un (Un.laid k hp (I.hok.fresh hp)) (I.hok.laid k hp new)
theorem Inv.write {x e:Addr}{o:HO}{t':Nat}(I:Inv X pins σ H s)(mu:Mut (H x))(he:e=x\/H e=some (.own x))(k:∀b u,b≠e->s.heap.get? b=some u->h'.get? b=some u)(heo:∃u,h'.get? e=some u)
  (new:dH X.prog X.w (upd H x o) h' x o):Inv X pins σ (upd H x o) { s with heap:=h',toks:=t' }:=I.un (Un.write mu he k heo) (I.hok.write mu he k heo new)
theorem Inv.weak {σ':List (Option V)}(I:Inv X pins σ H s)(hl:σ'.length=σ.length)(w:∀(i:Nat) v,σ'[i]? = some (some v)->σ[i]? = some (some v)):Inv X pins σ' H s:=
 ⟨I.ok,I.os,I.bare,I.base,let ⟨m,hn,hl'⟩:=I.loc;⟨m,hn,λi x v e1 e2 e3=>hl' i x v e1 (w i v e2) e3⟩,I.cell,I.free,I.freeC,I.pin,I.hok,hl.trans I.len⟩
theorem Inv.Oe {pins':Zl}(I:Inv X pins σ H s)(h:∀p∈pins',s.heap.get? p.1=some p.2/\H p.1=none/\p.1≠X.env.locals/\p.1∉X.fs/\∀v,p.2.data≠.cell v):Inv X pins' σ H s:=
 ⟨I.ok,I.os,I.bare,I.base,I.loc,I.cell,I.free,I.freeC,λp hp=>(List.mem_append.mp hp).elim (λz=>I.pin p (List.mem_append_left _ z)) (h p),I.hok,I.len⟩
theorem HD {N:List Str}(hN:N.Nodup){i j:Nat}{x:Str}(a:N[i]? = some x)(b:N[j]? = some x):i=j:=by
 obtain ⟨h1,e1⟩:=List.getElem?_eq_some_iff.mp a
 obtain ⟨h2,e2⟩:=List.getElem?_eq_some_iff.mp b
 exact (List.getElem_inj hN).mp (e1.trans e2.symm)
theorem CJ {M:Model}{A:Around}{E:Zs}{i:Nat}{x:Str}{v:V}{u:Value}{Q:Unit->Shared->Prop}(I:Inv X pins σ H s)(hN:X.N.Nodup)(hi:X.N[i]? = some x)(hx:Loc X.env.scope x)(r:RelV v u)
  (h:∀s',Inv X pins (σ.set i (some v)) H s'->(∃a,Heap.SameBut a s.heap s'.heap/\(a=X.env.locals\/X.env.cells.lookup x=some a))->Q () s') (hf:X.fn x=true\/X.env.scope.names.lookup x=some .local:=by first | exact .inl rfl | exact .inr rfl | assumption):wpAny M A (storeName X.env x u) Q E s:=by
 obtain ⟨m,hn,hl⟩:=id I.loc
 have hcls:(X.env.scope.kind == .class || (X.env.scope.kind == .module && X.env.locals != X.env.globals))=false:=by rw [I.ok.kind];rfl
 have hiσ:i<σ.length:=by rw [I.len];exact (List.getElem?_eq_some_iff.mp hi).1
 have cne:=I.cne
 have tracked:∀{a:Addr} {h':Heap},(∃o,s.heap.get? a=some o/\H a=none)->Heap.SameBut a s.heap h'->HOk X.prog X.w H h':=λ{a h'} ha hs b ob e=>by
  obtain ⟨_,_,hfree⟩:=ha
  refine (I.hok b ob e).stay (λc w' hc q=>(hs.2 c ?_).trans q) (λ_ q=>q) λ_ _ q=>q
  rintro rfl
  rcases hc with rfl | hc
  ·rw [hfree] at e;cases e
  ·rw [hfree] at hc;cases hc
 rcases hx with hk | hk
 ·refine wpAny_storeName_local hk hn (λh' hn' hs=>?_) hcls
  obtain ⟨oL,_,_,hoL,_⟩:=id hn
  refine h _ ⟨I.ok,I.os,I.bare,⟨λb o e n hb hx=>?_,λb o e n hb hx=>?_,I.base.free,λb o e hx=>?_,I.base.tups,I.base.frzs,I.base.tbls⟩,⟨_,hn',λj y v' e1 e2 e3=>?_⟩,λy c e=>?_,I.free,I.freeC,λp hp=>?_,tracked ⟨oL,hoL,I.free⟩ hs,by simpa using I.len⟩ ⟨_,hs,.inl rfl⟩
  ·exact (hs.2 b (Nat.ne_of_lt (Nat.lt_of_lt_of_le (Heap.lt_size e) I.ok.above))).trans (I.base.keep b o e n hb hx)
  ·obtain ⟨sl,e1⟩:=I.base.slot b o e n hb hx
   exact ⟨sl,(hs.2 b (Nat.ne_of_lt (Nat.lt_of_lt_of_le (Heap.lt_size e) I.ok.above))).trans e1⟩
  ·obtain ⟨o',e1⟩:=I.base.there b o e hx
   exact ⟨o',(hs.2 b (Nat.ne_of_lt (Nat.lt_of_lt_of_le (Heap.lt_size e) I.ok.above))).trans e1⟩
  ·by_cases hj:j=i
   ·subst hj
    rw [hi] at e1;cases e1
    rw [List.getElem?_set_self hiσ] at e2
    cases e2
    exact ⟨u,r,.inl ⟨hk,by simp⟩⟩
   ·rw [List.getElem?_set_ne (Ne.symm hj)] at e2
    obtain ⟨u',r',q⟩:=hl j y v' e1 e2 e3
    refine ⟨u',r',?_⟩
    rcases q with ⟨k,e⟩ | ⟨k,c,e,z⟩
    ·refine .inl ⟨k,?_⟩
     have:y≠x:=λe=>hj (HD hN e1 (e ▸ hi))
     simp [this,e]
    ·exact .inr ⟨k,c,e,z.sameBut hs (cne y c e)⟩
  ·obtain ⟨w',z⟩:=I.cell y c e
   exact ⟨w',z.sameBut hs (cne y c e)⟩
  ·obtain ⟨e,n,ne,nf,d⟩:=I.pin p hp
   exact ⟨(hs.2 p.1 ne).trans e,n,ne,nf,d⟩
 ·have hfn:X.fn x=true:=by
   rcases hf with z | z
   ·exact z
   ·rw [z] at hk;cases hk
  obtain ⟨c,hc⟩:=I.ok.has x (.inl hk)
  obtain ⟨w',z⟩:=I.cell x c hc
  refine wpAny_storeName_cell I.ok.kind hk hc z (λh' hc' hs=>?_)
  obtain ⟨oc,hoc,hocd⟩:=id z
  refine h { s with heap:=h' } ⟨I.ok,I.os,I.bare,⟨λb o e n hb hx=>?_,λb o e n hb hx=>?_,I.base.free,λb o e hx=>?_,I.base.tups,I.base.frzs,I.base.tbls⟩,⟨m,hn.sameBut hs (Ne.symm (cne x c hc)),λj y v' e1 e2 e3=>?_⟩,λy c' e=>?_,I.free,I.freeC,λp hp=>?_,tracked ⟨oc,hoc,I.freeC x c hc⟩ hs,by simpa using I.len⟩ ⟨c,hs,.inr hc⟩
  ·exact (hs.2 b (Nat.ne_of_lt (Nat.lt_of_lt_of_le (Heap.lt_size e) (I.ok.cab x c hfn hc)))).trans (I.base.keep b o e n hb hx)
  ·obtain ⟨sl,e1⟩:=I.base.slot b o e n hb hx
   exact ⟨sl,(hs.2 b (Nat.ne_of_lt (Nat.lt_of_lt_of_le (Heap.lt_size e) (I.ok.cab x c hfn hc)))).trans e1⟩
  ·obtain ⟨o',e1⟩:=I.base.there b o e hx
   exact ⟨o',(hs.2 b (Nat.ne_of_lt (Nat.lt_of_lt_of_le (Heap.lt_size e) (I.ok.cab x c hfn hc)))).trans e1⟩
  ·by_cases hj:j=i
   ·subst hj
    rw [hi] at e1;cases e1
    rw [List.getElem?_set_self hiσ] at e2
    cases e2
    exact ⟨u,r,.inr ⟨.inl hk,c,hc,hc'⟩⟩
   ·rw [List.getElem?_set_ne (Ne.symm hj)] at e2
    obtain ⟨u',r',q⟩:=hl j y v' e1 e2 e3
    refine ⟨u',r',?_⟩
    rcases q with q | ⟨k,c',e,z'⟩
    ·exact .inl q
    ·refine .inr ⟨k,c',e,z'.sameBut hs ?_⟩
     rintro rfl
     exact hj (HD hN e1 (I.ok.inj _ _ _ e hc ▸ hi))
  ·by_cases hcc:c'=c
   ·subst hcc;exact ⟨_,hc'⟩
   ·obtain ⟨w2,z2⟩:=I.cell y c' e
    exact ⟨w2,z2.sameBut hs hcc⟩
  ·obtain ⟨e,n,ne,nf,d⟩:=I.pin p hp
   refine ⟨(hs.2 p.1 ?_).trans e,n,ne,nf,d⟩
   intro q
   rw [q,hoc] at e
   have q':oc=p.2:=Option.some.inj e
   exact d w' (by rw [← q'];exact hocd)
theorem vP {M:Model}{A:Around}{E:Zs}{i:Nat}{x:Str}{v:V}{u:Value}{Q:Unit->Shared->Prop}(I:Inv X pins σ H s)(hN:X.N.Nodup)(hi:X.N[i]? = some x)(hx:Loc X.env.scope x)(r:RelV v u)
  (h:∀s',Inv X pins (σ.set i (some v)) H s'->Q () s') (hf:X.fn x=true\/X.env.scope.names.lookup x=some .local:=by first | exact .inl rfl | exact .inr rfl | assumption):wpAny M A (storeName X.env x u) Q E s:=
 CJ I hN hi hx r (λs' I' _=>h s' I') hf
theorem Inv.call' {s':Shared}{ch:List Addr}(I:Inv X pins σ H s)(ho:s'.os=s.os)(u:Un (frs X.stack) ch H H' s.heap s'.heap)(hok:HOk X.prog X.w H' s'.heap)(hg:AllBare s'.gens)
  (hch:∀b∈ch,(b∈X.ex\/X.s₀.heap.objs.size<=b)/\b≠X.env.locals/\(∀x c,X.env.cells.lookup x=some c->c≠b)/\∀p∈X.pn++pins,p.1≠b):Inv X pins σ H' s':=by
 obtain ⟨h',g',d',t',o'⟩:=s'
 have e:o'=s.os:=ho
 subst e
 exact I.call (g':=g') (t':=t') (d':=d') u hok hg hch
end
abbrev XK:=Value->Option Addr->Hp->Prop
abbrev St:=List (Option V)
abbrev VK:=V->Hp->Prop
abbrev TE:=St->Hp->VK->Prop
abbrev TT:=St->Hp->(Bool->Hp->Prop)->Prop
abbrev TA:=St->Hp->(List V->Hp->Prop)->Prop
structure Ends where
 nx:St->Hp->Prop
 rt:VK
 bk:St->Hp->Prop:=λ_ _=>False
 ct:St->Hp->Prop:=λ_ _=>False
abbrev TS:=Ends->St->Hp->Prop
def EP (X:Cx)(pins:Zl)(σ:St)(Q:VK)(u:Value)(s':Shared):Prop:=∃v H',Inv X pins σ H' s'/\RelV v u/\Q v H'
def TP (X:Cx)(pins:Zl)(σ:St)(Q:Bool->Hp->Prop)(b:Bool)(s':Shared):Prop:=∃H',Inv X pins σ H' s'/\Q b H'
def AP (X:Cx)(pins:Zl)(σ:St)(Q:List V->Hp->Prop)(us:List Value)(s':Shared):Prop:=∃vs H',Inv X pins σ H' s'/\Vals vs us/\Q vs H'
def SP (X:Cx)(pins:Zl)(D:Ends)(f:Flow)(s':Shared):Prop:=
 match f with
 | .next=>∃σ' H',Inv X pins σ' H' s'/\D.nx σ' H'
 | .brk=>∃σ' H',Inv X pins σ' H' s'/\D.bk σ' H'
 | .cont=>∃σ' H',Inv X pins σ' H' s'/\D.ct σ' H'
 | .ret u=>∃v σ' H',Inv X pins σ' H' s'/\RelV v u/\D.rt v H'
def PE (X:Cx)(e:Expr)(t:TE):Prop:=
 ∀(pins:Zl) (s:Shared) (σ:St) (H:Hp) (Q:VK),Inv X pins σ H s->t σ H Q->wpAny (model X.prog X.w) X.A (eval e X.env) (EP X pins σ Q) X.xe s
def PT (X:Cx)(e:Expr)(t:TT):Prop:=
 ∀(pins:Zl) (s:Shared) (σ:St) (H:Hp) (Q:Bool->Hp->Prop),Inv X pins σ H s->t σ H Q->wpAny (model X.prog X.w) X.A (isTrue e X.env (eval e X.env)) (TP X pins σ Q) X.xe s
def PW (X:Cx)(e:Expr)(t:TT):Prop:=
 ∀(whole:Sem Value) (pins:Zl) (s:Shared) (σ:St) (H:Hp) (Q:Bool->Hp->Prop),Inv X pins σ H s->t σ H Q->wpAny (model X.prog X.w) X.A (isTrue e X.env whole) (TP X pins σ Q) X.xe s
theorem PW.pt {X:Cx}{e:Expr}{t:TT}(h:PW X e t):PT X e t:=h _
def PA (X:Cx)(es:List Expr)(t:TA):Prop:=
 ∀(pos:Pos) (pins:Zl) (s:Shared) (σ:St) (H:Hp) (Q:List V->Hp->Prop),Inv X pins σ H s->t σ H Q->wpAny (model X.prog X.w) X.A (spliced (backTo pos (starEach es X.env))) (AP X pins σ Q) X.xe s
def PS (X:Cx)(st:Stmt)(t:TS):Prop:=
 ∀(pins:Zl) (s:Shared) (σ:St) (H:Hp) (D:Ends),Inv X pins σ H s->t D σ H->wpAny (model X.prog X.w) X.A (exec st X.env) (SP X pins D) X.xe s
def PSs (X:Cx)(st:List Stmt)(t:TS):Prop:=
 ∀(pins:Zl) (s:Shared) (σ:St) (H:Hp) (D:Ends),Inv X pins σ H s->t D σ H->wpAny (model X.prog X.w) X.A (execs st X.env) (SP X pins D) X.xe s
theorem thn {α:Type}{t:Sem α}{Q Q':α->Shared->Prop}{M:Model}{A:Around}{E:Zs}{s:Shared}(h:wpAny M A t Q E s)(hQ:∀a s,Q a s->Q' a s):wpAny M A t Q' E s:=wpAny_mono h hQ λ_ _ x=>x
section
variable {X:Cx}
theorem bin {a b:Expr}{ta tb:TE}(ha:PE X a ta)(hb:PE X b tb){pins:Zl}{s:Shared}{σ:St}{H:Hp}{R:V->V->Hp->Prop}(I:Inv X pins σ H s)(h:ta σ H λx H1=>tb σ H1 λy H2=>R x y H2)
  {α:Type} {Q:α->Shared->Prop} {f:Value->Value->Sem α}
  (hf:∀v u s2 x y H2,Inv X pins σ H2 s2->RelV x v->RelV y u->R x y H2->wpAny (model X.prog X.w) X.A (f v u) Q X.xe s2):
  wpAny (model X.prog X.w) X.A (eval a X.env) (λv s₁=>wpAny (model X.prog X.w) X.A (eval b X.env) (λu s₂=>wpAny (model X.prog X.w) X.A (f v u) Q X.xe s₂) X.xe s₁) X.xe s:=by
 refine thn (ha pins s σ H _ I h) λv s1 hE=>xq2 hE λx H1 I1 r1 q1=>?_
 refine thn (hb pins s1 σ H1 _ I1 q1) λu s2 hE=>xq2 hE λy H2 I2 r2 q2=>?_
 exact hf v u s2 x y H2 I2 r1 r2 q2
def abm (i:Nat):TE:=λσ H Q=>∃v,σ[i]? = some (some v)/\Q v H
def tC (v:V):TE:=λ_ H Q=>Q v H
theorem jx {i:Nat}{x:Str}{pos:Pos}(hN:X.N[i]? = some x)(hv:Vis X.env.scope x)(hd:(x == ("__debug__" : Str))=false:=by decide)(hcd:(x == ("__classdict__" : Str))=false:=by decide):PE X (.Name x pos) (abm i):=by
 intro pins s σ H Q I h
 obtain ⟨v,e,h⟩:=h
 obtain ⟨m,hn,hl⟩:=I.loc
 obtain ⟨u,r,l⟩:=hl i x v hN e hv
 have fin:EP X pins σ Q u s:=⟨v,H,I,r,h⟩
 rcases l with ⟨hk,hm⟩ | ⟨hk,c,hc,hcell⟩
 ·exact wpAny_Name (wpAny_loadName_local I.ok.kind hk hn hm fin) hd
 ·rcases hk with hk | hk
  ·exact wpAny_Name (wpAny_loadName_cell I.ok.kind hk hc hcell fin) hd
  ·exact wpAny_Name (wpAny_loadName_free I.ok.kind hk hc hcell fin hcd) hd
theorem aay {i j pos}:PE X (.Constant (.int i) j pos) (tC (.int i)):=λ_ _ _ H _ I h=>wpAny_Constant_int ⟨.int i,H,I.tok _,⟨_,rfl⟩,h⟩
theorem aaH {b j pos}:PE X (.Constant (.bool b) j pos) (tC (.bl b)):=λ_ _ _ H _ I h=>Constant_bool ⟨.bl b,H,I,rfl,h⟩
theorem ZX {x j pos}:PE X (.Constant (.str x) j pos) (tC (.str x)):=λ_ _ _ H _ I h=>Calls.Constant_str ⟨.str x,H,I.tok _,⟨_,rfl⟩,h⟩
def Gl (X:Cx)(x:Str):Prop:=X.env.kindOf x=some .globalImplicit
theorem MN {E:Zs}{pins:Zl}{s:Shared}{σ:St}{H:Hp}{x:Str}{u:Value}{pos:Pos}{Q:Zs}(I:Inv X pins σ H s)(hg:Gl X x)(hm:X.mg x=some u)(h:Q u s)
  (hd:(x == ("__debug__" : Str))=false:=by decide):wpAny (model X.prog X.w) X.A (eval (.Name x pos) X.env) Q E s:=
 Calls.Name_function_global I.ok.kind hg (Calls.loadGlobal_global (by rw [I.ok.glob];exact I.mod.glob.keeps I.bk) hm h) hd
theorem o9 {E:Zs}{pins:Zl}{s:Shared}{σ:St}{H:Hp}{x:Str}{u:Value}{pos:Pos}{Q:Zs}(I:Inv X pins σ H s)(hg:Gl X x)(hm:X.mg x=none)(hv:bootBuiltins x=some u)(h:Q u s)
  (hn:x≠"__name__":=by decide) (hd:(x == ("__debug__" : Str))=false:=by decide):wpAny (model X.prog X.w) X.A (eval (.Name x pos) X.env) Q E s:=by
 obtain ⟨mb,h1,h2⟩:=I.mod.blt
 exact Calls.Name_function_global I.ok.kind hg (Calls.loadGlobal_builtin (by rw [I.ok.glob];exact I.mod.glob.keeps I.bk) hm (by rw [I.ok.blt];exact h1.keeps I.bk) ((h2 x hn).trans hv) h) hd
theorem Vh {x:Str}{v:V}{u:Value}{pos:Pos}(hg:Gl X x)(hm:X.mg x=some u)(r:RelV v u)(hd:(x == ("__debug__" : Str))=false:=by decide):PE X (.Name x pos) (tC v):=
 λ_ _ _ H _ I h=>MN I hg hm ⟨v,H,I,r,h⟩ hd
theorem Vg {x:Str}{v:V}{u:Value}{pos:Pos}(hg:Gl X x)(hm:X.mg x=none)(hv:bootBuiltins x=some u)(r:RelV v u)(hn:x≠"__name__":=by decide)(hd:(x == ("__debug__" : Str))=false:=by decide):PE X (.Name x pos) (tC v):=
 λ_ _ _ H _ I h=>o9 I hg hm hv ⟨v,H,I,r,h⟩ hn hd
variable {a b:Expr}{ta tb:TE}{pos:Pos}
def PC (X:Cx)(op:CmpOp)(a b:Expr)(t:TE):Prop:=
 ∀(pins:Zl) (s:Shared) (σ:St) (H:Hp) (Q:VK),Inv X pins σ H s->t σ H Q->
  wpAny (model X.prog X.w) X.A (eval a X.env) (λv s₁=>wpAny (model X.prog X.w) X.A (eval b X.env) (λu s₂=>wpAny (model X.prog X.w) X.A (compareOp op v u) (EP X pins σ Q) X.xe s₂) X.xe s₁) X.xe s
theorem QX (b:Expr){op:CmpOp}(h:op≠.In)(h2:op≠.NotIn):behindInMarks op b=false:=by
 have e1:(op == CmpOp.In)=false:=by cases op<;>first | rfl | exact absurd rfl h
 have e2:(op == CmpOp.NotIn)=false:=by cases op<;>first | rfl | exact absurd rfl h2
 cases b<;>simp [behindInMarks,e1,e2]
def tB (t:TE):TT:=λσ H Q=>t σ H λx H1=>∃c,x=.bl c/\Q c H1
theorem acB {op:CmpOp}{t:TE}(h:PC X op a b t)(h1:behindInMarks op b=false:=by first | exact QX _ (by decide) (by decide) | rfl):PT X (.Compare a [op] [b] pos) (tB t):=by
 intro pins s σ H Q I hw
 refine wpAny_isTrue_Compare1 (thn (h pins s σ H _ I hw) λv s1 h1=>thn h1 λu s2 h2=>thn h2 λc s3 hE=>xq2 hE λx H1 I1 r1 q1=>?_) h1
 obtain ⟨d,rfl,q⟩:=q1
 cases r1
 exact wpAny_truthy_bool ⟨H1,I1,q⟩
theorem Z2 {e:Expr}{t:TE}(h:PE X e t)(he:∀whole,isTrue e X.env whole=(do let v ← whole;standAt e.pos;holding [v] (truthy v)):=by intro _;rfl):PT X e (tB t):=by
 intro pins s σ H Q I hw
 refine isTrue_plain (thn (h pins s σ H _ I hw) λv s1 hE=>xq2 hE λx H1 I1 r1 q1=>?_) (he _)
 obtain ⟨d,rfl,q⟩:=q1
 cases r1
 exact wpAny_truthy_bool ⟨H1,I1,q⟩
variable {tA tB':TT}{rest:List Expr}
def acY (t u:TT):TT:=λσ H Q=>t σ H λc H1=>if c=true then u σ H1 Q else Q false H1
def tOr (t u:TT):TT:=λσ H Q=>t σ H λc H1=>if c=true then Q true H1 else u σ H1 Q
def acq (t:TT):TT:=λσ H Q=>t σ H λc H1=>Q (!c) H1
theorem Vt (ha:PT X a tA):PW X (.BoolOp .And [a] pos) tA:=by
 intro wh pins s σ H Q I h
 refine isTrue_and (thn (ha pins s σ H Q I h) λc s1 e=>?_)
 cases c with
 |true=>exact isTrue_and_nil e
 |false=>exact e
theorem aaj (ha:PT X a tA):PW X (.BoolOp .Or [a] pos) tA:=by
 intro wh pins s σ H Q I h
 refine isTrue_or (thn (ha pins s σ H Q I h) λc s1 e=>?_)
 cases c with
 |false=>exact isTrue_or_nil e
 |true=>exact e
theorem Za (ha:PT X a tA)(hb:PW X (.BoolOp .And (b::rest) pos) tB'):PW X (.BoolOp .And (a::b::rest) pos) (acY tA tB'):=by
 intro wh pins s σ H Q I h
 refine isTrue_and (thn (ha pins s σ H _ I h) λc s1 ⟨H1,I1,q1⟩=>?_)
 cases c with
 |true=>exact hb wh pins s1 σ H1 Q I1 q1
 |false=>exact ⟨H1,I1,q1⟩
theorem abr (ha:PT X a tA)(hb:PW X (.BoolOp .Or (b::rest) pos) tB'):PW X (.BoolOp .Or (a::b::rest) pos) (tOr tA tB'):=by
 intro wh pins s σ H Q I h
 refine isTrue_or (thn (ha pins s σ H _ I h) λc s1 ⟨H1,I1,q1⟩=>?_)
 cases c with
 |true=>exact ⟨H1,I1,q1⟩
 |false=>exact hb wh pins s1 σ H1 Q I1 q1
theorem aaz (ha:PT X a tA):PT X (.UnaryOp .Not a pos) (acq tA):=by
 intro pins s σ H Q I h
 exact isTrue_not (ha pins s σ H (λc H1=>Q (!c) H1) I h)
def aaZ (ta tb:TE):TE:=λσ H Q=>ta σ H λx H1=>∃c,x=.bl c/\if c=true then tb σ H1 Q else Q (.bl false) H1
def abB (ta:TE):TE:=λσ H Q=>ta σ H λx H1=>∃c,x=.bl c/\Q (.bl (!c)) H1
theorem Yz {op}{t:TE}(h:PE X a t):PE X (.BoolOp op [a] pos) t:=λpins s σ H Q I hw=>BoolOp_one (h pins s σ H Q I hw)
theorem ZV (ha:PE X a ta)(hb:PE X (.BoolOp .And (b::rest) pos) tb):PE X (.BoolOp .And (a::b::rest) pos) (aaZ ta tb):=by
 intro pins s σ H Q I h
 refine BoolOp_and (thn (ha pins s σ H _ I h) λv s1 hE=>xq2 hE λx H1 I1 r1 q1=>?_)
 obtain ⟨c,rfl,q1⟩:=q1
 cases r1
 refine wpAny_truthy_bool ?_
 cases c with
 |true=>exact hb pins s1 σ H1 Q I1 q1
 |false=>exact ⟨.bl false,H1,I1,rfl,q1⟩
theorem ZW (ha:PE X a ta):PE X (.UnaryOp .Not a pos) (abB ta):=by
 intro pins s σ H Q I h
 refine UnaryOp_ (thn (ha pins s σ H _ I h) λv s1 hE=>xq2 hE λx H1 I1 r1 q1=>?_)
 obtain ⟨c,rfl,q1⟩:=q1
 cases r1
 exact not_of (wpAny_truthy_bool ⟨.bl (!c),H1,I1,rfl,q1⟩)
end
def SqL (K:W.Frag)(H:Hp)(a:Addr)(xs:List V):Prop:=
 Rd H a (.lst xs) ∨
  ∃(o:Obj) (its:Array Value) (n:Nat),K.lookup a=some o/\o.cls=.type "list"/\o.dict=none/\o.data=.seq its n/\its.size<=sizeLine/\Vals xs its.toList
def SqT (K:W.Frag)(H:Hp)(a:Addr)(xs:List V):Prop:=
 Rd H a (.tup xs) ∨
  ∃(o:Obj) (its:Array Value) (n:Nat),K.lookup a=some o/\o.cls=.type "tuple"/\o.data=.seq its n/\its.size<=sizeLine/\Vals xs its.toList
abbrev KTp (K:W.Frag)(a:Addr)(xs:List V):Prop:=
  ∃(o:Obj) (its:Array Value) (n:Nat),K.lookup a=some o/\o.cls=.type "tuple"/\o.data=.seq its n/\its.size<=sizeLine/\Vals xs its.toList
def SqU (K:W.Frag)(H:Hp)(a:Addr)(xs:List V):Prop:=H a=some (.tup xs)\/KTp K a xs
theorem SqU.sq {K:W.Frag}{H:Hp}{a:Addr}{xs:List V}(h:SqU K H a xs):SqT K H a xs:=h.elim (λe=>.inl (.inl e)) .inr
theorem SqU.of {K:W.Frag}{H:Hp}{a:Addr}{xs:List V}(h:H a=some (.tup xs)):SqU K H a xs:=.inl h
noncomputable def acA:Value->Option V
 | .none=>some .non
 | .bool b=>some (.bl b)
 | .int i _=>some (.int i)
 | .str x _=>some (.str x)
 | .bytes b _=>some (.byt b)
 | .float b _=>some (.flt b)
 | .ref a=>some (.ref a)
 | .type n=>some (.ty n)
 |_=>none
theorem RelV.abs {x:V}{u:Value}(r:RelV x u):acA u=some x:=by
 cases x with
 |non=>cases r;rfl
 |bl _=>cases r;rfl
 |int _=>obtain ⟨t,rfl⟩:=r;rfl
 |str _=>obtain ⟨t,rfl⟩:=r;rfl
 |byt _=>obtain ⟨t,rfl⟩:=r;rfl
 |flt _=>obtain ⟨t,rfl⟩:=r;rfl
 |ref _=>cases r;rfl
 |ty _=>cases r;rfl
theorem RelV.inj {x y:V}{u:Value}(r:RelV x u)(q:RelV y u):x=y:=Option.some.inj (r.abs.symm.trans q.abs)
theorem Vals.inj:∀{xs ys:List V} {us:List Value},Vals xs us->Vals ys us->xs=ys
 |_,_,_,.nil,.nil=>rfl
 |_,_,_,.cons r t,.cons r' t'=>by rw [r.inj r',Vals.inj t t']
section
variable {X:Cx}{pins:Zl}{σ:St}{H:Hp}{s:Shared}{a:Addr}{xs ys:List V}
theorem SqL.of {K:W.Frag}(h:H a=some (.lst xs)):SqL K H a xs:=.inl (.inl h)
theorem Inv.list (I:Inv X pins σ H s)(h:SqL X.K H a xs):∃its:List Value,Vals xs its/\PlainL s.heap a its.toArray/\xs.length<=sizeLine:=by
 rcases h with h | ⟨o,its,n,hk,hc,hd,hs,hz,r⟩
 ·obtain ⟨z,its,n,r,e⟩:=h.ok I.hok
  exact ⟨its,r,⟨_,n,e,rfl,rfl,rfl⟩,z⟩
 ·refine ⟨its.toList,r,⟨o,n,I.kIn a o hk,hc,hd,by simpa using hs⟩,?_⟩
  have e:=r.length
  simp only [Array.length_toList] at e
  omega
theorem Inv.tuple (I:Inv X pins σ H s)(h:SqT X.K H a xs):∃its:List Value,Vals xs its/\IsTup s.heap a its.toArray/\xs.length<=sizeLine:=by
 rcases h with h | ⟨o,its,n,hk,hc,hs,hz,r⟩
 ·obtain ⟨z,its,r,p⟩:=h.ok I.hok
  exact ⟨its,r,p,z⟩
 ·refine ⟨its.toList,r,⟨o,I.kIn a o hk,hc,n,by simpa using hs⟩,?_⟩
  have e:=r.length
  simp only [Array.length_toList] at e
  omega
theorem Inv.Hl (I:Inv X pins σ H s)(h:SqL X.K H a xs)(h':SqL X.K H a ys):xs=ys:=by
 obtain ⟨its,r,⟨o,n,e,_,_,d⟩,_⟩:=I.list h
 obtain ⟨its',r',⟨o',n',e',_,_,d'⟩,_⟩:=I.list h'
 rw [e] at e';cases e'
 rw [d] at d'
 injection d' with d1 _
 have:its=its':=by simpa using congrArg Array.toList d1
 subst this
 exact r.inj r'
theorem Inv.wJ (I:Inv X pins σ H s)(h:SqT X.K H a xs)(h':SqT X.K H a ys):xs=ys:=by
 obtain ⟨its,r,⟨o,e,_,n,d⟩,_⟩:=I.tuple h
 obtain ⟨its',r',⟨o',e',_,n',d'⟩,_⟩:=I.tuple h'
 rw [e] at e';cases e'
 rw [d] at d'
 injection d' with d1 _
 have:its=its':=by simpa using congrArg Array.toList d1
 subst this
 exact r.inj r'
end
section
variable {X:Cx}{pins:Zl}{σ:St}{H:Hp}{s:Shared}{E:Zs}
end
section
variable {X:Cx}{st:Stmt}{rest:List Stmt}{t u:TS}{e:Expr}{te:TE}{pos:Pos}
def aa3:TS:=λD σ H=>D.nx σ H
def aaU (t u:TS):TS:=λD σ H=>t { D with nx:=u D } σ H
theorem VD:PSs X [] aa3:=λ_ _ σ H _ I h=>wpAny_execs_nil ⟨σ,H,I,h⟩
theorem Ak (h1:PS X st t)(h2:PSs X rest u):PSs X (st::rest) (aaU t u):=by
 intro pins s σ H D I h
 refine wpAny_execs_cons (thn (h1 pins s σ H { D with nx:=u D } I h) λf s1 q=>?_)
 cases f with
 |next=>
  obtain ⟨σ',H',I',q⟩:=q
  exact h2 pins s1 σ' H' D I' q
 |ret v=>exact q
 |brk=>exact q
 |cont=>exact q
theorem We (h1:PS X st t):PSs X [st] t:=by
 intro pins s σ H D I h
 refine wpAny_execs_cons (thn (h1 pins s σ H D I h) λf s1 q=>?_)
 cases f with
 |next=>exact wpAny_execs_nil q
 |ret v=>exact q
 |brk=>exact q
 |cont=>exact q
theorem Inv.quiet {pins:Zl}{σ:St}{H:Hp}{s:Shared}(I:Inv X pins σ H s):interactive X.env=false:=by simp [interactive,I.ok.kind]
def aaP (te:TE):TS:=λD σ H=>te σ H λ_ H1=>D.nx σ H1
theorem vL (he:PE X e te)(hs:swapsWith e none pos.line X.env=pure false:=by rfl):PS X (.Expr e pos) (aaP te):=by
 intro pins s σ H D I h
 exact wpAny_Expr_any (thn (he pins s σ H _ I h) λv s1 hE=>xq2 hE λx H1 I1 r1 q1=>⟨σ,H1,I1,q1⟩) I.quiet hs
def acV (te:TE):TS:=λD σ H=>te σ H D.rt
theorem DX (he:PE X e te):PS X (.Return (some e) pos) (acV te):=by
 intro pins s σ H D I h
 exact wpAny_Return_some (thn (he pins s σ H _ I h) λv s1 hE=>xq2 hE λx H1 I1 r1 q1=>⟨x,σ,H1,I1,r1,q1⟩)
def acn (c:TT)(t u:TS):TS:=λD σ H=>c σ H λb H1=>if b=true then t D σ H1 else u D σ H1
theorem abv {c:Expr}{a b:List Stmt}{tc:TT}(hc:PT X c tc)(ha:PSs X a t)(hb:PSs X b u):PS X (.If c a b pos) (acn tc t u):=by
 intro pins s σ H D I h
 refine wpAny_If (thn (hc pins s σ H _ I h) λd s1 ⟨H1,I1,q1⟩=>?_)
 cases d with
 |true=>exact ha pins s1 σ H1 D I1 q1
 |false=>exact hb pins s1 σ H1 D I1 q1
end
abbrev TG:=V->St->Hp->(St->Hp->Prop)->Prop
abbrev TGs:=List V->St->Hp->(St->Hp->Prop)->Prop
def PG (X:Cx)(target:Expr)(t:TG):Prop:=
 ∀(pins:Zl) (s:Shared) (σ:St) (H:Hp) (v:V) (u:Value) (Q:St->Hp->Prop),Inv X pins σ H s->RelV v u->t v σ H Q->
  wpAny (model X.prog X.w) X.A (assign target X.env u) (λ_ s'=>∃σ' H',Inv X pins σ' H' s'/\Q σ' H') X.xe s
def PGs (X:Cx)(ts:List Expr)(t:TGs):Prop:=
 ∀(pins:Zl) (s:Shared) (σ:St) (H:Hp) (vs:List V) (us:List Value) (Q:St->Hp->Prop),Inv X pins σ H s->Vals vs us->t vs σ H Q->
  wpAny (model X.prog X.w) X.A (assignInOrder ((assignEach ts X.env).map (·.2)) us) (λ_ s'=>∃σ' H',Inv X pins σ' H' s'/\Q σ' H') X.xe s
abbrev aau:=V->V->V->Hp->(Hp->Prop)->Prop
def aaN (X:Cx)(t:aau):Prop:=
 ∀(pins:Zl) (s:Shared) (σ:St) (H:Hp) (o i v:V) (ov iv u:Value) (Q:Hp->Prop),Inv X pins σ H s->RelV o ov->RelV i iv->RelV v u->t o i v H Q->
  wpAny (model X.prog X.w) X.A (setItem ov iv u) (λ_ s'=>∃H',Inv X pins σ H' s'/\Q H') X.xe s
section
variable {X:Cx}{pos:Pos}
def Ad (i:Nat):TG:=λv σ H Q=>Q (σ.set i (some v)) H
theorem WN {i:Nat}{x:Str}(hN:X.N.Nodup)(hi:X.N[i]? = some x)(hx:Loc X.env.scope x)(hf:X.fn x=true\/X.env.scope.names.lookup x=some .local:=by first | exact .inl rfl | exact .inr rfl | assumption):PG X (.Name x pos) (Ad i):=by
 intro pins s σ H v u Q I r h
 exact wpAny_assign_Name (vP I hN hi hx r (λs' I'=>⟨_,H,I',h⟩) hf)
def acy:TGs:=λvs σ H Q=>vs=[]/\Q σ H
def abJ (t:TG)(u:TGs):TGs:=λvs σ H Q=>∃v r,vs=v::r/\t v σ H λσ' H'=>u r σ' H' Q
theorem Vj:PGs X [] acy:=by
 intro pins s σ H vs us Q I r h
 obtain ⟨e,h⟩:=h
 subst e
 cases r
 exact assignInOrder_nil ⟨σ,H,I,h⟩
theorem Tn {e:Expr}{es:List Expr}{t:TG}{u:TGs}(h1:PG X e t)(h2:PGs X es u)
  (hs:(assignEach (e::es) X.env).map (·.2)=assign e X.env::(assignEach es X.env).map (·.2):=by rfl):PGs X (e::es) (abJ t u):=by
 intro pins s σ H vs us Q I r h
 obtain ⟨v,vr,e1,h⟩:=h
 subst e1
 cases r with
 |cons r rr=>
  rw [hs]
  refine assignInOrder_cons (thn (h1 pins s σ H _ _ _ I r h) λ_ s1 ⟨σ1,H1,I1,q1⟩=>?_)
  exact h2 pins s1 σ1 H1 _ _ Q I1 rr q1
def acv (K:W.Frag)(n:Nat)(t:TGs):TG:=λv σ H Q=>∃a xs,v=.ref a/\SqT K H a xs/\xs.length=n/\t xs σ H Q
theorem YF {es:List Expr}{k:Nat}{t:TGs}{n:Nat}(hc:X.calm=true)(h:PGs X es t)
  (hn:(assignEach es X.env).length=n:=by rfl) (hst:(assignEach es X.env).findIdx? (·.1)=none:=by rfl):PG X (.Tuple es k pos) (acv X.K n t):=by
 intro pins s σ H v u Q I r hw
 obtain ⟨a,xs,e1,hq,hl,hw⟩:=hw
 subst e1
 cases r
 obtain ⟨its,rv,ht,hz⟩:=I.tuple hq
 refine assign_Tuple_tuple (I.ok.hd hc) ht (by simp [hn,← hl,rv.length]) hst λh' hx=>?_
 have I1:Inv X pins σ H { s with heap:=h' }:=I.kept (t':=s.toks) λb o e=>hx b o (Nat.ne_of_lt (Heap.lt_size e)) e
 exact h pins _ σ H xs _ Q I1 (by simpa using rv) hw
noncomputable def dB (to ti:TE)(t:aau):TG:=λv σ H Q=>to σ H λo H1=>ti σ H1 λi H2=>t o i v H2 λH3=>Q σ H3
theorem Tg {o i:Expr}{to ti:TE}{t:aau}(ho:PE X o to)(hi:PE X i ti)(hs:aaN X t)
  (ha:∀v,assign (.Subscript o i pos) X.env v=(do
   let ov ← holding [v] (eval o X.env)
   let iv ← holding [v,ov] (eval i X.env)
   standAt pos
   holding [v,ov,iv] (setItem ov iv v)
   release [v,ov,iv] []):=by intro _;rfl):PG X (.Subscript o i pos) (dB to ti t):=by
 intro pins s σ H v u Q I r h
 rw [ha]
 refine wpAny_bind (wpAny_holding (thn (ho pins s σ H _ I h) λov s1 hE=>xq2 hE λx H1 I1 r1 q1=>?_))
 refine wpAny_bind (wpAny_holding (thn (hi pins s1 σ H1 _ I1 q1) λiv s2 hE=>xq2 hE λy H2 I2 r2 q2=>?_))
 refine wpAny_bind (wpAny_standAt (wpAny_bind (wpAny_holding (thn (hs pins s2 σ H2 x y v ov iv u _ I2 r1 r2 r q2) λ_ s3 ⟨H3,I3,q3⟩=>?_))))
 exact wpAny_release ⟨σ,H3,I3,q3⟩
def Rh (te:TE)(g:TG):TS:=λD σ H=>te σ H λx H1=>g x σ H1 D.nx
theorem Gu {tg e:Expr}{te:TE}{g:TG}(he:PE X e te)(hg:PG X tg g)(hs:swapsWithSole [tg] e pos.line X.env=pure false:=by rfl)(hw:swappedStores [tg] e X.env=pure none:=by rfl)
  (h1:(assignEach [tg] X.env).map (·.2)=[assign tg X.env]:=by rfl):PS X (.Assign [tg] e pos) (Rh te g):=by
 intro pins s σ H D I h
 refine wpAny_Assign_stores (thn (he pins s σ H _ I h) λv s1 hE=>xq2 hE λx H1 I1 r1 q1=>?_) hs hw
 rw [h1]
 exact thn (hg pins s1 σ H1 x v _ I1 r1 q1) λ_ s2 q=>q
theorem xG {i:Nat}{x:Str}{e:Expr}{te:TE}{pos':Pos}(hN:X.N.Nodup)(hi:X.N[i]? = some x)(hx:Loc X.env.scope x)(he:PE X e te)(hs:swapsWith e (some (.Name x pos')) pos.line X.env=pure false:=by rfl)(hf:X.fn x=true\/X.env.scope.names.lookup x=some .local:=by first | exact .inl rfl | exact .inr rfl | assumption):
  PS X (.Assign [.Name x pos'] e pos) (Rh te (Ad i)):=by
 intro pins s σ H D I h
 refine wpAny_Assign_Name (thn (he pins s σ H _ I h) λv s1 hE=>xq2 hE λy H1 I1 r1 q1=>?_) hs
 exact vP I1 hN hi hx r1 (λs2 I2=>⟨_,H1,I2,q1⟩) hf
def acM (i j:Nat)(ta:TA):TS:=λD σ H=>ta σ H λvs H1=>∃v w,vs=[v,w]/\D.nx ((σ.set i (some v)).set j (some w)) H1
theorem aaC {i j:Nat}{x y:Str}{a b:Expr}{ta:TA}{px py pt:Pos}{kt k2 pt2}(hc:X.calm=true)(hN:X.N.Nodup)(hi:X.N[i]? = some x)(hj:X.N[j]? = some y)(hij:i≠j)
  (hx:X.env.scope.names.lookup x=some .local) (hy:X.env.scope.names.lookup y=some .local) (ha:PA X [a,b] ta)
  (hw:swappedStores [.Tuple [.Name x px,.Name y py] kt pt] (.Tuple [a,b] k2 pt2) X.env=pure (some [x,y]))
  (hs:swapsWithSole [.Tuple [.Name x px,.Name y py] kt pt] (.Tuple [a,b] k2 pt2) pos.line X.env=pure false:=by rfl):
  PS X (.Assign [.Tuple [.Name x px,.Name y py] kt pt] (.Tuple [a,b] k2 pt2) pos) (acM i j ta):=by
 intro pins s σ H D I h
 rw [exec_Assign_arm]
 refine wpAny_bind (wpAny_standAt ?_)
 rw [hs]
 refine wpAny_bind (wpAny_pure ?_)
 rw [if_neg (by decide)]
 refine wpAny_bind (Tuple_ (thn (ha _ pins s σ H _ I h) λus s1 hE=>xq2 hE λvs H1 I1 r1 q1=>?_))
 obtain ⟨v,w,e1,q1⟩:=q1
 subst e1
 obtain ⟨u1,u2,rfl,rv,rw'⟩:∃u1 u2,us=[u1,u2]/\RelV v u1/\RelV w u2:=by
  cases r1 with
  |cons p q=>
   cases q with
   |cons p' q'=>
    cases q'
    exact ⟨_,_,rfl,p,p'⟩
 refine wpAny_newObj_type ?_ (by show 2<=sizeLine;decide)
 have I2:Inv X pins σ H1 { s1 with heap:=s1.heap.push { cls:=.type "tuple",data:=.seq [u1,u2].toArray } }:=I1.kept (t':=s1.toks) λb o e=>Heap.get?_push_of_some _ e
 rw [hw]
 refine wpAny_bind (wpAny_pure ?_)
 show wpAny (model X.prog X.w) X.A (do rule "assign.swapped-stores";let items ← unpackItems (.ref s1.heap.objs.size) 2 none;assignInOrder [λv=>bindName X.env y v,λv=>bindName X.env x v] items.reverse;pure Flow.next) _ _ _
 refine wpAny_bind (wpAny_rule (wpAny_bind (unpackItems_tuple (items:=#[u1,u2]) (I.ok.hd hc) (IsTup.new s1.heap _) λh' hx'=>?_)))
 have I3:=I2.kept (h':=h') (t':=s1.toks) λb o e=>hx' b o (Nat.ne_of_lt (Heap.lt_size e)) e
 show wpAny _ _ (assignInOrder [λv=>bindName X.env y v,λv=>bindName X.env x v] [u2,u1] >>= λ_=>pure Flow.next) _ _ _
 refine wpAny_bind (assignInOrder_cons (wpAny_bindName (vP I3 hN hj (.inl hy) rw' (λs2 I4=>?_) (.inr hy))))
 refine assignInOrder_cons (wpAny_bindName (vP I4 hN hi (.inl hx) rv (λs3 I5=>assignInOrder_nil (wpAny_pure ?_)) (.inr hx)))
 rw [List.set_comm _ _ (Ne.symm hij)] at I5
 exact ⟨_,H1,I5,q1⟩
end
section
variable {X:Cx}{pos:Pos}
def ZJ (c:TT)(tb:TS):TS:=λD σ H=>∃W:Nat->St->Hp->Prop,(∃m,W m σ H)/\∀m σ H,W m σ H->
 c σ H λb H1=>if b=true then ∃N:St->Hp->Prop,(∀σ' H',N σ' H'->∃m',m'<m/\W m' σ' H')/\tb { D with nx:=N,ct:=N,bk:=D.nx } σ H1 else D.nx σ H1
theorem Ui {c:Expr}{body:List Stmt}{tc:TT}{tb:TS}(hp:PassesOwn (model X.prog X.w) X.A X.env X.xe)(hc:PT X c tc)(hb:PSs X body tb):PS X (.While c body [] pos) (ZJ tc tb):=by
 intro pins s σ H D I h
 obtain ⟨W,⟨m0,w0⟩,turn⟩:=h
 refine wpAny_While (codeAny_whileLoop (λn s'=>∃σ' H',Inv X pins σ' H' s'/\W n σ' H') ?_ m0 ⟨σ,H,I,w0⟩)
 rintro n s1 ⟨σ1,H1,I1,w1⟩
 refine wpAny_passesOwn hp (thn (hc pins s1 σ1 H1 _ I1 (turn n σ1 H1 w1)) λb s2 ⟨H2,I2,q2⟩=>?_)
 cases b with
 |true=>
  obtain ⟨N,hN,q2⟩:=q2
  rw [if_pos rfl]
  refine wpAny_passesOwn hp (thn (hb pins s2 σ1 H2 _ I2 q2) λf s3 q3=>?_)
  cases f with
  |next=>
   obtain ⟨σ3,H3,I3,n3⟩:=q3
   obtain ⟨m',hm,w3⟩:=hN σ3 H3 n3
   exact ⟨m',hm,σ3,H3,I3,w3⟩
  |cont=>
   obtain ⟨σ3,H3,I3,n3⟩:=q3
   obtain ⟨m',hm,w3⟩:=hN σ3 H3 n3
   exact ⟨m',hm,σ3,H3,I3,w3⟩
  |brk=>exact q3
  |ret v=>exact q3
 |false=>
  rw [if_neg Bool.false_ne_true]
  exact wpAny_execs_nil ⟨σ1,H2,I2,q2⟩
end
structure It where
 go:Nat->Hp->Prop
 yld:Nat->Hp->V->Hp->Prop
 stop:Nat->Hp->Prop
def tU (X:Cx)(pins:Zl)(H:Hp)(b:Addr):Prop:=
 H b=none/\b≠X.env.locals/\b∉X.fs/\(b∈X.ex\/X.s₀.heap.objs.size<=b)/\(∀x c,X.env.cells.lookup x=some c->c≠b)/\∀p∈X.pn++pins,p.1≠b
theorem Inv.O9 {X:Cx}{pins:Zl}{σ:St}{H H':Hp}{s:Shared}{b:Addr}(I:Inv X pins σ H s)(hb:s.heap.objs.size<=b)(hn:H' b=none):tU X pins H' b:=by
 refine ⟨hn,Nat.ne_of_gt (Nat.lt_of_lt_of_le I.lt hb),I.acC hb,.inr (Nat.le_trans I.sz hb),λx c e z=>?_,λp hp z=>?_⟩
 ·obtain ⟨v,q⟩:=I.cell x c e
  exact absurd (Nat.lt_of_lt_of_le q.lt (by rw [z];exact hb)) (Nat.lt_irrefl _)
 ·exact absurd (Nat.lt_of_lt_of_le (Heap.lt_size (I.pin p hp).1) (by rw [z];exact hb)) (Nat.lt_irrefl _)
structure Turn (P:Program)(w:World)(K:W.Frag)(tg:Expr)(J:It)(fp:List Addr)(it:Addr)(tn:Nat->Heap->Prop):Prop where
 mem:it∈fp
 obj:∀i h,tn i h->∀b∈fp,∃o,h.get? b=some o/\∀v,o.data≠.cell v
 keep:∀i h h',tn i h->(∀b∈fp,∀o,h.get? b=some o->h'.get? b=some o)->tn i h'
 item:∀(X:Cx),X.prog=P->X.w=w->X.K=K->X.calm=true->∀(i:Nat) (pins:Zl) (s:Shared) (σ:St) (H:Hp) (E:Zs),Inv X pins σ H s->(∀b∈fp,tU X pins H b)->tn i s.heap->J.go i H->
  wpAny (model P w) X.A (pyNext (.ref it)) (λr s1=>∃u,r=some u/\
   wpAny (model P w) X.A (letOwnedTupleGo tg (.ref it) u) (λ_ s2=>∃x H',Inv X pins σ H' s2/\RelV x u/\J.yld i H x H'/\tn (i+1) s2.heap/\∀b∈fp,H' b=none) E s1) E s
 done:∀(X:Cx),X.prog=P->X.w=w->X.K=K->X.calm=true->∀(i:Nat) (pins:Zl) (s:Shared) (σ:St) (H:Hp) (E:Zs),Inv X pins σ H s->(∀b∈fp,tU X pins H b)->tn i s.heap->J.stop i H->
  wpAny (model P w) X.A (pyNext (.ref it)) (λr s1=>r=none/\Inv X pins σ H s1) E s
 self:∀(A:Around) (i:Nat) (s:Shared) (Q:Zs) (E:Zs),tn i s.heap->Q (.ref it) s->wpAny (model P w) A (pyIter (.ref it)) Q E s
abbrev TI:=St->Hp->(It->Hp->Prop)->Prop
def PIE (X:Cx)(pins:Zl)(σ:St)(tg:Expr)(R:It->Hp->Prop)(itv:Value)(s2:Shared):Prop:=
 ∃(it:Addr) (fp:List Addr) (tn:Nat->Heap->Prop) (J:It) (H':Hp),itv=.ref it/\Inv X pins σ H' s2/\Turn X.prog X.w X.K tg J fp it tn/\tn 0 s2.heap/\(∀b∈fp,tU X pins H' b)/\R J H'
def PI (X:Cx)(tg iter:Expr)(wi:TI):Prop:=
 ∀(pins:Zl) (s:Shared) (σ:St) (H:Hp) (R:It->Hp->Prop),Inv X pins σ H s->wi σ H R->
  wpAny (model X.prog X.w) X.A (eval iter X.env) (λv s1=>wpAny (model X.prog X.w) X.A (pyIter v) (PIE X pins σ tg R) X.xe s1) X.xe s
theorem Oc {M : Model} {A : Around} {E : Value → Shared → Prop} {s : Shared} {tg : Expr} {it : Addr} {u : Value} {o : Obj} {n : String} {vs : Array Value} {Q : Unit → Shared → Prop} (ho : s.heap.get? it = some o) (hc : o.cls = .type n) (hd : o.data = .fields vs)
    (hn : ["enumerate", "zip", "dict_itemiterator", "dict_reverseitemiterator", "odict_iterator", "itertools.zip_longest", "itertools.pairwise"].contains n = false) (hQ : Q () s) : wpAny M A (letOwnedTupleGo tg (.ref it) u) Q E s := by
  unfold letOwnedTupleGo
  cases tg<;>first
    | exact wpAny_pure hQ
    | (cases u<;>first
        | exact wpAny_pure hQ
        | (refine wpAny_bind (wpAny_load ho ?_)
           rw [hc, hd]
           show wpAny M A (if (["enumerate", "zip", "dict_itemiterator", "dict_reverseitemiterator", "odict_iterator", "itertools.zip_longest", "itertools.pairwise"].contains n && vs[0]? == some (rawInt _)) = true then _ else _) Q E s
           rw [if_neg (by intro h;rw [hn, Bool.false_and] at h;cases h)]
           exact wpAny_pure hQ))
noncomputable def Itl (K:W.Frag)(a:Addr):It:=
 ⟨λi H=>∃xs x,SqL K H a xs/\xs[i]? = some x,λi H x H'=>H'=H/\∀xs,SqL K H a xs->xs[i]? = some x,λi H=>∃xs,SqL K H a xs/\xs.length<=i⟩
noncomputable def Itt (K:W.Frag)(a:Addr):It:=
 ⟨λi H=>∃xs x,SqT K H a xs/\xs[i]? = some x,λi H x H'=>H'=H/\∀xs,SqT K H a xs->xs[i]? = some x,λi H=>∃xs,SqT K H a xs/\xs.length<=i⟩
noncomputable def Itr (lo:Int)(n:Nat):It:=⟨λi _=>i<n,λi H x H'=>H'=H/\x=.int (lo+i),λi _=>n<=i⟩
theorem Pq {P:Program}{w:World}{K:W.Frag}{tg:Expr}(a it:Addr):Turn P w K tg (Itl K a) [it] it (λi h=>h.IsListIter it a i) where
 mem:=by simp
 obj:=λi h st b hb=>by
  have e:b=it:=by simpa using hb
  subst e
  obtain ⟨o,e,c,d⟩:=st
  exact ⟨o,e,λv z=>by rw [d] at z;cases z⟩
 keep:=λi h h' st k=>st.at λo e=>k it (by simp) o e
 item:=by
  intro X hP hw hK hc i pins s σ H E I hf st hg
  subst hP hw hK
  obtain ⟨xs,x,hq,hx⟩:=hg
  obtain ⟨its,rv,p,hz⟩:=I.list hq
  obtain ⟨u,hu,ru⟩:=rv.get hx
  obtain ⟨f0,f1,f2,f3,f4,f5⟩:=hf it (by simp)
  refine wpAny_pyNext_list_item st p.isList (x:=u) (by simpa using hu) λh' st' sb=>?_
  have I1:Inv X pins σ H { s with heap:=h' }:=I.turned (t':=s.toks) (λb o hb e=>(sb.2 b hb).trans e) f0 f1 f3 f4 f5
  obtain ⟨o,e,c,d⟩:=id st'
  exact ⟨u,rfl,Oc (s:={ s with heap:=h' }) e c d (by decide) ⟨x,H,I1,ru,⟨rfl,λys hy=>by rw [I.Hl hy hq];exact hx⟩,st',λb hb=>(hf b hb).1⟩⟩
 done:=by
  intro X hP hw hK hc i pins s σ H E I hf st hg
  subst hP hw hK
  obtain ⟨xs,hq,hx⟩:=hg
  obtain ⟨its,rv,p,hz⟩:=I.list hq
  obtain ⟨f0,f1,f2,f3,f4,f5⟩:=hf it (by simp)
  have hl:=rv.length
  exact wpAny_pyNext_list_end (I.ok.hd hc) st p.isList (by simp;omega) λh' eb=>⟨rfl,I.turned (t':=s.toks) (λb o hb e=>eb b o hb e) f0 f1 f3 f4 f5⟩
 self:=λ_ _ _ _ _ st h=>wpAny_pyIter_listiter st h
theorem Ju {P:Program}{w:World}{K:W.Frag}{tg:Expr}(a it:Addr):Turn P w K tg (Itt K a) [it] it (λi h=>h.IsTupleIter it a i) where
 mem:=by simp
 obj:=λi h st b hb=>by
  have e:b=it:=by simpa using hb
  subst e
  obtain ⟨o,e,c,d⟩:=st
  exact ⟨o,e,λv z=>by rw [d] at z;cases z⟩
 keep:=λi h h' st k=>st.at λo e=>k it (by simp) o e
 item:=by
  intro X hP hw hK hc i pins s σ H E I hf st hg
  subst hP hw hK
  obtain ⟨xs,x,hq,hx⟩:=hg
  obtain ⟨its,rv,p,hz⟩:=I.tuple hq
  obtain ⟨u,hu,ru⟩:=rv.get hx
  obtain ⟨f0,f1,f2,f3,f4,f5⟩:=hf it (by simp)
  refine wpAny_pyNext_tuple_item st (show s.heap.IsTuple a its.toArray from p) (x:=u) (by simpa using hu) λh' st' sb=>?_
  have I1:Inv X pins σ H { s with heap:=h' }:=I.turned (t':=s.toks) (λb o hb e=>(sb.2 b hb).trans e) f0 f1 f3 f4 f5
  obtain ⟨o,e,c,d⟩:=id st'
  exact ⟨u,rfl,Oc (s:={ s with heap:=h' }) e c d (by decide) ⟨x,H,I1,ru,⟨rfl,λys hy=>by rw [I.wJ hy hq];exact hx⟩,st',λb hb=>(hf b hb).1⟩⟩
 done:=by
  intro X hP hw hK hc i pins s σ H E I hf st hg
  subst hP hw hK
  obtain ⟨xs,hq,hx⟩:=hg
  obtain ⟨its,rv,p,hz⟩:=I.tuple hq
  obtain ⟨f0,f1,f2,f3,f4,f5⟩:=hf it (by simp)
  have hl:=rv.length
  exact wpAny_pyNext_tuple_end (I.ok.hd hc) st (show s.heap.IsTuple a its.toArray from p) (by simp;omega) λh' eb=>⟨rfl,I.turned (t':=s.toks) (λb o hb e=>eb b o hb e) f0 f1 f3 f4 f5⟩
 self:=λ_ _ _ _ _ st h=>wpAny_pyIter_tupleiter st h
theorem Ko {P:Program}{w:World}{K:PySem.W.Frag}{tg:Expr}(it:Addr)(lo:Int)(n:Nat):Turn P w K tg (Itr lo n) [it] it (λi h=>IsRangeIter h it (lo+(i:Nat)*1) ((n:Int)-(i:Nat)) 1) where
 mem:=by simp
 obj:=λi h st b hb=>by
  have e:b=it:=by simpa using hb
  subst e
  exact ⟨_,st,λv z=>by
   have z':Data.fields _=Data.cell v:=z
   cases z'⟩
 keep:=λi h h' st k=>k it (by simp) _ st
 item:=by
  intro X hP hw hK hc i pins s σ H E I hf st hg
  subst hP hw hK
  obtain ⟨f0,f1,f2,f3,f4,f5⟩:=hf it (by simp)
  have W:=Walks.range (prog:=X.prog) (w:=X.w) (I.ok.hd hc) it lo 1 n
  refine W.item i s _ _ hg st λv h' tk hv st' kk=>?_
  obtain ⟨t,rfl⟩:=hv
  have I1:Inv X pins σ H { s with heap:=h',toks:=tk }:=I.turned (λb o hb e=>kk b o (by simpa using hb) e) f0 f1 f3 f4 f5
  refine ⟨_,rfl,Oc (s:={ s with heap:=h',toks:=tk }) (n:="range_iterator") st' rfl rfl (by decide) ⟨.int (lo+i),H,I1,⟨t,?_⟩,⟨rfl,rfl⟩,st',λb hb=>(hf b hb).1⟩⟩
  rw [Int.mul_one]
 done:=by
  intro X hP hw hK hc i pins s σ H E I hf st hg
  subst hP hw hK
  obtain ⟨f0,f1,f2,f3,f4,f5⟩:=hf it (by simp)
  exact wpAny_pyNext_range_end (I.ok.hd hc) st (by have:n<=i:=hg;omega) λh' eb=>⟨rfl,I.turned (t':=s.toks) (λb o hb e=>eb b o hb e) f0 f1 f3 f4 f5⟩
 self:=λ_ _ _ _ _ st h=>wpAny_pyIter_rangeiter st h
section
variable {X:Cx}{tg:Expr}
def aaI (K:W.Frag)(tl:TE):TI:=λσ H R=>tl σ H λx H1=>∃a,x=.ref a/\(∃xs,SqL K H1 a xs)/\R (Itl K a) H1
def acg (K:W.Frag)(tl:TE):TI:=λσ H R=>tl σ H λx H1=>∃a,x=.ref a/\(∃xs,SqT K H1 a xs)/\R (Itt K a) H1
theorem Mu {l:Expr}{tl:TE}(hl:PE X l tl):PI X tg l (aaI X.K tl):=by
 intro pins s σ H R I h
 refine thn (hl pins s σ H _ I h) λv s1 hE=>xq2 hE λx H1 I1 r1 q1=>?_
 obtain ⟨a,e,⟨xs,hq⟩,q⟩:=q1
 subst e
 cases r1
 obtain ⟨its,rv,p,hz⟩:=I1.list hq
 refine wpAny_pyIter_list p.isList ?_
 refine ⟨s1.heap.objs.size,[s1.heap.objs.size],_,_,H1,rfl,I1.kept (t':=s1.toks) λb o e=>Heap.get?_push_of_some _ e,Pq a _,⟨_,Heap.get?_push_size _ rfl,rfl,rfl⟩,λb hb=>?_,q⟩
 have e:b=s1.heap.objs.size:=by simpa using hb
 subst e
 exact I1.O9 (Nat.le_refl _) (I1.hok.fresh (Nat.le_refl _))
theorem Ze {l:Expr}{tl:TE}(hl:PE X l tl):PI X tg l (acg X.K tl):=by
 intro pins s σ H R I h
 refine thn (hl pins s σ H _ I h) λv s1 hE=>xq2 hE λx H1 I1 r1 q1=>?_
 obtain ⟨a,e,⟨xs,hq⟩,q⟩:=q1
 subst e
 cases r1
 obtain ⟨its,rv,p,hz⟩:=I1.tuple hq
 refine wpAny_pyIter_tuple (show s1.heap.IsTuple a its.toArray from p) ?_
 refine ⟨s1.heap.objs.size,[s1.heap.objs.size],_,_,H1,rfl,I1.kept (t':=s1.toks) λb o e=>Heap.get?_push_of_some _ e,Ju a _,⟨_,Heap.get?_push_size _ rfl,rfl,rfl⟩,λb hb=>?_,q⟩
 have e:b=s1.heap.objs.size:=by simpa using hb
 subst e
 exact I1.O9 (Nat.le_refl _) (I1.hok.fresh (Nat.le_refl _))
theorem HH {pins:Zl}{σ:St}{H:Hp}{s:Shared}{R:It->Hp->Prop}{E:Zs}{lo hi:Int}{t u v:Tok}{tk:Nat}(I:Inv X pins σ H s)(h1:-(2 ^ 62)<=lo)(h2:lo<2 ^ 62)(h3:-(2 ^ 62)<=hi)(h4:hi<2 ^ 62)
  (q:R (Itr lo (hi-lo).toNat) H):wpAny (model X.prog X.w) X.A (pyIter (.ref s.heap.objs.size)) (PIE X pins σ tg R) E { s with heap:=s.heap.push { cls:=.type "range",data:=.fields #[.int lo t,.int hi u,.int 1 v] },toks:=tk }:=by
 refine wpAny_pyIter_range (IsRange.new ..) (small_one h1 h2 h3 h4) ?_
 have I1:Inv X pins σ H { s with heap:=s.heap.push { cls:=.type "range",data:=.fields #[.int lo t,.int hi u,.int 1 v] },toks:=tk }:=I.kept λb o e=>Heap.get?_push_of_some _ e
 refine ⟨(s.heap.push { cls:=.type "range",data:=.fields #[.int lo t,.int hi u,.int 1 v] }).objs.size,[(s.heap.push { cls:=.type "range",data:=.fields #[.int lo t,.int hi u,.int 1 v] }).objs.size],_,_,H,rfl,
  I1.kept (t':=tk) λb o e=>Heap.get?_push_of_some _ e,Ko _ lo (hi-lo).toNat,?_,λb hb=>?_,q⟩
 ·have e1:lo+((0:Nat):Int)*1=lo:=by simp
  have e2:(((hi-lo).toNat:Nat):Int)-((0:Nat):Int)=Builtin.Range.rangeSize lo hi 1:=by rw [rangeSize_one];split<;>omega
  show IsRangeIter _ _ (lo+((0:Nat):Int)*1) ((((hi-lo).toNat:Nat):Int)-((0:Nat):Int)) 1
  rw [e1,e2]
  exact Heap.get?_push_size _ rfl
 ·have e:b=(s.heap.push { cls:=.type "range",data:=.fields #[.int lo t,.int hi u,.int 1 v] }).objs.size:=by simpa using hb
  subst e
  exact I1.O9 (Nat.le_refl _) (I1.hok.fresh (Nat.le_refl _))
def ab5 (ta:TA):TI:=λσ H R=>ta σ H λvs H1=>∃j:Int,vs=[.int j]/\-(2 ^ 62)<=j/\j<2 ^ 62/\R (Itr 0 j.toNat) H1
def abh (ta:TA):TI:=λσ H R=>ta σ H λvs H1=>∃i j:Int,vs=[.int i,.int j]/\(-(2 ^ 62)<=i/\i<2 ^ 62/\-(2 ^ 62)<=j/\j<2 ^ 62)/\R (Itr i (j-i).toNat) H1
theorem Px {a:Expr}{ta:TA}{p pos:Pos}(hg:Gl X "range")(hm:X.mg "range" = none)(ha:PA X [a] ta)(hs:starEach [a] X.env=[(false,eval a X.env)]:=by rfl):PI X tg (.Call (.Name "range" p) [a] [] pos) (ab5 ta):=by
 intro pins s σ H R I h
 refine Call_ (o9 I hg hm boot_range (PyProof.Rows.callWith_type1 (thn (ha pos pins s σ H _ I h) λus s1 hE=>xq2 hE λvs H1 I1 r1 q1=>?_) hs rfl))
 obtain ⟨j,e,q1,q2,q⟩:=q1
 subst e
 cases r1 with
 |cons r rr=>
  cases rr
  obtain ⟨t,rfl⟩:=r
  exact call_range_1 (HH I1 (by omega) (by omega) q1 q2 (by simpa using q))
theorem Ph {a b:Expr}{ta:TA}{p pos:Pos}(hg:Gl X "range")(hm:X.mg "range" = none)(ha:PA X [a,b] ta)(hs:starEach [a,b] X.env=[(false,eval a X.env),(false,eval b X.env)]:=by rfl)(hs2:starEach [b] X.env=[(false,eval b X.env)]:=by rfl):
  PI X tg (.Call (.Name "range" p) [a,b] [] pos) (abh ta):=by
 intro pins s σ H R I h
 refine Call_ (o9 I hg hm boot_range (PyProof.Rows.callWith_type1 (thn (ha pos pins s σ H _ I h) λus s1 hE=>xq2 hE λvs H1 I1 r1 q1=>?_) (by rw [hs,hs2]) (by rw [hs2];rfl)))
 obtain ⟨i,j,e,⟨q1,q2,q3,q4⟩,q⟩:=q1
 subst e
 cases r1 with
 |cons r rr=>
  cases rr with
  |cons r' rr=>
   cases rr
   obtain ⟨t,rfl⟩:=r
   obtain ⟨t',rfl⟩:=r'
   exact call_range_2 (HH I1 q1 q2 q3 q4 q)
def ach (wi:TI)(g:TG)(tb:TS):TS:=λD σ H=>wi σ H λJ H1=>∃W:Nat->Nat->St->Hp->Prop,(∃m,W 0 m σ H1)/\∀i m σ H,W i m σ H->
 (J.stop i H/\D.nx σ H)\/(J.go i H/\∃N:St->Hp->Prop,(∀σ' H',N σ' H'->∃m',m'<m/\W (i+1) m' σ' H')/\∀x H',J.yld i H x H'->g x σ H' λσ2 H2=>tb { D with nx:=N,ct:=N,bk:=D.nx } σ2 H2)
noncomputable def uG (fp:List Addr)(h:Heap):Zl:=fp.filterMap λb=>(h.get? b).map λo=>(b,o)
theorem pX {fp:List Addr}{h:Heap}{b:Addr}{o:Obj}(hb:b∈fp)(e:h.get? b=some o):(b,o)∈uG fp h:=List.mem_filterMap.mpr ⟨b,hb,by rw [e];rfl⟩
theorem PB {fp:List Addr}{h:Heap}{p:Addr×Obj}(hp:p∈uG fp h):p.1∈fp/\h.get? p.1=some p.2:=by
 obtain ⟨b,hb,e⟩:=List.mem_filterMap.mp hp
 cases q:h.get? b with
 |none=>rw [q] at e;cases e
 |some o=>
  rw [q] at e
  have e':(b,o)=p:=Option.some.inj e
  subst e'
  exact ⟨hb,q⟩
theorem Inv.pinned {pins:Zl}{σ:St}{H:Hp}{s:Shared}{fp:List Addr}(I:Inv X pins σ H s)(hf:∀b∈fp,tU X pins H b)(ho:∀b∈fp,∃o,s.heap.get? b=some o/\∀v,o.data≠.cell v):Inv X (pins++uG fp s.heap) σ H s:=
 I.Oe λp hp=>(List.mem_append.mp hp).elim (λz=>I.pin p (List.mem_append_right _ z)) λz=>by
  obtain ⟨hb,e⟩:=PB z
  obtain ⟨f0,f1,f2,_⟩:=hf p.1 hb
  obtain ⟨o,e',d⟩:=ho p.1 hb
  rw [e] at e';cases e'
  exact ⟨e,f0,f1,f2,d⟩
theorem Inv.vy {pins pl:Zl}{σ:St}{H:Hp}{s:Shared}(I:Inv X (pins++pl) σ H s):Inv X pins σ H s:=I.Oe λp hp=>I.pin p (List.mem_append_right _ (List.mem_append_left _ hp))
theorem aac {iter:Expr}{body:List Stmt}{wi:TI}{g:TG}{tb:TS}{pos:Pos}(hp:PassesOwn (model X.prog X.w) X.A X.env X.xe)(hc:X.calm=true)(hi:PI X tg iter wi)(hg:PG X tg g)(hb:PSs X body tb)
  (hs:∀x,foldedSetIterable iter X.env x=pure x:=by intro _;rfl):PS X (.For tg iter body [] pos) (ach wi g tb):=by
 intro pins s σ H D I h
 refine wpAny_For (thn (hi pins s σ H _ I h) λv s1 h1=>thn h1 λitv s2 h2=>?_) hs
 obtain ⟨it,fp,tn,J,H2,e,I2,T,st2,f2,W,⟨m0,w0⟩,turn⟩:=h2
 subst e
 have stat:∀{H':Hp},(∀b∈fp,H' b=none)->∀b∈fp,tU X pins H' b:=λhn b hb=>⟨hn b hb,(f2 b hb).2⟩
 refine codeAny_forLoop_any (λn s'=>∃i σ' H',Inv X pins σ' H' s'/\tn i s'.heap/\(∀b∈fp,H' b=none)/\W i n σ' H') ?_ m0 ⟨0,σ,H2,I2,st2,λb hb=>(f2 b hb).1,w0⟩
 rintro n s3 ⟨i,σ3,H3,I3,st3,fr3,w3⟩
 rcases turn i n σ3 H3 w3 with ⟨stop,qn⟩ | ⟨go,N,hN,step⟩
 ·refine wpAny_passesOwn hp (thn (T.done X rfl rfl rfl hc i pins s3 σ3 H3 X.xe I3 (stat fr3) st3 stop) λr s4 ⟨hr,I4⟩=>?_)
  subst hr
  exact wpAny_execs_nil ⟨σ3,H3,I4,qn⟩
 ·refine wpAny_passesOwn hp (thn (T.item X rfl rfl rfl hc i pins s3 σ3 H3 X.xe I3 (stat fr3) st3 go) λr s4 ⟨u,hr,h4⟩=>?_)
  subst hr
  refine wpAny_passesOwn hp (thn h4 λ_ s5 ⟨x,H5,I5,r5,y5,st5,fr5⟩=>?_)
  have I5':=I5.pinned (stat fr5) (T.obj _ _ st5)
  refine wpAny_passesOwn hp (thn (hg _ s5 σ3 H5 x u _ I5' r5 (step x H5 y5)) λ_ s6 ⟨σ6,H6,I6,q6⟩=>?_)
  refine wpAny_passesOwn hp (thn (hb _ s6 σ6 H6 _ I6 q6) λf s7 q7=>?_)
  have again:∀{σ7:St} {H7:Hp},Inv X (pins++uG fp s5.heap) σ7 H7 s7->N σ7 H7->∃m,m<n/\∃i σ' H',Inv X pins σ' H' s7/\tn i s7.heap/\(∀b∈fp,H' b=none)/\W i m σ' H':=λ{σ7 H7} I7 n7=>by
   obtain ⟨m',hm,w7⟩:=hN σ7 H7 n7
   refine ⟨m',hm,i+1,σ7,H7,I7.vy,T.keep _ _ _ st5 λb hb o e=>(I7.pin (b,o) (List.mem_append_right _ (List.mem_append_right _ (pX hb e)))).1,λb hb=>?_,w7⟩
   obtain ⟨o,e,d⟩:=T.obj _ _ st5 b hb
   exact (I7.pin (b,o) (List.mem_append_right _ (List.mem_append_right _ (pX hb e)))).2.1
  cases f with
  |next=>obtain ⟨σ7,H7,I7,n7⟩:=q7;exact again I7 n7
  |cont=>obtain ⟨σ7,H7,I7,n7⟩:=q7;exact again I7 n7
  |brk=>obtain ⟨σ7,H7,I7,q7⟩:=q7;exact ⟨σ7,H7,I7.vy,q7⟩
  |ret v=>obtain ⟨x7,σ7,H7,I7,r7,q7⟩:=q7;exact ⟨x7,σ7,H7,I7.vy,r7,q7⟩
end
abbrev R2:=V->V->Hp->VK->Prop
def OpR (X:Cx)(f:Value->Value->Sem Value)(r:R2):Prop:=
 ∀(pins:Zl) (s:Shared) (σ:St) (H:Hp) (x y:V) (v u:Value) (Q:VK),Inv X pins σ H s->RelV x v->RelV y u->r x y H Q->
  wpAny (model X.prog X.w) X.A (f v u) (EP X pins σ Q) X.xe s
def UnR (X:Cx)(f:Value->Sem Value)(r:V->Hp->VK->Prop):Prop:=
 ∀(pins:Zl) (s:Shared) (σ:St) (H:Hp) (x:V) (v:Value) (Q:VK),Inv X pins σ H s->RelV x v->r x H Q->
  wpAny (model X.prog X.w) X.A (f v) (EP X pins σ Q) X.xe s
def iW (X:Cx)(f:Value)(r:List V->Hp->VK->Prop):Prop:=
 ∀(pins:Zl) (s:Shared) (σ:St) (H:Hp) (xs:List V) (us:List Value) (Q:VK),Inv X pins σ H s->Vals xs us->r xs H Q->
  wpAny (model X.prog X.w) X.A (call f us) (EP X pins σ Q) X.xe s
def tOp (r:R2)(ta tb:TE):TE:=λσ H Q=>ta σ H λx H1=>tb σ H1 λy H2=>r x y H2 Q
def tUn (r:V->Hp->VK->Prop)(ta:TE):TE:=λσ H Q=>ta σ H λx H1=>r x H1 Q
def rI (C:Int->Int->Prop)(g:Int->Int->V):R2:=λx y H Q=>∃i j,x=.int i/\y=.int j/\C i j/\Q (g i j) H
def rI0 (g:Int->Int->V):R2:=λx y H Q=>∃i j,x=.int i/\y=.int j/\Q (g i j) H
def rU (g:Int->V):V->Hp->VK->Prop:=λx H Q=>∃i,x=.int i/\Q (g i) H
section
variable {X:Cx}{a b c:Expr}{ta tb tc:TE}{pos:Pos}
theorem Zd (ha:PE X a ta)(hb:PE X b tb){pins:Zl}{s:Shared}{σ:St}{H:Hp}{R:V->V->Hp->Prop}(I:Inv X pins σ H s)
  (h:ta σ H λx H1=>tb σ H1 λy H2=>R x y H2) {Q:Zs} {f:Value->Value->Sem Value}
  (hf:∀v u s2 x y H2,Inv X pins σ H2 s2->RelV x v->RelV y u->R x y H2->wpAny (model X.prog X.w) X.A (f v u) Q X.xe s2):
  wpAny (model X.prog X.w) X.A (eval a X.env) (λv s₁=>wpAny (model X.prog X.w) X.A (eval b X.env) (λu s₂=>wpAny (model X.prog X.w) X.A (f v u) Q X.xe s₂) X.xe s₁) X.xe s:=by
 refine thn (ha pins s σ H _ I h) λv s1 hE=>xq2 hE λx H1 I1 r1 q1=>?_
 refine thn (hb pins s1 σ H1 _ I1 q1) λu s2 hE=>xq2 hE λy H2 I2 r2 q2=>?_
 exact hf v u s2 x y H2 I2 r1 r2 q2
theorem abn {op:Operator}{r:R2}(ho:OpR X (binaryOp op) r)(ha:PE X a ta)(hb:PE X b tb):PE X (.BinOp a op b pos) (tOp r ta tb):=by
 intro pins s σ H Q I h
 exact wpAny_BinOp (Zd ha hb I h λv u s2 x y H2 I2 rx ry q=>ho pins s2 σ H2 x y v u Q I2 rx ry q)
theorem aa7 {op:UnaryOp}{r:V->Hp->VK->Prop}(ho:UnR X (unaryOp op) r)(ha:PE X a ta):PE X (.UnaryOp op a pos) (tUn r ta):=by
 intro pins s σ H Q I h
 exact UnaryOp_ (thn (ha pins s σ H _ I h) λv s1 hE=>xq2 hE λx H1 I1 r1 q1=>ho pins s1 σ H1 x v Q I1 r1 q1)
theorem opI {f:Value->Value->Sem Value}{C:Int->Int->Prop}{g:Int->Int->Int}
  (rule:∀(i j:Int) (t u:Tok) (s:Shared) (Q:Zs) (E:Zs),C i j->Q (.int (g i j) s.toks) { s with toks:=s.toks+1 }->wpAny (model X.prog X.w) X.A (f (.int i t) (.int j u)) Q E s):
  OpR X f (rI C λi j=>.int (g i j)):=by
 intro pins s σ H x y v u Q I rx ry h
 obtain ⟨i,j,rfl,rfl,hc,q⟩:=h
 obtain ⟨t,rfl⟩:=rx
 obtain ⟨t',rfl⟩:=ry
 exact rule i j t t' s _ _ hc ⟨.int (g i j),H,I.tok _,⟨_,rfl⟩,q⟩
theorem aaV {f:Value->Value->Sem Value}{g:Int->Int->Int}
  (rule:∀(i j:Int) (t u:Tok) (s:Shared) (Q:Zs) (E:Zs),Q (.int (g i j) s.toks) { s with toks:=s.toks+1 }->wpAny (model X.prog X.w) X.A (f (.int i t) (.int j u)) Q E s):
  OpR X f (rI0 λi j=>.int (g i j)):=by
 intro pins s σ H x y v u Q I rx ry h
 obtain ⟨i,j,rfl,rfl,q⟩:=h
 obtain ⟨t,rfl⟩:=rx
 obtain ⟨t',rfl⟩:=ry
 exact rule i j t t' s _ _ ⟨.int (g i j),H,I.tok _,⟨_,rfl⟩,q⟩
theorem Zr {f:Value->Value->Sem Value}{g:Int->Int->Bool}
  (rule:∀(i j:Int) (t u:Tok) (s:Shared) (Q:Zs) (E:Zs),Q (.bool (g i j)) s->wpAny (model X.prog X.w) X.A (f (.int i t) (.int j u)) Q E s):
  OpR X f (rI0 λi j=>.bl (g i j)):=by
 intro pins s σ H x y v u Q I rx ry h
 obtain ⟨i,j,rfl,rfl,q⟩:=h
 obtain ⟨t,rfl⟩:=rx
 obtain ⟨t',rfl⟩:=ry
 exact rule i j t t' s _ _ ⟨.bl (g i j),H,I,rfl,q⟩
theorem Zi:OpR X (binaryOp .Add) (rI0 λi j=>.int (i+j)):=aaV λ_ _ _ _ _ _ _ q=>add_int q
theorem YD:OpR X (binaryOp .Sub) (rI0 λi j=>.int (i-j)):=aaV λ_ _ _ _ _ _ _ q=>sub_int q
theorem Xj:OpR X (binaryOp .Mod) (rI (λ_ j=>j≠0) λi j=>.int (i.fmod j)):=opI λ_ _ _ _ _ _ _ hc q=>mod_int' hc q
theorem unI {f:Value->Sem Value}{g:Int->Int}
  (rule:∀(i:Int) (t:Tok) (s:Shared) (Q:Zs) (E:Zs),Q (.int (g i) s.toks) { s with toks:=s.toks+1 }->wpAny (model X.prog X.w) X.A (f (.int i t)) Q E s):
  UnR X f (rU λi=>.int (g i)):=by
 intro pins s σ H x v Q I rx h
 obtain ⟨i,rfl,q⟩:=h
 obtain ⟨t,rfl⟩:=rx
 exact rule i t s _ _ ⟨.int (g i),H,I.tok _,⟨_,rfl⟩,q⟩
theorem Y6:UnR X (unaryOp .USub) (rU λi=>.int (-i)):=unI λ_ _ _ _ _ q=>neg_int q
end
noncomputable def aaJ:V->V->Bool
 | .non,.non=>true | .non,.int _=>true | .int _,.non=>true | .non,.bl _=>true | .bl _,.non=>true | .non,.str _=>true | .str _,.non=>true
 | .int _,.int _=>true | .bl _,.bl _=>true | .str _,.str _=>true | .byt _,.byt _=>true
 | .int _,.str _=>true | .str _,.int _=>true | .bl _,.str _=>true | .str _,.bl _=>true
 |_,_=>false
def rEq:R2:=λx y H Q=>aaJ x y=true/\Q (.bl (decide (x=y))) H
def rNe:R2:=λx y H Q=>aaJ x y=true/\Q (.bl (!decide (x=y))) H
theorem LR {i j:Int}:decide (V.int i=V.int j)=(i == j):=by
 rw [Bool.eq_iff_iff]
 simp
theorem Ro {i j:Bool}:decide (V.bl i=V.bl j)=(i == j):=by
 rw [Bool.eq_iff_iff]
 simp
theorem Np {i j:Str}:decide (V.str i=V.str j)=(i == j):=by
 rw [Bool.eq_iff_iff]
 simp
theorem Lf {i j:Array UInt8}:decide (V.byt i=V.byt j)=(i.toList == j.toList):=by
 rw [Bool.eq_iff_iff]
 cases i
 cases j
 simp
section
variable {X:Cx}{a b c:Expr}{ta tb tc:TE}{pos:Pos}
theorem cQ {pins:Zl}{σ:St}{H:Hp}{s:Shared}{Q:VK}{k k':Bool}(I:Inv X pins σ H s)(q:Q (.bl k) H)(e:k=k'):EP X pins σ Q (.bool k') s:=by
 subst e
 exact ⟨.bl k,H,I,rfl,q⟩
theorem Lk:OpR X (compareOp .Eq) rEq:=by
 intro pins s σ H x y v u Q I rx ry h
 obtain ⟨hs,q⟩:=h
 cases x with
 |non=>
  cases rx
  cases y with
  |non=>cases ry;exact PySem.EqNone.eq_none_none (cQ I q (by simp))
  |bl j=>cases ry;exact PySem.EqNone.eq_none_bool (cQ I q (by simp))
  |int j=>obtain ⟨t',rfl⟩:=ry;exact PySem.EqNone.eq_none_int (cQ I q (by simp))
  |str j=>obtain ⟨t',rfl⟩:=ry;exact PySem.EqNone.eq_none_str (cQ I q (by simp))
  |_=>exact absurd (show false=true from hs) Bool.false_ne_true
 |bl i=>
  cases rx
  cases y with
  |non=>cases ry;exact PySem.EqNone.eq_bool_none (cQ I q (by simp))
  |bl j=>cases ry;exact eq_bool (cQ I q Ro)
  |str j=>obtain ⟨t',rfl⟩:=ry;exact PySem.EqMixed.eq_bool_str (cQ I q (by simp))
  |_=>exact absurd (show false=true from hs) Bool.false_ne_true
 |int i=>
  obtain ⟨t,rfl⟩:=rx
  cases y with
  |non=>cases ry;exact PySem.EqNone.eq_int_none (cQ I q (by simp))
  |int j=>obtain ⟨t',rfl⟩:=ry;exact eq_int (cQ I q LR)
  |str j=>obtain ⟨t',rfl⟩:=ry;exact PySem.EqMixed.eq_int_str (cQ I q (by simp))
  |_=>exact absurd (show false=true from hs) Bool.false_ne_true
 |str i=>
  obtain ⟨t,rfl⟩:=rx
  cases y with
  |non=>cases ry;exact PySem.EqNone.eq_str_none (cQ I q (by simp))
  |bl j=>cases ry;exact PySem.EqMixed.eq_str_bool (cQ I q (by simp))
  |int j=>obtain ⟨t',rfl⟩:=ry;exact PySem.EqMixed.eq_str_int (cQ I q (by simp))
  |str j=>obtain ⟨t',rfl⟩:=ry;exact eq_str (cQ I q Np)
  |_=>exact absurd (show false=true from hs) Bool.false_ne_true
 |byt i=>
  obtain ⟨t,rfl⟩:=rx
  cases y with
  |byt j=>obtain ⟨t',rfl⟩:=ry;exact W.eq_bytes (cQ I q Lf)
  |_=>exact absurd (show false=true from hs) Bool.false_ne_true
 |_=>cases y<;>exact absurd (show false=true from hs) Bool.false_ne_true
theorem K3:OpR X (compareOp .NotEq) rNe:=by
 intro pins s σ H x y v u Q I rx ry h
 obtain ⟨hs,q⟩:=h
 cases x with
 |non=>
  cases rx
  cases y with
  |non=>cases ry;exact PySem.EqNone.ne_none_none (cQ I q (by simp))
  |bl j=>cases ry;exact PySem.EqNone.ne_none_bool (cQ I q (by simp))
  |int j=>obtain ⟨t',rfl⟩:=ry;exact PySem.EqNone.ne_none_int (cQ I q (by simp))
  |str j=>obtain ⟨t',rfl⟩:=ry;exact PySem.EqNone.ne_none_str (cQ I q (by simp))
  |_=>exact absurd (show false=true from hs) Bool.false_ne_true
 |bl i=>
  cases rx
  cases y with
  |non=>cases ry;exact PySem.EqNone.ne_bool_none (cQ I q (by simp))
  |bl j=>cases ry;exact ne_bool (cQ I q (congrArg not Ro))
  |str j=>obtain ⟨t',rfl⟩:=ry;exact PySem.EqMixed.ne_bool_str (cQ I q (by simp))
  |_=>exact absurd (show false=true from hs) Bool.false_ne_true
 |int i=>
  obtain ⟨t,rfl⟩:=rx
  cases y with
  |non=>cases ry;exact PySem.EqNone.ne_int_none (cQ I q (by simp))
  |int j=>obtain ⟨t',rfl⟩:=ry;exact ne_int (cQ I q (congrArg not LR))
  |str j=>obtain ⟨t',rfl⟩:=ry;exact PySem.EqMixed.ne_int_str (cQ I q (by simp))
  |_=>exact absurd (show false=true from hs) Bool.false_ne_true
 |str i=>
  obtain ⟨t,rfl⟩:=rx
  cases y with
  |non=>cases ry;exact PySem.EqNone.ne_str_none (cQ I q (by simp))
  |bl j=>cases ry;exact PySem.EqMixed.ne_str_bool (cQ I q (by simp))
  |int j=>obtain ⟨t',rfl⟩:=ry;exact PySem.EqMixed.ne_str_int (cQ I q (by simp))
  |str j=>obtain ⟨t',rfl⟩:=ry;exact ne_str (cQ I q (congrArg not Np))
  |_=>exact absurd (show false=true from hs) Bool.false_ne_true
 |byt i=>
  obtain ⟨t,rfl⟩:=rx
  cases y with
  |byt j=>obtain ⟨t',rfl⟩:=ry;exact W.ne_bytes (cQ I q (congrArg not Lf))
  |_=>exact absurd (show false=true from hs) Bool.false_ne_true
 |_=>cases y<;>exact absurd (show false=true from hs) Bool.false_ne_true
theorem abV:OpR X (compareOp .Lt) (rI0 λi j=>.bl (decide (i<j))):=Zr λ_ _ _ _ _ _ _ q=>lt_int q
theorem abt:OpR X (compareOp .Gt) (rI0 λi j=>.bl (decide (j<i))):=Zr λ_ _ _ _ _ _ _ q=>gt_int q
theorem abC:OpR X (compareOp .GtE) (rI0 λi j=>.bl (decide (j<=i))):=Zr λ_ _ _ _ _ _ _ q=>ge_int q
theorem bL (b:Expr){op:CmpOp}(h:op≠.In:=by decide)(h2:op≠.NotIn:=by decide):behindInMarks op b=false:=by
 have e1:(op == CmpOp.In)=false:=by cases op<;>first | rfl | exact absurd rfl h
 have e2:(op == CmpOp.NotIn)=false:=by cases op<;>first | rfl | exact absurd rfl h2
 cases b<;>simp [behindInMarks,e1,e2]
theorem Ww {op:CmpOp}{r:R2}(ho:OpR X (compareOp op) r)(ha:PE X a ta)(hb:PE X b tb)(hm:behindInMarks op b=false):PE X (.Compare a [op] [b] pos) (tOp r ta tb):=by
 intro pins s σ H Q I h
 exact wpAny_Compare1 (Zd ha hb I h λv u s2 x y H2 I2 rx ry q=>ho pins s2 σ H2 x y v u Q I2 rx ry q) hm
def aa5 (t:TE):TT:=λσ H Q=>t σ H λx H'=>∃k,x=.bl k/\Q k H'
theorem W6 {op:CmpOp}{r:R2}(ho:OpR X (compareOp op) r)(ha:PE X a ta)(hb:PE X b tb)(hm:behindInMarks op b=false):PT X (.Compare a [op] [b] pos) (aa5 (tOp r ta tb)):=by
 intro pins s σ H Q I h
 refine wpAny_isTrue_Compare1 (thn (ha pins s σ H _ I h) λv s1 hE=>xq2 hE λx H1 I1 r1 q1=>thn (hb pins s1 σ H1 _ I1 q1) λu s2 hE=>xq2 hE λy H2 I2 r2 q2=>
  thn (ho pins s2 σ H2 x y v u _ I2 r1 r2 q2) λc s3 ⟨z,H3,I3,r3,k,e,q3⟩=>?_) hm
 subst e
 cases r3
 exact wpAny_truthy_bool ⟨H3,I3,q3⟩
theorem wH:(sizeLine:Nat)<2 ^ 63:=by rw [sizeLine_eq];decide
theorem Ky:OpR X (binaryOp .Add) (λx y H Q=>∃i j,x=.str i/\y=.str j/\i.length+j.length<=sizeLine/\Q (.str (i++j)) H):=by
 intro pins s σ H x y v u Q I rx ry h
 obtain ⟨i,j,rfl,rfl,hz,q⟩:=h
 obtain ⟨t,rfl⟩:=rx
 obtain ⟨t',rfl⟩:=ry
 exact add_str (λt' tk=>⟨.str (i++j),H,I.tok _,⟨_,rfl⟩,q⟩) hz
theorem vals1 {x:V}{us:List Value}(r:Vals [x] us):∃u,us=[u]/\RelV x u:=by
 cases r with
 |cons r1 r2=>cases r2;exact ⟨_,rfl,r1⟩
theorem vals2 {x y:V}{us:List Value}(r:Vals [x,y] us):∃u w',us=[u,w']/\RelV x u/\RelV y w':=by
 cases r with
 |cons r1 r2=>
  cases r2 with
  |cons r3 r4=>cases r4;exact ⟨_,_,rfl,r1,r3⟩
theorem T9:iW X (.builtin "abs") (λxs H Q=>∃i,xs=[.int i]/\Q (.int (if i<0 then -i else i)) H):=by
 intro pins s σ H xs us Q I r h
 obtain ⟨i,rfl,q⟩:=h
 obtain ⟨u,rfl,t,rfl⟩:=vals1 r
 exact call_abs_int λu tk=>⟨.int (if i<0 then -i else i),H,I.tok _,⟨_,rfl⟩,q⟩
end
structure ZZ (h:Heap)(x dx C:Addr)(mA:Zp):Prop where
 obj:h.get? x=some (W.instObj C dx)
 ns:h.Ns1 dx mA
 ne:dx≠x
theorem PX {h:Heap}{dx:Addr}{mA:Zp}(n:h.Ns1 dx mA):∃od,h.get? dx=some od/\∀name,W.lookIn name od=some (mA name):=by
 obtain ⟨o,es,ep,ho,hd,hk,_,hm⟩:=n
 refine ⟨o,ho,λname=>?_⟩
 have e:=hm name
 unfold nsFind findBy at e
 rw [← Array.find?_toList] at e
 unfold W.lookIn
 rw [hd]
 dsimp only
 split
 ·rename_i y q
  rw [q] at e
  exact congrArg some e
 ·rename_i q
  rw [q] at e
  have a:es.toList.any (·.refKey)=false:=by
   rw [List.any_eq_false]
   intro y hy
   obtain ⟨z,t,hkey⟩:=hk y (Array.mem_toList_iff.mp hy)
   simp [DictEntry.refKey,hkey]
  have a':¬es.toList.any (·.refKey)=true:=by rw [a];exact Bool.false_ne_true
  rw [if_neg a']
  exact congrArg some e
theorem ZZ.look {h:Heap}{x dx C:Addr}{mA:Zp}(I:ZZ h x dx C mA):∃od,W.InstAt h x (W.instObj C dx) C (some od)/\∀name,W.lookIn name od=some (mA name):=
 let ⟨od,ho,hl⟩:=PX I.ns
 ⟨od,⟨I.obj,rfl,rfl,ho⟩,hl⟩
section
variable {prog:Program}{w:World}{A:Around}{E:Zs}{s:Shared}{K:W.Frag}{x dx C f:Addr}{mA:Zp}{name:Str}{v:Value}
end
theorem wQ.some_of {v:V}{o:Option Value}(r:wQ (some v) o):∃u,o=some u/\RelV v u:=by
 cases o with
 |none=>exact (show False from r).elim
 |some u=>exact ⟨u,rfl,r⟩
section
variable {P:Program}{w:World}{H H':Hp}{h h':Heap}{a C dx:Addr}{fs fs':List (Str×V)}
theorem Vu (hok:HOk P w H h)(e:H a=some (.ins C dx fs)):∃mA,ZZ h a dx C mA/\(∀f,wQ (fs.lookup f) (mA f))/\PySem.Within mA (fs.map (·.1))/\fs.length<=1000/\H dx=some (.own a):=by
 obtain ⟨d,z,ne,ob,mA,n,r,q⟩:=(show dH P w H h a (.ins C dx fs) from hok a _ e)
 exact ⟨mA,⟨ob,n,ne⟩,r,q,z,d⟩
end
structure Cls (K:W.Frag)(C:Addr):Prop where
 pg:W.plainGet K C Str.empty=true
 hd:W.hasDictIn K C=true
 po:W.plainOver K C=true
 sa:W.findIn K (.ref C) "__setattr__" = some (some (.builtin "object.__setattr__"))
theorem Cls.get {K:W.Frag}{C:Addr}(c:Cls K C)(f:Str):W.plainGet K C f=true:=c.pg
section
variable {X:Cx}{pins:Zl}{σ:St}{H:Hp}{s:Shared}{a C dx:Addr}{fs:List (Str×V)}{f:Str}{v:V}{A:Around}{E:Zs}
end
section
variable {X:Cx}{o e value:Expr}{f:Str}{pos pos' tpos:Pos}{ta tv:TE}
end
section
variable {X:Cx}{pins:Zl}{σ:St}{H:Hp}{s:Shared}{A:Around}{E:Zs}{Q:Zs}{c:Value}{b:Bool}
inductive xg (K:W.Frag)(H:Hp):V->Value->Prop where
 |non:xg K H .non (.type "NoneType")
 |bl (x:Bool):xg K H (.bl x) (.type "bool")
 |int (i:Int):xg K H (.int i) (.type "int")
 |str (x:Str):xg K H (.str x) (.type "str")
 |flt (x:UInt64):xg K H (.flt x) (.type "float")
 |lst {a:Addr} {xs:List V} (e:H a=some (.lst xs)):xg K H (.ref a) (.type "list")
 |frz {a:Addr} {o:Obj} {xs:List V} (e:H a=some (.frz o (.lst xs))):xg K H (.ref a) (.type "list")
 |tup {a:Addr} {xs:List V} (e:H a=some (.tup xs)):xg K H (.ref a) (.type "tuple")
 |dK {a:Addr} {kvs:List (Key×V)} (e:H a=some (.dK kvs)):xg K H (.ref a) (.type "dict")
 |dT {a:Addr} {T:Addr->List V->Prop} {kvs:List (List Kt×V)} (e:H a=some (.dT T kvs)):xg K H (.ref a) (.type "dict")
 |ins {a C dx:Addr} {fs:List (Str×V)} (e:H a=some (.ins C dx fs)) (cl:Cls K C) (ha:W.findIn K (.ref C) "__class__" = some (some (.builtin "object.__class__")))
   (hn:W.specialIn K (.builtin "object.__class__") "__get__" = some (some (.builtin "getset_descriptor.__get__"))) (htk:W.takesIn K (.builtin "object.__class__")=some true)
   (hm:W.mroIn K C (.type "object")=some true):xg K H (.ref a) (.ref C)
theorem OJ {x:V}{u t:Value}(I:Inv X pins σ H s)(rx:RelV x u)(ty:xg X.K H x t)(e:W.kitOne X.K t c=some b)(h:∀tk,Q (.bool b) { s with toks:=tk }):
  wpAny (model X.prog X.w) A (call (.builtin "isinstance") [u,c]) Q E s:=by
 cases ty with
 |non=>cases (show u=Value.none from rx);exact W.kia_one W.kitx_none I.kIn True.intro e (λz=>nomatch z) h
 |bl y=>cases (show u=Value.bool y from rx);exact W.kia_one W.kitx_bool I.kIn True.intro e (λz=>nomatch z) h
 |int i=>obtain ⟨t,q⟩:=(show ∃t,u=Value.int i t from rx);cases q;exact W.kia_one W.kitx_int I.kIn True.intro e (λz=>nomatch z) h
 |str y=>obtain ⟨t,q⟩:=(show ∃t,u=Value.str y t from rx);cases q;exact W.kia_one W.kitx_str I.kIn True.intro e (λz=>nomatch z) h
 |flt y=>obtain ⟨t,q⟩:=(show ∃t,u=Value.float y t from rx);cases q;exact W.kia_one W.kitx_float I.kIn True.intro e (λz=>nomatch z) h
 | @lst a xs ea=>
  cases (show u=Value.ref a from rx)
  obtain ⟨_,_,n,_,h1⟩:=(show dH X.prog X.w H s.heap a (.lst xs) from I.hok a _ ea)
  exact W.kia_one W.kitx_list I.kIn ⟨_,h1,rfl⟩ e (λz=>nomatch z) h
 | @frz a ob xs ea=>
  cases (show u=Value.ref a from rx)
  obtain ⟨_,_,_,n,_,h1⟩:=(show dH X.prog X.w H s.heap a (.frz ob (.lst xs)) from I.hok a _ ea)
  exact W.kia_one W.kitx_list I.kIn ⟨_,h1,rfl⟩ e (λz=>nomatch z) h
 | @tup a xs ea=>
  cases (show u=Value.ref a from rx)
  obtain ⟨_,_,_,p⟩:=(show dH X.prog X.w H s.heap a (.tup xs) from I.hok a _ ea)
  obtain ⟨o,h1,h2,_⟩:=p
  exact W.kia_one W.kitx_tuple I.kIn ⟨o,h1,h2⟩ e (λz=>nomatch z) h
 | @dK a kvs ea=>
  cases (show u=Value.ref a from rx)
  obtain ⟨_,_,vs,_,p⟩:=(show dH X.prog X.w H s.heap a (.dK kvs) from I.hok a _ ea)
  obtain ⟨o,es,ep,h1,h2,_⟩:=p
  exact W.kia_one W.kitx_dict I.kIn ⟨o,h1,h2.1⟩ e (λz=>nomatch z) h
 | @dT a T kvs ea=>
  cases (show u=Value.ref a from rx)
  obtain ⟨_,_,xs,_,o,es,ep,h1,h2,_⟩:=(show dH X.prog X.w H s.heap a (.dT T kvs) from I.hok a _ ea)
  exact W.kia_one W.kitx_dict I.kIn ⟨o,h1,h2.1⟩ e (λz=>nomatch z) h
 | @ins a C dx fs ea cl ha hn htk hm=>
  cases (show u=Value.ref a from rx)
  obtain ⟨mA,O,_⟩:=Vu I.hok ea
  obtain ⟨od,J,_⟩:=O.look
  exact W.kia_one (W.kitx_own (cl.get _) cl.hd ha hn htk hm) I.kIn J e (λz=>nomatch z) h
end
structure gR (k:Nat)(A:Around):Prop where
 hd:A.handled=none
 dp:A.depth+3*k+5<recursionLimit
 un:A.units+16*k+200<cLine
 gd:A.guards=some []
theorem gR.mono {j k:Nat}{A:Around}(r:gR k A)(h:j<=k):gR j A:=⟨r.hd,by have:=r.dp;omega,by have:=r.un;omega,r.gd⟩
theorem gR.deeper {k:Nat}{A:Around}(r:gR (k+1) A)(env:Env):gR k (A.deeper env):=
 ⟨r.hd,by have:=r.dp;show A.depth+1+3*k+5<_;omega,by have:=r.un;show A.units+3+16*k+200<_;omega,r.gd⟩
theorem gR.in1 {k:Nat}{A:Around}(r:gR (k+1) A):gR k A.in1:=
 ⟨r.hd,by have:=r.dp;show A.depth+3*k+5<_;omega,by have:=r.un;show A.units+1+16*k+200<_;omega,r.gd⟩
theorem gR.depth {k:Nat}{A:Around}(r:gR k A):A.depth<recursionLimit:=by have:=r.dp;omega
theorem gR.units {k:Nat}{A:Around}(r:gR k A):A.units+64<cLine:=by have:=r.un;omega
def acp:TA:=λ_ H Q=>Q [] H
def aa1 (ta:TE)(tr:TA):TA:=λσ H Q=>ta σ H λx H1=>tr σ H1 λxs H2=>Q (x::xs) H2
section
variable {X:Cx}{e:Expr}{es:List Expr}{te:TE}{t:TA}{pos:Pos}
theorem p6:PA X [] acp:=λ_ _ _ _ H Q I h=>Calls.spliced_nil ⟨[],H,I,.nil,h⟩
theorem jd (ha:PE X e te)(hr:PA X es t)(hs:starEach (e::es) X.env=(false,eval e X.env)::starEach es X.env:=by rfl):PA X (e::es) (aa1 te t):=by
 intro pos pins s σ H Q I h
 rw [hs]
 show wpAny _ _ (spliced ((false,eval e X.env)::backTo pos (starEach es X.env))) _ _ s
 refine Calls.spliced_cons (thn (ha pins s σ H _ I h) λu s1 hE=>xq2 hE λx H1 I1 r1 q1=>?_)
 exact thn (hr pos pins s1 σ H1 _ I1 q1) λus s2 hE=>xq2 hE λxs H2 I2 r2 q2=>⟨x::xs,H2,I2,.cons r1 r2,q2⟩
def aco (t:TA):TE:=λσ H Q=>t σ H λxs H1=>xs.length<=sizeLine/\∀p,H1 p=none->Q (.ref p) (upd H1 p (.tup xs))
def acj (t:TA):TE:=λσ H Q=>t σ H λxs H1=>xs.length<=sizeLine/\∀p,H1 p=none->Q (.ref p) (upd H1 p (.lst xs))
theorem Zm {x1}(h:PA X es t):PE X (.Tuple es x1 pos) (aco t):=by
 intro pins s σ H Q I hq
 refine wpAny_Tuple_spliced (thn (h pos pins s σ H _ I hq) λus s1 ⟨xs,H1,I1,r,z,q⟩=>⟨by rw [← r.length];exact z,?_⟩)
 have hf:H1 s1.heap.objs.size=none:=I1.hok.fresh (Nat.le_refl _)
 refine ⟨.ref s1.heap.objs.size,upd H1 s1.heap.objs.size (.tup xs),I1.laid (t':=s1.toks) (λb u e=>Heap.get?_push_of_some _ e) (Nat.le_refl _) ?_,rfl,q _ hf⟩
 exact ⟨z,us,r,⟨_,Heap.get?_push_size _ rfl,rfl,_,rfl⟩⟩
theorem Rm (h:PA X es t):PE X (.List es pos) (acj t):=by
 intro pins s σ H Q I hq
 refine wpAny_List_spliced (thn (h pos pins s σ H _ I hq) λus s1 ⟨xs,H1,I1,r,z,q⟩=>⟨by rw [← r.length];exact z,?_⟩)
 have hf:H1 s1.heap.objs.size=none:=I1.hok.fresh (Nat.le_refl _)
 refine ⟨.ref s1.heap.objs.size,upd H1 s1.heap.objs.size (.lst xs),I1.laid (t':=s1.toks) (λb u e=>Heap.get?_push_of_some _ e) (Nat.le_refl _) ?_,rfl,q _ hf⟩
 exact ⟨z,us,0,r,Heap.get?_push_size _ rfl⟩
end
abbrev Sp:=List V->Hp->VK->XK->Prop
abbrev CXT:=List Env->Hp->Shared->XK->Zs
structure JX (P:Program)(w:World)(K:W.Frag)(mg:Zp)(base:Heap)(A:Around)(outer:List Env)(s:Shared)(H:Hp):Prop where
 frames:A.frames=some outer
 mod:Mod K mg base
 bs:∀b o,base.get? b=some o->s.heap.get? b=some o/\H b=none
 bsz:base.objs.size<=s.heap.objs.size
 yE:s.heap.FunFrames base outer
 frf:∀b∈frs outer,H b=none
 hok:HOk P w H s.heap
 bare:AllBare s.gens
def CE (outer:List Env)(P:Program)(w:World)(H:Hp)(s:Shared)(Q:VK)(u:Value)(s':Shared):Prop:=
 ∃v H',s'.os=s.os/\AllBare s'.gens/\Un (frs outer) [] H H' s.heap s'.heap/\HOk P w H' s'.heap/\RelV v u/\Q v H'
def CR (CX:CXT)(outer:List Env)(P:Program)(w:World)(H:Hp)(s:Shared)(Q:VK)(E:XK)(r:Result)(s':Shared):Prop:=
 match r with
 | .ok (.ret u)=>CE outer P w H s Q u s'
 | .ok _=>False
 | .error e=>CX outer H s E e s'
structure o7 (P:Program)(w:World)(K:W.Frag)(mg:Zp)(base:Heap)(CX:CXT)(k:Nat)(f:Addr)(fd:FuncData)(ps:List Str)(sp:Sp):Prop where
 len:∀vs H Q E,sp vs H Q E->vs.length=ps.length
 run:∀(A:Around) (outer:List Env) (s:Shared) (H:Hp) (args:Args) (us:List Value) (vs:List V) (Q:VK) (E:XK),gR k A->JX P w K mg base A outer s H->BindsTo s fd args (ps.zip us)->Vals vs us->sp vs H Q E->
  codeAny (model P w) A (.call (.ref f) args) (CR CX outer P w H s Q E) s
theorem o7.imp {P:Program}{w:World}{K:W.Frag}{mg:Zp}{base:Heap}{CX:CXT}{k:Nat}{f:Addr}{fd:FuncData}{ps:List Str}{sp sp':Sp}(F:o7 P w K mg base CX k f fd ps sp)
  (h:∀vs H Q E,sp' vs H Q E->sp vs H Q E):o7 P w K mg base CX k f fd ps sp':=
 ⟨λvs H Q E q=>F.len vs H Q E (h _ _ _ _ q),λA outer s H args us vs Q E hr he hb hv hs=>F.run A outer s H args us vs Q E hr he hb hv (h _ _ _ _ hs)⟩
theorem JX.in1 {P:Program}{w:World}{K:W.Frag}{mg:Zp}{base:Heap}{A:Around}{outer:List Env}{s:Shared}{H:Hp}(e:JX P w K mg base A outer s H):
  JX P w K mg base A.in1 outer s H:=⟨e.frames,e.mod,e.bs,e.bsz,e.yE,e.frf,e.hok,e.bare⟩
section
variable {X:Cx}{pins:Zl}{σ:St}{H:Hp}{s s':Shared}
theorem Inv.env0 (I:Inv X pins σ H s):JX X.prog X.w X.K X.mg X.base X.A X.stack s H:=
 ⟨I.ok.frames,I.ok.mod,I.bs,Nat.le_trans I.ok.bsz I.sz,I.stack,I.K6,I.hok,I.bare⟩
theorem Inv.after {Q:VK}{u:Value}(I:Inv X pins σ H s)(h:CE X.stack X.prog X.w H s Q u s'):EP X pins σ Q u s':=by
 obtain ⟨v,H',os,bare,un,hok,r,q⟩:=h
 obtain ⟨hh,g,d,t,os'⟩:=s'
 obtain rfl:os'=s.os:=os
 exact ⟨v,H',I.call (h':=hh) (g':=g) (d':=d) (t':=t) (ch:=[]) un hok bare (λb z=>absurd z (by simp)),r,q⟩
end
def aaG (sp:Sp)(dvs:List V)(E:XK)(t:TA):TE:=λσ H Q=>t σ H λvs H1=>sp (vs++dvs) H1 Q E
def Binds (K:W.Frag)(fd:FuncData)(ps:List Str)(ds:List Value):Prop:=
 ∀(s:Shared) (us:List Value),K.In s.heap->(us++ds).length=ps.length->BindsTo s fd ⟨us,[]⟩ (ps.zip (us++ds))
theorem Binds.all {K:W.Frag}{fd:FuncData}{ps:List Str}(h:∀us:List Value,us.length=ps.length->bindArgs fd ⟨us,[]⟩=pure (ps.zip us)):Binds K fd ps []:=λs us _ hl=>by
 rw [List.append_nil] at hl ⊢
 exact .of_eq (h us hl)
def Passes (CX:CXT)(X:Cx)(E:XK):Prop:=∀(pins:Zl) (σ:St) (H:Hp) (s:Shared) (e:Value) (s':Shared),Inv X pins σ H s->CX X.stack H s E e s'->X.xe e s'
section
variable {X:Cx}{CX:CXT}{k:Nat}{f C:Addr}{fd:FuncData}{ps:List Str}{sp:Sp}{dvs:List V}{ds:List Value}{E:XK}{x m:Str}{p pos apos:Pos}{e o:Expr}{es:List Expr}{ta:TE}{t:TA}
theorem aar {pins:Zl}{σ:St}{H:Hp}{s:Shared}{Q:VK}{us:List Value}{vs:List V}(F:o7 X.prog X.w X.K X.mg X.base CX k f fd ps sp)(hr:gR k X.A)(hb:Binds X.K fd ps ds)(hd:Vals dvs ds)(hx:Passes CX X E)
  (I:Inv X pins σ H s) (r:Vals vs us) (h:sp (vs++dvs) H Q E):wpAny (model X.prog X.w) X.A (call (.ref f) us) (EP X pins σ Q) X.xe s:=by
 have r2:Vals (vs++dvs) (us++ds):=r.append hd
 have hl:(us++ds).length=ps.length:=by rw [← r2.length];exact F.len _ _ _ _ h
 refine wpAny_call (codeAny_mono (F.run X.A X.stack s H ⟨us,[]⟩ (us++ds) (vs++dvs) Q E hr I.env0 (hb s us I.kIn hl) r2 h) λr s' hq=>?_)
 cases r with
 |error e=>exact hx pins σ H s e s' I hq
 |ok fl=>
  cases fl with
  |ret u=>exact I.after hq
  |next=>exact False.elim hq
  |brk=>exact False.elim hq
  |cont=>exact False.elim hq
theorem Ey (F:o7 X.prog X.w X.K X.mg X.base CX k f fd ps sp)(hr:gR k X.A)(hg:Gl X x)(hm:X.mg x=some (.ref f))(hk:W.keepIn X.K (.ref f)=true)(hb:Binds X.K fd ps ds)(hd:Vals dvs ds)(hx:Passes CX X E)
  (ha:PA X (e::es) t) (hdb:(x == ("__debug__" : Str))=false:=by decide) (he:starEach (e::es) X.env=(false,eval e X.env)::starEach es X.env:=by rfl) (hpl:(backTo pos (starEach es X.env)).any (·.1)=false:=by rfl):
  PE X (.Call (.Name x p) (e::es) [] pos) (aaG sp dvs E t):=by
 intro pins s σ H Q I h
 refine wpAny_Call_Name_kw (MN I hg hm ?_ hdb)
 refine W.callWith_K (h₀:=X.base) I.ok.mod.kin hk (thn (ha pos pins s σ H _ I h) λus s1 hE=>xq2 hE λvs H1 I1 r q=>⟨I1.kIn,?_⟩) he hpl
 exact aar F hr hb hd hx I1 r q
end
section
variable {X:Cx}{CX:CXT}{k:Nat}{f C:Addr}{fd:FuncData}{ps ks:List Str}{sp:Sp}{E:XK}{x m:Str}{p pos apos kpos:Pos}{e o:Expr}{es:List Expr}{kws:List Keyword}{te ta:TE}{t tk:TA}{nm:Option Str}
variable {g:List Value->List Value->List Value}{gV:List V->List V->List V}
end
structure aY (N P:List Str)(sc:Scope):Prop where
 kind:sc.kind=.function
 co:sc.isCoroutine=false
 gen:sc.isGenerator=false
 nd:N.Nodup
 pre:N.take P.length=P
 par:∀x∈P,sc.names.lookup x=some .local\/sc.names.lookup x=some .cell
 nofree:∀y∈sc.names,y.2≠.free
theorem Dc {kindOf:Str->Option NameKind}{x:Str}:∀{binds:List (Str×Value)} {m:Zp},(∀v,(x,v)∉binds)->bindL kindOf binds m x=m x
 |[],_,_=>rfl
 |(n,v)::r,m,h=>by
  unfold bindL
  rw [Dc λw hw=>h w (List.mem_cons_of_mem _ hw)]
  split
  ·have:x≠n:=by rintro rfl;exact h v List.mem_cons_self
   simp [this]
  ·rfl
theorem CZ {kindOf:Str->Option NameKind}{x:Str}:∀{binds:List (Str×Value)} {m:Zp},(∀v,(x,v)∉binds)->bindC kindOf binds m x=m x
 |[],_,_=>rfl
 |(n,v)::r,m,h=>by
  unfold bindC
  rw [CZ λw hw=>h w (List.mem_cons_of_mem _ hw)]
  split
  ·rfl
  ·have:x≠n:=by rintro rfl;exact h v List.mem_cons_self
   simp [this]
theorem CP {kindOf:Str->Option NameKind}{x:Str}{v:Value}:∀{P:List Str} {vs:List Value} {i:Nat} {m:Zp},P.Nodup->P[i]? = some x->vs[i]? = some v->kindOf x=some .local->
  bindL kindOf (P.zip vs) m x=some v
 |[],_,_,_,_,h,_,_=>by simp at h
 |_::_,[],_,_,_,_,h,_=>by simp at h
 |p::P,w::vs,0,m,nd,h1,h2,hk=>by
  simp at h1 h2;subst h1;subst h2
  show bindL kindOf ((p,w)::P.zip vs) m p=_
  unfold bindL
  rw [Dc λv hv=>(List.nodup_cons.mp nd).1 (List.of_mem_zip hv).1,if_pos hk]
  simp
 |p::P,w::vs,i+1,m,nd,h1,h2,hk=>by
  show bindL kindOf ((p,w)::P.zip vs) m x=_
  unfold bindL
  exact CP (i:=i) (List.nodup_cons.mp nd).2 (by simpa using h1) (by simpa using h2) hk
theorem Cw {kindOf:Str->Option NameKind}{x:Str}{v:Value}:∀{P:List Str} {vs:List Value} {i:Nat} {m:Zp},P.Nodup->P[i]? = some x->vs[i]? = some v->kindOf x≠some .local->
  bindC kindOf (P.zip vs) m x=some v
 |[],_,_,_,_,h,_,_=>by simp at h
 |_::_,[],_,_,_,_,h,_=>by simp at h
 |p::P,w::vs,0,m,nd,h1,h2,hk=>by
  simp at h1 h2;subst h1;subst h2
  show bindC kindOf ((p,w)::P.zip vs) m p=_
  unfold bindC
  rw [CZ λv hv=>(List.nodup_cons.mp nd).1 (List.of_mem_zip hv).1,if_neg hk]
  simp
 |p::P,w::vs,i+1,m,nd,h1,h2,hk=>by
  show bindC kindOf ((p,w)::P.zip vs) m x=_
  unfold bindC
  exact Cw (i:=i) (List.nodup_cons.mp nd).2 (by simpa using h1) (by simpa using h2) hk
noncomputable def start (N:List Str)(vs:List V):St:=vs.map some++List.replicate (N.length-vs.length) none
noncomputable def Aq (CX:CXT)(P:Program)(w:World)(K:W.Frag)(mg:Zp)(base:Heap)(N:List Str)(qual:Str)(scope:Scope)(f:Addr)(cd:Value)(A:Around)(outer:List Env)(s:Shared)(H:Hp)(E:XK):Cx where
 prog:=P
 w:=w
 K:=K
 mg:=mg
 base:=base
 A:=A.deeper (envOfC qual scope s.heap.objs.size f cd)
 N:=N
 s₀:=s
 H₀:=H
 env:=envOfC qual scope s.heap.objs.size f cd
 outer:=outer
 stack:=envOfC qual scope s.heap.objs.size f cd::outer
 ex:=[]
 calm:=true
 fn:=λ_=>true
 pn:=[]
 xe:=λe s'=>wpAny (model P w) (A.deeper (envOfC qual scope s.heap.objs.size f cd)) (leaving (envOfC qual scope s.heap.objs.size f cd) e) (λ_ s''=>CX outer H s E e s'') (λe' s''=>CX outer H s E e' s'') s'
theorem Jk {sc:Scope}{n:Nat}{x:Str}(h:sc.names.lookup x=some .cell):∃c,(cellsFrom n sc.names []).lookup x=some c:=by
 have q:=W.cellsFrom_some sc.names n [] (.inl h)
 exact Option.isSome_iff_exists.mp q
theorem Qo {CX:CXT}{P:Program}{w:World}{K:W.Frag}{mg:Zp}{base:Heap}{N ps:List Str}{qual:Str}{scope:Scope}{f:Addr}{cd:Value}{A:Around}{outer:List Env}{s s1:Shared}{H:Hp}{E:XK}{us:List Value}{vs:List V}
  (S:aY N ps scope) (hd:A.handled=none) (e0:JX P w K mg base A outer s H) (hl:vs.length=ps.length) (r:Vals vs us)
  (x:InCallC s s.heap.objs.size (bindL (envOfC qual scope s.heap.objs.size f cd).kindOf (ps.zip us) λ_=>none) (cellsFrom (s.heap.objs.size+1) scope.names []) (bindC (envOfC qual scope s.heap.objs.size f cd).kindOf (ps.zip us) λ_=>none) s1):
  Inv (Aq CX P w K mg base N qual scope f cd A outer s H E) [] (start N vs) H s1:=by
 have hpl:ps.length<=N.length:=by have:=congrArg List.length S.pre;rw [List.length_take] at this;omega
 obtain ⟨h1,tk,rfl,hk⟩:=x.done
 have noA:∀b:Addr,b∉(Aq CX P w K mg base N qual scope f cd A outer s H E).ex:=λb z=>absurd (show b∈([]:List Addr) from z) (by simp)
 refine ⟨⟨e0.mod,S.kind,rfl,rfl,Nat.le_refl _,λy z c h1 h2=>?_,λy hy=>?_,λy c _ h=>?_,λ_=>hd,Around.frames_deeper e0.frames,.inr ⟨rfl,rfl⟩,λb z=>absurd z (noA b),e0.bs,e0.bsz,λb _ _=>noA b,λb z=>absurd z (noA b),e0.yE,e0.frf⟩,
  rfl,e0.bare,Un.kept hk,⟨_,x.toInCall.ns,λi y v h1 h2 h3=>?_⟩,λy c h=>⟨_,x.cell y c h⟩,e0.hok.fresh (Nat.le_refl _),λy c h=>?_,λp hp=>absurd (show p∈([]:Zl) from hp) (by simp),e0.hok.kept hk,?_⟩
 ·exact name_of_addr x.apart (PySem.mem_of_lookup h1) (PySem.mem_of_lookup h2)
 ·have hy:scope.names.lookup y=some .cell\/scope.names.lookup y=some .free:=hy
  rcases hy with hy | hy
  ·exact Jk hy
  ·exact absurd rfl (S.nofree _ (PySem.mem_of_lookup hy))
 ·exact Nat.le_of_lt (x.above y c (PySem.mem_of_lookup h))
 ·have hi:i<vs.length:=by
   unfold start at h2
   by_cases hi:i<vs.length
   ·exact hi
   ·rw [List.getElem?_append_right (by simpa using hi)] at h2
    rw [List.getElem?_replicate] at h2
    split at h2<;>cases h2
  have ha:vs[i]? = some v:=by
   unfold start at h2
   rw [List.getElem?_append_left (by simpa using hi),List.getElem?_map] at h2
   cases e:vs[i]? with
   |none=>rw [e] at h2;cases h2
   |some a=>rw [e] at h2;cases h2;rfl
  obtain ⟨u,hu,rv⟩:=r.get ha
  have hp:ps[i]? = some y:=by
   rw [← S.pre,List.getElem?_take_of_lt (by omega)];exact h1
  have ndP:ps.Nodup:=by rw [← S.pre];exact S.nd.sublist (List.take_sublist _ _)
  refine ⟨u,rv,?_⟩
  rcases S.par y (List.mem_of_getElem? hp) with k | k
  ·exact .inl ⟨k,CP ndP hp hu k⟩
  ·obtain ⟨c,e⟩:=Jk (n:=s.heap.objs.size+1) k
   refine .inr ⟨.inl k,c,e,?_⟩
   have q:=x.cell y c e
   rw [Cw ndP hp hu (by show scope.names.lookup y≠_;rw [k];decide)] at q
   exact q
 ·exact e0.hok.fresh (Nat.le_of_lt (x.above y c (PySem.mem_of_lookup h)))
 ·unfold start
  show _=N.length
  rw [List.length_append,List.length_map,List.length_replicate]
  omega
theorem aaW {CX:CXT}{P:Program}{w:World}{K:W.Frag}{mg:Zp}{base:Heap}{k:Nat}{f:Addr}{name qual:Str}{params:Arguments}{body:List Stmt}{scope:Scope}{dV kV doc pm cdv ct oc:Value}{an od:Option Addr}
  {osl:Array (Option Value)} {N ps:List Str} {sp:Sp} (lk:K.lookup f=some ⟨oc,od,.func (W.fnOf name qual params body scope dV kV doc pm an cdv ct),osl⟩) (hcd:W.codeIn K cdv qual=true) (S:aY N ps scope)
  (len:∀vs H Q E,sp vs H Q E->vs.length=ps.length)
  (hbody:∀(A:Around) (outer:List Env) (s:Shared) (H:Hp) (vs:List V) (Q:VK) (E:XK),gR k (A.deeper (envOfC qual scope s.heap.objs.size f cdv))->sp vs H Q E->
   ∃t,PSs (Aq CX P w K mg base N qual scope f cdv A outer s H E) body t/\t { nx:=λ_ H'=>Q .non H',rt:=Q } (start N vs) H):
  o7 P w K mg base CX (k+1) f (W.fnOf name qual params body scope dV kV doc pm an cdv ct) ps sp:=by
 refine ⟨len,λA outer s H args us vs Q E hr e0 hb r hsp=>?_⟩
 have hl:=len _ _ _ _ hsp
 have KX:K.In s.heap:=e0.mod.kin.keeps λb o e=>(e0.bs b o e).1
 have lim:s.heap.NoLimit:=e0.mod.nolimit.keeps λb o e=>(e0.bs b o e).1
 have hkind:∀y∈ps.zip us,scope.names.lookup y.1=some .local\/(scope.names.lookup y.1=some .cell/\((cellsFrom (s.heap.objs.size+1) scope.names []).lookup y.1).isSome=true):=λ⟨n,v⟩ hy=>by
  rcases S.par n (List.of_mem_zip hy).1 with q | q
  ·exact .inl q
  ·exact .inr ⟨q,W.cellsFrom_some _ _ _ (.inl q)⟩
 refine codeAny_call_function hr.depth (KX _ _ lk) rfl S.co S.gen rfl (W.codeRec_of KX hcd) (hb _ _ _ _ ?_)
 refine wpAny_newFunctionEnv_cells S.kind hkind λenv he s1 x=>?_
 subst he
 refine ⟨lim.keeps x.toInCall.keep,codeAny_func ?_⟩
 obtain ⟨t,ht,hq⟩:=hbody A outer s H vs Q E (hr.deeper _) hsp
 have I:Inv (Aq CX P w K mg base N qual scope f cdv A outer s H E) [] (start N vs) H s1:=Qo S hr.hd e0 hl r x
 refine wpAny_mono (ht [] s1 (start N vs) H _ I hq) (λfl s' hs=>?_) λe s' hs=>hs
 have fin:∀{σ':St} {H':Hp} {v:V} {u:Value},Inv (Aq CX P w K mg base N qual scope f cdv A outer s H E) [] σ' H' s'->RelV v u->Q v H'->CE outer P w H s Q u s':=
  λ{σ' H' v u} J rv q=>⟨v,H',J.os,J.bare,J.base,J.hok,rv,q⟩
 cases fl with
 |ret u=>
  obtain ⟨v,σ',H',J,rv,q⟩:=hs
  exact fin J rv q
 |next=>
  obtain ⟨σ',H',J,q⟩:=hs
  exact fin (v:=V.non) (u:=Value.none) J rfl q
 |brk=>
  obtain ⟨_,_,_,q⟩:=hs
  exact False.elim q
 |cont=>
  obtain ⟨_,_,_,q⟩:=hs
  exact False.elim q
section
variable {X:Cx}{x:Str}{p pos:Pos}{e:Expr}{es:List Expr}{t:TA}{id T:String}{r:List V->Hp->VK->Prop}
def tCB (r:List V->Hp->VK->Prop)(t:TA):TE:=λσ H Q=>t σ H λvs H1=>r vs H1 Q
theorem Hv (hc:iW X (.builtin id) r)(hg:Gl X x)(hm:X.mg x=none)(hv:bootBuiltins x=some (.builtin id))(ha:PA X (e::es) t)(hn:x≠"__name__":=by decide)(hdb:(x == ("__debug__" : Str))=false:=by decide)
  (he:starEach (e::es) X.env=(false,eval e X.env)::starEach es X.env:=by rfl) (hpl:(backTo pos (starEach es X.env)).any (·.1)=false:=by rfl):PE X (.Call (.Name x p) (e::es) [] pos) (tCB r t):=by
 intro pins s σ H Q I h
 refine wpAny_Call_Name_kw (o9 I hg hm hv ?_ hn hdb)
 exact PyProof.Rows.callWith_builtin1 (thn (ha pos pins s σ H _ I h) λus s1 hE=>xq2 hE λvs H1 I1 r1 q1=>hc pins s1 σ H1 vs us Q I1 r1 q1) he hpl
theorem wG (hc:iW X (.type T) r)(hg:Gl X x)(hm:X.mg x=none)(hv:bootBuiltins x=some (.type T))(ha:PA X (e::es) t)(hn:x≠"__name__":=by decide)(hdb:(x == ("__debug__" : Str))=false:=by decide)
  (he:starEach (e::es) X.env=(false,eval e X.env)::starEach es X.env:=by rfl) (hpl:(backTo pos (starEach es X.env)).any (·.1)=false:=by rfl):PE X (.Call (.Name x p) (e::es) [] pos) (tCB r t):=by
 intro pins s σ H Q I h
 refine wpAny_Call_Name_kw (o9 I hg hm hv ?_ hn hdb)
 exact PyProof.Rows.callWith_type1 (thn (ha pos pins s σ H _ I h) λus s1 hE=>xq2 hE λvs H1 I1 r1 q1=>hc pins s1 σ H1 vs us Q I1 r1 q1) he hpl
end
end L2
namespace HT
open PySem PyProof.Rows
noncomputable def lexLt:List Int->List Int->Bool
 |[],[]=>false
 |[],_::_=>true
 |_::_,[]=>false
 |x::xs,y::ys=>if x=y then lexLt xs ys else decide (x<y)
theorem JF (x y:Int)(xs ys:List Int):lexLt (x::xs) (y::ys)=if x=y then lexLt xs ys else decide (x<y):=rfl
theorem Cd:lexLt [] []=false:=rfl
theorem Bb (y:Int)(ys:List Int):lexLt [] (y::ys)=true:=rfl
theorem zu (x:Int)(xs:List Int):lexLt (x::xs) []=false:=rfl
theorem UJ (A:Around)(s:Shared)(a:Int)(t:Tok)(c:Int)(u:Tok):∃e,SeqAt.EqAt A s (.int a t) (.int c u) e/\(e=true↔a=c):=
 ⟨(a == c),SeqAt.EqAt.int_int a t c u,by simp⟩
theorem QV (A:Around)(s:Shared)(a:Int)(t:Tok)(c:Int)(u:Tok)(prog:Program)(w:World)(E:Zs)(Q:Zs)(h:Q (.bool (decide (a<c))) s):
  wpAny (model prog w) A (richCompare .Lt (.int a t) (.int c u)) Q E s:=
 (PyProof.Rows.lt_int h:wpAny (model prog w) A (compareOp .Lt (.int a t) (.int c u)) Q E s)
section
open PySem.SeqAt
open PySem.AutoSeq1 (wpAny_loadPart')
open PySem.MeetsSeq PySem.MeetsSeq2 PySem.MeetsSeq3
theorem BP (l b:Addr)(items items2:Array Value)(n n2:Nat)(dd dd2:Option Addr)(sl sl2:Array (Option Value))(ns ms:List Int)(hi:IntsAre items.toList ns)(hj:IntsAre items2.toList ms):
  Meets (Builtin.«tuple.__lt__» ⟨[.ref l,.ref b],[]⟩)
   (λ_ R s=>s.heap.get? l=some { cls:=.type "tuple",dict:=dd,data:=.seq items n,slots:=sl }/\s.heap.get? b=some { cls:=.type "tuple",dict:=dd2,data:=.seq items2 n2,slots:=sl2 }/\
    R (.ok (.ret (.bool (lexLt ns ms)))) s):=
 .of_wp λprog w A R s h=>by
  obtain ⟨hp,g,d,tk,os⟩:=s;obtain ⟨hl,hb,h⟩:=h
  have f2:=AutoSeq1.sub_tuple_tuple
  have z1:items.size=ns.length:=by rw [← hi.length];simp
  have z2:items2.size=ms.length:=by rw [← hj.length];simp
  wp_walk using wpAny_loadPart' hl,wpAny_loadPart' hb,wpAny_forIn_list _ (λrest b s'=>b.1=none/\s'=⟨hp,g,d,tk,os⟩/\∃(vs ws:List Value) (ns' ms':List Int),rest=vs.zip ws/\
   IntsAre vs ns'/\IntsAre ws ms'/\ns'.length+items2.size=ms'.length+items.size/\R (.ok (.ret (.bool (lexLt ns' ms')))) ⟨hp,g,d,tk,os⟩) _
  case turn=>
   rintro ⟨y,x⟩ rest b s' ⟨hb',rfl,vs,ws,ns',ms',hz,hvi,hwi,hlen,hR⟩
   cases hvi with
   |nil=>rw [List.zip_nil_left] at hz;cases hz
   |cons a t hvi'=>
    cases hwi with
    |nil=>rw [List.zip_nil_right] at hz;cases hz
    |cons c u hwi'=>
     rw [List.zip_cons_cons] at hz
     injection hz with hyx hrest
     injection hyx with hy hx
     subst hy hx
     rw [JF] at hR
     simp only [List.length_cons] at hlen
     obtain ⟨e,he,hiff⟩:=UJ A.in1 ⟨hp,g,d,tk,os⟩ a t c u
     refine wpAny_bind (he prog w _ _ ?_)
     cases e with
     |true=>
      rw [if_pos (hiff.mp rfl)] at hR
      wp_walk
      exact ⟨rfl,rfl,_,_,_,_,hrest,hvi',hwi',by omega,hR⟩
     |false=>
      rw [if_neg (λq=>absurd (hiff.mpr q) Bool.false_ne_true)] at hR
      have hri:=QV A.in1 ⟨hp,g,d,tk,os⟩ a t c u prog w
      wp_walk using hri
      exact ⟨_,rfl,by simpa using hR⟩
  case fin=>
   rintro ⟨b1,b2⟩ s' ⟨hb',rfl,vs,ws,ns',ms',hz,hvi,hwi,hlen,hR⟩
   simp only at hb'
   subst hb'
   have hv:lexLt ns' ms'=decide (items.size<items2.size):=by
    cases hvi with
    |nil=>
     cases hwi with
     |nil=>
      simp only [List.length_nil] at hlen
      rw [Cd]
      exact (decide_eq_false (by omega)).symm
     |cons c u hw=>
      simp only [List.length_nil,List.length_cons] at hlen
      rw [Bb]
      exact (decide_eq_true (by omega)).symm
    |cons a t hv=>
     cases hwi with
     |nil=>
      simp only [List.length_nil,List.length_cons] at hlen
      rw [zu]
      exact (decide_eq_false (by omega)).symm
     |cons c u hw=>
      rw [List.zip_cons_cons] at hz
      cases hz
   rw [hv] at hR
   wp_walk
   exact ⟨_,rfl,by simpa [Builtin.Tuple.tupleCompareSizes] using hR⟩
  case h=>
   exact ⟨rfl,rfl,items.toList,items2.toList,ns,ms,rfl,hi,hj,by omega,h⟩
end
section
variable {prog:Program}{w:World}{A:Around}{E:Zs}{s:Shared}
theorem JL {l b:Addr}{items items2:Array Value}{ns ms:List Int}{Q:Zs}(hl:IsTup s.heap l items)(hb:IsTup s.heap b items2)(hi:IntsAre items.toList ns)(hj:IntsAre items2.toList ms)
  (hu:A.units<cLine) (h:Q (.bool (lexLt ns ms)) s):wpAny (model prog w) A (compareOp .Lt (.ref l) (.ref b)) Q E s:=by
 obtain ⟨⟨cls,dd,data,sl⟩,ho,hc,n,hd⟩:=id hl
 obtain ⟨⟨cls2,dd2,data2,sl2⟩,ho2,hc2,n2,hd2⟩:=id hb
 simp only at hc hd hc2 hd2
 subst hc hd hc2 hd2
 exact richCompare_meets_room (op:=.Lt) ⟨_,ho,rfl⟩ ⟨_,ho2,rfl⟩ PySem.F.slot_tuple_lt PySem.F.entry_tuple_lt (PySem.F.args_tuple_lt_2 _ _) (BP l b items items2 n n2 dd dd2 sl sl2 ns ms hi hj)
  ⟨ho,ho2,show Value.bool (lexLt ns ms)≠Value.notImplemented/\Q (.bool (lexLt ns ms)) s from ⟨(λx=>nomatch x),h⟩⟩ hu
theorem Xr {t b:Addr}{vs ws:List Value}{Q:Zs}(ht:IsTup s.heap t vs.toArray)(hb:IsTup s.heap b ws.toArray)(hv:vs≠[])
  (h1:ws=[]->Q (.ref t) s) (h2:ws≠[]->Q (.ref s.heap.objs.size) { s with heap:=s.heap.push { cls:=.type "tuple",data:=.seq (vs++ws).toArray } })
  (hsz:vs.length+ws.length<=sizeLine):wpAny (model prog w) A (binaryOp .Add (.ref t) (.ref b)) Q E s:=by
 obtain ⟨⟨cls,dd,data,sl⟩,ho,hc,n,hd⟩:=id ht
 obtain ⟨⟨cls2,dd2,data2,sl2⟩,ho2,hc2,n2,hd2⟩:=id hb
 simp only at hc hd hc2 hd2
 subst hc hd hc2 hd2
 have e:vs.toArray++ws.toArray=(vs++ws).toArray:=by simp
 by_cases hw:ws=[]
 ·exact concat_meets ⟨_,ho,rfl⟩ ⟨_,ho2,rfl⟩ noFill_tuple_add seq_tuple_add PySem.F.slot_tuple_add PySem.F.entry_tuple_add (PySem.F.args_tuple_add_2 _ _)
   (tuple_addW1 t b vs.toArray ws.toArray n n2 dd dd2 sl sl2 (by simpa using hv) (by simp [hw])) ⟨ho,ho2,h1 hw⟩
 ·refine concat_meets ⟨_,ho,rfl⟩ ⟨_,ho2,rfl⟩ noFill_tuple_add seq_tuple_add PySem.F.slot_tuple_add PySem.F.entry_tuple_add (PySem.F.args_tuple_add_2 _ _)
   (tuple_addW2 t b vs.toArray ws.toArray n n2 dd dd2 sl sl2 (by simpa using hv) (by simpa using hw) (by rw [List.size_toArray,List.size_toArray];exact hsz)) ⟨ho,ho2,?_⟩
  rw [e]
  exact h2 hw
noncomputable def sIx (n d:Nat):Option Int->Nat
 |none=>d
 |some v=>if v<0 then (v+(n:Int)).toNat else min v.toNat n
theorem Zz (n d:Nat)(hd:d<=n)(o:Option Int):sIx n d o<=n:=by
 cases o with
 |none=>exact hd
 |some v=>
  show (if v<0 then (v+(n:Int)).toNat else min v.toNat n)<=n
  by_cases hv:v<0
  ·rw [if_pos hv];omega
  ·rw [if_neg hv];exact Nat.min_le_right _ _
theorem Mv (v:Int)(n d:Nat):(if v<0 then max (v+(n:Int)) 0 else min v (n:Int))=((sIx n d (some v):Nat):Int):=by
 show (if v<0 then max (v+(n:Int)) 0 else min v (n:Int))=(((if v<0 then (v+(n:Int)).toNat else min v.toNat n):Nat):Int)
 by_cases hv:v<0
 ·simp only [if_pos hv];omega
 ·simp only [if_neg hv];omega
theorem Jw (lo hi:Option Int)(n:Nat):Builtin.Slice.sliceAdjust lo hi 1 (n:Int)=(((sIx n 0 lo:Nat):Int),((sIx n n hi:Nat):Int)):=by
 have h1:¬((1:Int)<0):=by omega
 unfold Builtin.Slice.sliceAdjust
 simp only [h1,if_false]
 refine Prod.ext ?_ ?_
 ·cases lo with
  |none=>rfl
  |some v=>exact Mv v n 0
 ·cases hi with
  |none=>rfl
  |some v=>exact Mv v n n
theorem J6 (i j:Nat):Builtin.Slice.slicePlaces (i:Int) (j:Int) 1=j-i:=by
 unfold Builtin.Slice.slicePlaces
 have h1:(1:Int) > 0:=by omega
 simp only [h1,if_true,Int.ediv_one]
 split<;>omega
theorem Aj {v:Value}{o:Option Int}{Q:Option Int->Shared->Prop}(p:IsPart v o)(h:Q o s):wpAny (model prog w) A (Builtin.Slice.slicePartIndex v) Q E s:=by
 cases p with
 |none=>exact slicePart_none h
 |int i t=>exact slicePart_int h
theorem wy {sl:Addr}{vl vu:Value}{lo hi:Option Int}{n:Nat}{Q:Int×Int×Nat->Shared->Prop}(hs:s.heap.IsSliceOf sl vl vu .none)(pl:IsPart vl lo)(pu:IsPart vu hi)
  (h:Q (((sIx n 0 lo:Nat):Int),1,sIx n n hi-sIx n 0 lo) s):wpAny (model prog w) A (Builtin.Slice.sliceApplied (.ref sl) (pure (n:Int))) Q E s:=by
 obtain ⟨os,hos,hcs,hds⟩:=id hs
 unfold Builtin.Slice.sliceApplied Builtin.Slice.sliceFields
 refine wpAny_bind (wpAny_bind (wpAny_field hos hds (x:=vl) rfl (wpAny_bind (wpAny_field hos hds (x:=vu) rfl (wpAny_bind (wpAny_field hos hds (x:=.none) rfl (wpAny_pure ?_)))))))
 refine wpAny_bind (slicePart_none ?_)
 show wpAny _ _ (if ((1:Int) == 0)=true then _ else _) _ _ s
 rw [if_neg (by decide)]
 refine wpAny_bind (Aj pl (wpAny_bind (Aj pu (wpAny_bind (wpAny_pure ?_)))))
 show wpAny _ _ (match Builtin.Slice.sliceAdjust lo hi 1 (n:Int) with | (lo,hi)=>pure (lo,(1:Int),Builtin.Slice.slicePlaces lo hi 1)) _ _ s
 rw [Jw lo hi n]
 show wpAny _ _ (pure (((sIx n 0 lo:Nat):Int),(1:Int),Builtin.Slice.slicePlaces ((sIx n 0 lo:Nat):Int) ((sIx n n hi:Nat):Int) 1)) _ _ s
 rw [J6]
 exact wpAny_pure h
theorem Sg (xs:Array Value)(i k:Nat):((List.range k).filterMap λ(m:Nat)=>xs[((i:Int)+(m:Int)*1).toNat]?).toArray=((xs.toList.drop i).take k).toArray:=by
 have e:(λ(m:Nat)=>xs[((i:Int)+(m:Int)*1).toNat]?)=λm=>xs[i+m]?:=by
  funext m
  have:((i:Int)+(m:Int)*1).toNat=i+m:=by omega
  rw [this]
 rw [e]
 have:=pick_run xs i k
 rw [List.filterMap_map] at this
 have e2:((λx=>xs[x]?) ∘ λx=>i+x)=λm=>xs[i+m]?:=rfl
 rw [e2] at this
 rw [this]
theorem uW {t sl:Addr}{items:Array Value}{vl vu:Value}{lo hi:Option Int}{Q:Zs}(ht:IsTup s.heap t items)(hs:s.heap.IsSliceOf sl vl vu .none)(pl:IsPart vl lo)(pu:IsPart vu hi)
  (hw:¬(sIx items.size 0 lo=0/\sIx items.size items.size hi=items.size))
  (h:Q (.ref s.heap.objs.size) { s with heap:=s.heap.push { cls:=.type "tuple",data:=.seq ((items.toList.drop (sIx items.size 0 lo)).take (sIx items.size items.size hi-sIx items.size 0 lo)).toArray } })
  (hsz:items.size<=sizeLine):wpAny (model prog w) A (getItem (.ref t) (.ref sl)) Q E s:=by
 have htake:sizeOk (.seq ((items.toList.drop (sIx items.size 0 lo)).take (sIx items.size items.size hi-sIx items.size 0 lo)).toArray):=by
  show ((items.toList.drop (sIx items.size 0 lo)).take (sIx items.size items.size hi-sIx items.size 0 lo)).toArray.size<=sizeLine
  rw [List.size_toArray,List.length_take,List.length_drop,Array.length_toList]
  omega
 have hj:sIx items.size items.size hi<=items.size:=Zz _ _ (Nat.le_refl _) hi
 obtain ⟨os,hos,hcs,hds⟩:=id hs
 have hTs:s.TypeIs (.ref sl) "slice":=⟨os,hos,hcs⟩
 unfold getItem
 try with_reducible refine wpAny_holding ?_
 first | refine wpAny_bind (wpAny_pure ?_) | skip
 refine wpAny_bind (wpAny_sequenceKey ht.typeIs (by decide) ?_)
 refine wpAny_bind (wpAny_callSpecial?_slot (name:=Str.ofString "__getitem__") ht.typeIs PyProof.Rows.slot_tuple_getitem
  (wpAny_call_entry PyProof.Rows.slot_tuple_getitem ht.typeIs entry_tuple_getitem ?_ (args_tuple_getitem _ _)))
 show wpAny _ _ (Builtin.Tuple.tupleItemsOf (.ref t) >>= _) _ _ s
 refine wpAny_bind (tupleItemsOf_ ht ?_)
 refine wpAny_bind (wpAny_typeOf hTs ?_)
 rw [if_pos (by decide)]
 refine wpAny_bind (wy hs pl pu ?_)
 have hno:¬((((sIx items.size 0 lo:Nat):Int) == 0 && (1:Int) == 1 && (sIx items.size items.size hi-sIx items.size 0 lo) == items.size)=true):=by
  intro q
  rw [Bool.and_eq_true,Bool.and_eq_true] at q
  have q1:((sIx items.size 0 lo:Nat):Int)=0:=eq_of_beq q.1.1
  have q2:sIx items.size items.size hi-sIx items.size 0 lo=items.size:=eq_of_beq q.2
  exact hw ⟨by omega,by omega⟩
 show wpAny _ _ (if (((sIx items.size 0 lo:Nat):Int) == 0 && (1:Int) == 1 && (sIx items.size items.size hi-sIx items.size 0 lo) == items.size)=true then _ else _) _ _ s
 rw [if_neg hno,Sg]
 first
  |exact wpAny_bind (m:=Builtin.Tuple.tupleExact _) (wpAny_newObj_type (wpAny_pure ⟨_,rfl,wpAny_pure h⟩) htake)
  |exact wpAny_bind (m:=Builtin.Tuple.tupleExact _) (wpAny_newObj_type (wpAny_bind (wpAny_pure (wpAny_pure ⟨_,rfl,wpAny_pure h⟩))) htake)
  |exact wpAny_bind (wpAny_bind (m:=Builtin.Tuple.tupleExact _) (wpAny_newObj_type (wpAny_pure (wpAny_pure ⟨_,rfl,wpAny_pure h⟩)) htake))
  |exact wpAny_bind (wpAny_bind (m:=Builtin.Tuple.tupleExact _) (wpAny_newObj_type (wpAny_pure ⟨_,rfl,wpAny_pure h⟩) htake))
end
end HT
namespace L2
open PySem PySem.Spec PyProof.Rows
abbrev TO:=St->Hp->(Option Int->Hp->Prop)->Prop
def PO (X:Cx)(e:Option Expr)(t:TO):Prop:=
 ∀(pins:Zl) (s:Shared) (σ:St) (H:Hp) (Q:Option Int->Hp->Prop),Inv X pins σ H s->t σ H Q->
  wpAny (model X.prog X.w) X.A (evalPart e X.env) (λu s'=>∃o H',Inv X pins σ H' s'/\IsPart u o/\Q o H') X.xe s
def V9:TO:=λ_ H Q=>Q none H
def abX (t:TE):TO:=λσ H Q=>t σ H λx H1=>∃i,x=.int i/\Q (some i) H1
theorem intsAre_of {ns:List Int}:∀{us:List Value},Vals (ns.map V.int) us->IntsAre us ns:=by
 induction ns with
 |nil=>intro us r;rw [List.map_nil] at r;cases r;exact .nil
 |cons n ns ih=>
  intro us r
  rw [List.map_cons] at r
  cases r with
  |cons r1 r2=>
   obtain ⟨t,e⟩:=r1
   subst e
   exact .cons n t (ih r2)
section
variable {X:Cx}{e:Expr}{te:TE}{lo hi:Option Expr}{tl th:TO}{pos p2:Pos}
theorem Vs:PO X none V9:=by
 intro pins s σ H Q I h
 rw [evalPart_none]
 exact wpAny_pure ⟨none,H,I,.none,h⟩
theorem Wv (h:PE X e te):PO X (some e) (abX te):=by
 intro pins s σ H Q I hw
 rw [evalPart_some]
 refine thn (h pins s σ H _ I hw) λu s1 hE=>xq2 hE λx H1 I1 r1 q1=>?_
 obtain ⟨i,rfl,q⟩:=q1
 obtain ⟨t,rfl⟩:=r1
 exact ⟨some i,H1,I1,.int i t,q⟩
def SlR (X:Cx)(r:V->Option Int->Option Int->Hp->VK->Prop):Prop:=
 ∀(pins:Zl) (s:Shared) (σ:St) (H:Hp) (x:V) (v vl vu:Value) (lo hi:Option Int) (sl:Addr) (Q:VK),Inv X pins σ H s->RelV x v->s.heap.IsSliceOf sl vl vu .none->IsPart vl lo->IsPart vu hi->r x lo hi H Q->
  ∃T id,typeLookup (.type T) "__getitem__" = pure (some (.builtin id))/\s.TypeIs v T/\wpAny (model X.prog X.w) X.A (getItem v (.ref sl)) (EP X pins σ Q) X.xe s
def tSl (r:V->Option Int->Option Int->Hp->VK->Prop)(te:TE)(tl th:TO):TE:=λσ H Q=>te σ H λx H1=>tl σ H1 λl H2=>th σ H2 λu H3=>r x l u H3 Q
theorem RM {r:V->Option Int->Option Int->Hp->VK->Prop}(hr:SlR X r)(he:PE X e te)(hl:PO X lo tl)(hu:PO X hi th):PE X (.Subscript e (.Slice lo hi none p2) pos) (tSl r te tl th):=by
 intro pins s σ H Q I h
 refine Subscript_ (thn (he pins s σ H _ I h) λv s1 hE=>xq2 hE λx H1 I1 r1 q1=>?_)
 refine wpAny_Slice (thn (hl pins s1 σ H1 _ I1 q1) λvl s2 ⟨l,H2,I2,pl,q2⟩=>thn (hu pins s2 σ H2 _ I2 q2) λvu s3 ⟨u,H3,I3,pu,q3⟩=>?_)
 rw [evalPart_none]
 refine wpAny_pure ?_
 have I4:Inv X pins σ H3 { s3 with heap:=s3.heap.push { cls:=.type "slice",data:=.fields #[vl,vu,.none] } }:=I3.kept (t':=s3.toks) λb ob q=>Heap.get?_push_of_some _ q
 obtain ⟨T,id,hT,ht,hg⟩:=hr pins { s3 with heap:=s3.heap.push { cls:=.type "slice",data:=.fields #[vl,vu,.none] } } σ H3 x v vl vu l u s3.heap.objs.size Q I4 r1 (Heap.IsSliceOf.new ..) pl pu q3
 show wpAny (model X.prog X.w) X.A (subscriptTail e (.Slice lo hi none p2) v (.ref s3.heap.objs.size)) (EP X pins σ Q) X.xe { s3 with heap:=s3.heap.push { cls:=.type "slice",data:=.fields #[vl,vu,.none] } }
 exact tail_any (ops:=[.ref s3.heap.objs.size,v]) ht hT hg (by with_unfolding_all rfl)
noncomputable def Ja (xs:List V)(lo hi:Option Int):List V:=(xs.drop (HT.sIx xs.length 0 lo)).take (HT.sIx xs.length xs.length hi-HT.sIx xs.length 0 lo)
theorem xJ (xs:List V)(lo hi:Option Int):(Ja xs lo hi).length<=xs.length:=by
 unfold Ja
 rw [List.length_take,List.length_drop]
 omega
def acw (K:W.Frag):V->Option Int->Option Int->Hp->VK->Prop:=λx lo hi H Q=>∃a xs,x=.ref a/\SqT K H a xs/\
 ¬(HT.sIx xs.length 0 lo=0/\HT.sIx xs.length xs.length hi=xs.length)/\∀p,H p=none->Q (.ref p) (upd H p (.tup (Ja xs lo hi)))
theorem ZM:SlR X (acw X.K):=by
 intro pins s σ H x v vl vu lo hi sl Q I rx hs pl pu h
 obtain ⟨a,xs,rfl,hx,hw,q⟩:=h
 cases rx
 obtain ⟨its,r,ht,hz⟩:=I.tuple hx
 have hlen:its.toArray.size=xs.length:=by rw [List.size_toArray];exact r.length.symm
 refine ⟨"tuple",_,PyProof.Rows.slot_tuple_getitem.lookup,ht.typeIs,?_⟩
 refine HT.uW ht hs pl pu (by rw [hlen];exact hw) ?_ (by rw [hlen];exact hz)
 rw [hlen]
 refine ⟨.ref s.heap.objs.size,_,I.laid (t':=s.toks) (o:=.tup (Ja xs lo hi)) (λb ob q=>Heap.get?_push_of_some _ q) (Nat.le_refl _) ?_,rfl,q _ (I.hok.fresh (Nat.le_refl _))⟩
 exact ⟨Nat.le_trans (xJ xs lo hi) hz,_,(r.drop (HT.sIx xs.length 0 lo)).take (HT.sIx xs.length xs.length hi-HT.sIx xs.length 0 lo),IsTup.new _ _⟩
def acK (K:W.Frag):R2:=λx y H Q=>∃a b ns ms,x=.ref a/\y=.ref b/\SqT K H a (ns.map V.int)/\SqT K H b (ms.map V.int)/\Q (.bl (HT.lexLt ns ms)) H
theorem Y8 (hu:X.A.units<cLine):OpR X (compareOp .Lt) (acK X.K):=by
 intro pins s σ H x y v u Q I rx ry h
 obtain ⟨a,b,ns,ms,rfl,rfl,ha,hb,q⟩:=h
 cases rx
 cases ry
 obtain ⟨its,r1,p1,_⟩:=I.tuple ha
 obtain ⟨its2,r2,p2,_⟩:=I.tuple hb
 have i1:IntsAre its.toArray.toList ns:=intsAre_of r1
 have i2:IntsAre its2.toArray.toList ms:=intsAre_of r2
 exact HT.JL p1 p2 i1 i2 hu ⟨.bl (HT.lexLt ns ms),H,I,rfl,q⟩
def abZ (K:W.Frag):R2:=λx y H Q=>∃a b xs ys,x=.ref a/\y=.ref b/\SqT K H a xs/\SqT K H b ys/\xs≠[]/\xs.length+ys.length<=sizeLine/\
 (ys=[]->Q (.ref a) H)/\(ys≠[]->∀p,H p=none->Q (.ref p) (upd H p (.tup (xs++ys))))
theorem Vals.GX {xs:List V}{us:List Value}(r:Vals xs us):us=[]↔xs=[]:=by
 cases r with
 |nil=>simp
 |cons _ _=>simp
theorem V7:OpR X (binaryOp .Add) (abZ X.K):=by
 intro pins s σ H x y v u Q I rx ry h
 obtain ⟨a,b,xs,ys,rfl,rfl,ha,hb,hx,hz,q1,q2⟩:=h
 cases rx
 cases ry
 obtain ⟨its,r1,p1,_⟩:=I.tuple ha
 obtain ⟨its2,r2,p2,_⟩:=I.tuple hb
 refine HT.Xr p1 p2 (λz=>hx (r1.GX.mp z)) (λz=>⟨.ref a,H,I,rfl,q1 (r2.GX.mp z)⟩) (λz=>?_) (by rw [← r1.length,← r2.length];exact hz)
 refine ⟨.ref s.heap.objs.size,_,I.laid (t':=s.toks) (o:=.tup (xs++ys)) (λb ob q=>Heap.get?_push_of_some _ q) (Nat.le_refl _) ?_,rfl,q2 (λw=>z (r2.GX.mpr w)) _ (I.hok.fresh (Nat.le_refl _))⟩
 exact ⟨by rw [List.length_append];exact hz,_,r1.append r2,IsTup.new _ _⟩
end
noncomputable def ixN (n:Nat)(i:Int):Option Nat:=if 0<=i then (if i<n then some i.toNat else none) else if -(n:Int)<=i then some (i+n).toNat else none
noncomputable def atI {α:Type}(xs:List α)(i:Int):Option α:=(ixN xs.length i).bind λj=>xs[j]?
theorem Mq {n:Nat}{i:Int}{j:Nat}(h:ixN n i=some j):seqIndex? i n=some j/\j<n/\-(n:Int)<=i/\i<n:=by
 unfold ixN at h
 by_cases h0:0<=i
 ·rw [if_pos h0] at h
  by_cases h1:i<n
  ·rw [if_pos h1] at h
   have e:i.toNat=j:=Option.some.inj h
   exact ⟨by rw [seqIndex_of h0 h1,e],by omega,by omega,h1⟩
  ·rw [if_neg h1] at h;cases h
 ·rw [if_neg h0] at h
  by_cases h1:-(n:Int)<=i
  ·rw [if_pos h1] at h
   have e:(i+n).toNat=j:=Option.some.inj h
   exact ⟨by rw [seqIndex_neg (by omega) h1,e],by omega,h1,by omega⟩
  ·rw [if_neg h1] at h;cases h
theorem G6 {α:Type}{xs:List α}{i:Int}{v:α}(h:atI xs i=some v):∃j,seqIndex? i xs.length=some j/\xs[j]? = some v/\j<xs.length/\-(xs.length:Int)<=i/\i<xs.length:=by
 unfold atI at h
 cases e:ixN xs.length i with
 |none=>rw [e] at h;cases h
 |some j=>
  rw [e] at h
  obtain ⟨h1,h2,h3,h4⟩:=Mq e
  exact ⟨j,h1,h,h2,h3,h4⟩
theorem kj {α:Type}{xs:List α}{j:Nat}{v:α}(h:xs[j]? = some v):atI xs (j:Int)=some v:=by
 have hj:j<xs.length:=(List.getElem?_eq_some_iff.mp h).1
 have e:ixN xs.length (j:Int)=some j:=by
  unfold ixN
  rw [if_pos (by omega),if_pos (by omega)];simp
 unfold atI;rw [e];exact h
theorem Rn {α:Type}(xs:List α)(v:α):atI (xs++[v]) (-1)=some v:=by
 have hl:(xs++[v]).length=xs.length+1:=by simp
 have e:ixN (xs++[v]).length (-1)=some xs.length:=by
  unfold ixN
  rw [hl,if_neg (by decide),if_pos (by omega)]
  congr 1
  omega
 unfold atI
 rw [e]
 show (xs++[v])[xs.length]? = some v
 simp
def Fo (b:Expr):Prop:=∀o i,subscripted b false o i=operate [o,i] (getItem o i)
def IxR (X:Cx)(r:R2):Prop:=
 ∀(value slice:Expr) (pins:Zl) (s:Shared) (σ:St) (H:Hp) (x y:V) (v u:Value) (Q:VK),Inv X pins σ H s->RelV x v->RelV y u->r x y H Q->
  subscripted slice false v u=operate [v,u] (getItem v u)->wpAny (model X.prog X.w) X.A (subscriptTail value slice v u) (EP X pins σ Q) X.xe s
def MtR (X:Cx)(id:String)(r:V->List V->Hp->VK->Prop):Prop:=
 ∀(pins:Zl) (s:Shared) (σ:St) (H:Hp) (x:V) (xs:List V) (v:Value) (us:List Value) (Q:VK),Inv X pins σ H s->RelV x v->Vals xs us->r x xs H Q->
  wpAny (model X.prog X.w) X.A (call (.builtin id) (v::us)) (EP X pins σ Q) X.xe s
section
variable {X:Cx}{a b:Expr}{ta tb:TE}{pos:Pos}
theorem abW {r:R2}(hr:IxR X r)(ha:PE X a ta)(hb:PE X b tb)(hs:Fo b):PE X (.Subscript a b pos) (tOp r ta tb):=by
 intro pins s σ H Q I h
 exact Subscript_ (Zd ha hb I h λv u s2 x y H2 I2 rx ry q=>hr a b pins s2 σ H2 x y v u Q I2 rx ry q (hs _ _))
def acF (K:W.Frag):R2:=λx y H Q=>∃p xs i v,x=.ref p/\y=.int i/\SqL K H p xs/\atI xs i=some v/\Q v H
def acO (K:W.Frag):R2:=λx y H Q=>∃p xs i v,x=.ref p/\y=.int i/\SqT K H p xs/\atI xs i=some v/\Q v H
def acx:R2:=λx y H Q=>∃z i c,x=.str z/\y=.int i/\z.length<=sizeLine/\atI z.cps.toList i=some c/\Q (.str ⟨#[c]⟩) H
theorem V8:IxR X (acF X.K):=by
 intro value slice pins s σ H x y v u Q I rx ry h hs
 obtain ⟨p,xs,i,z,rfl,rfl,hq,he,q⟩:=h
 cases rx
 obtain ⟨t,rfl⟩:=ry
 obtain ⟨its,r,pl,hz⟩:=I.list hq
 obtain ⟨j,h1,h2,h3,h4,h5⟩:=G6 he
 obtain ⟨w,ew,rw'⟩:=r.get h2
 have hl:=r.length
 have hn:=wH
 have fin:EP X pins σ Q w s:=⟨z,H,I,rw',q⟩
 by_cases h0:0<=i
 ·have hj:i.toNat=j:=by
   rw [seqIndex_of h0 h5] at h1
   exact Option.some.inj h1
  exact item_listR pl.isList h0 (by omega) (by rw [hj];simpa using ew) fin hs
 ·have hj:(i+(its.toArray.size:Int)).toNat=j:=by
   rw [seqIndex_neg (by omega) h4] at h1
   rw [List.size_toArray,← hl]
   exact Option.some.inj h1
  exact subscriptTail_builtinR (x:=w) pl.isList.typeIs slot_list_getitem.lookup
   (wpAny_getItem_list_neg (Q:=λr s'=>r=w/\EP X pins σ Q r s') pl.isList (by omega) (by rw [List.size_toArray]<;>omega) (by omega) (by rw [hj];simpa using ew) ⟨rfl,fin⟩) hs
theorem Y9:IxR X (acO X.K):=by
 intro value slice pins s σ H x y v u Q I rx ry h hs
 obtain ⟨p,xs,i,z,rfl,rfl,hq,he,q⟩:=h
 cases rx
 obtain ⟨t,rfl⟩:=ry
 obtain ⟨its,r,pl,hz⟩:=I.tuple hq
 obtain ⟨j,h1,h2,h3,h4,h5⟩:=G6 he
 obtain ⟨w,ew,rw'⟩:=r.get h2
 have hl:=r.length
 have hn:=wH
 have fin:EP X pins σ Q w s:=⟨z,H,I,rw',q⟩
 exact subscriptTail_builtinR (x:=w) pl.typeIs slot_tuple_getitem.lookup
  (getItem_tuple (j:=j) (Q:=λr s'=>r=w/\EP X pins σ Q r s') pl (by omega) (by omega) (by rw [List.size_toArray,← hl];exact h1) (by simpa using ew) ⟨rfl,fin⟩) hs
theorem Zg:IxR X acx:=by
 intro value slice pins s σ H x y v u Q I rx ry h hs
 obtain ⟨z,i,c,rfl,rfl,hz,he,q⟩:=h
 obtain ⟨t,rfl⟩:=rx
 obtain ⟨t',rfl⟩:=ry
 obtain ⟨j,h1,h2,h3,h4,h5⟩:=G6 he
 have hl:z.cps.toList.length=z.length:=by simp [Str.length]
 rw [hl] at h1 h4 h5
 have hn:=wH
 exact tail_any (typeIs_str s z t) slot_str_getitem.lookup (getItem_str (c:=c) (by
  have e1:decide (i < -(2 ^ 63:Int))=false:=decide_eq_false (by omega)
  have e2:decide (i ≥ 2 ^ 63)=false:=decide_eq_false (by omega)
  rw [e1,e2,Bool.or_false]) (by rw [h1];simpa using h2) ⟨.str ⟨#[c]⟩,H,I.tok _,⟨_,rfl⟩,q⟩) hs
theorem JW (its:List Value)(n j:Nat)(u:Value):Obj.mapSeq (·.setIfInBounds j u) { cls:=.type "list",data:=.seq its.toArray n }={ cls:=.type "list",data:=.seq (its.set j u).toArray n }:=by
 simp [Obj.mapSeq]
theorem Inv.lst {pins:Zl}{σ:St}{H:Hp}{s:Shared}{p:Addr}{xs:List V}(I:Inv X pins σ H s)(h:H p=some (.lst xs)):
  ∃(its:List Value) (n:Nat),Vals xs its/\s.heap.get? p=some { cls:=.type "list",data:=.seq its.toArray n }/\xs.length<=sizeLine:=by
 obtain ⟨z,its,n,r,e⟩:=I.hok p _ h
 exact ⟨its,n,r,e,z⟩
theorem Inv.Zo {pins:Zl}{σ:St}{H:Hp}{s:Shared}{p:Addr}{xs ys:List V}{its its':List Value}{n n':Nat}{f:Obj->Obj}(I:Inv X pins σ H s)(h:H p=some (.lst xs))
  (ho:s.heap.get? p=some { cls:=.type "list",data:=.seq its.toArray n }) (hf:f { cls:=.type "list",data:=.seq its.toArray n }={ cls:=.type "list",data:=.seq its'.toArray n' }) (r:Vals ys its') (hz:ys.length<=sizeLine) (t:Nat):
  Inv X pins σ (upd H p (.lst ys)) { s with heap:=s.heap.update p f,toks:=t }:=by
 have e:(s.heap.update p f).get? p=some { cls:=.type "list",data:=.seq its'.toArray n' }:=by
  rw [Heap.get?_update_self f ho (by rw [hf]<;>rfl),hf]
 refine I.write (x:=p) (e:=p) (by rw [h];trivial) (.inl rfl) (λb u hb q=>(Heap.get?_update_other _ _ (Ne.symm hb)).trans q) ⟨_,e⟩ ?_
 exact ⟨hz,its',n',r,e⟩
def abT:V->V->V->Hp->(Hp->Prop)->Prop:=λo i v H Q=>∃p xs k j,o=.ref p/\i=.int k/\H p=some (.lst xs)/\ixN xs.length k=some j/\Q (upd H p (.lst (xs.set j v)))
theorem set_list:aaN X abT:=by
 intro pins s σ H o i v ov iv u Q I ro ri rv h
 obtain ⟨p,xs,k,j,rfl,rfl,hp,hj,q⟩:=h
 cases ro
 obtain ⟨t,rfl⟩:=ri
 obtain ⟨its,n,r,ho,hz⟩:=I.lst hp
 obtain ⟨h1,h2,h3,h4⟩:=Mq hj
 have hl:=r.length
 have hn:=wH
 have I':Inv X pins σ (upd H p (.lst (xs.set j v))) { s with heap:=s.heap.update p (Obj.mapSeq (·.setIfInBounds j u)) }:=
  I.Zo hp ho (JW its n j u) (r.set rv j) (by rw [List.length_set];exact hz) s.toks
 by_cases h0:0<=k
 ·have hk:k.toNat=j:=by
   rw [seqIndex_of h0 h4] at h1
   exact Option.some.inj h1
  exact W.ki_setAt ho h0 (by omega) (by rw [List.size_toArray,← hl];exact h4) (by rw [hk];exact ⟨_,I',q⟩)
 ·have hk:(k+(its.toArray.size:Int)).toNat=j:=by
   rw [seqIndex_neg (by omega) h3] at h1
   rw [List.size_toArray,← hl]
   exact Option.some.inj h1
  exact W.ki_setBack ho (by omega) (by rw [List.size_toArray,← hl];exact h3) (by omega) (by rw [hk];exact ⟨_,I',q⟩)
theorem Gh (lo hi:Option Int)(n:Nat):(sliceBounds lo hi none n).1=((HT.sIx n 0 lo:Nat):Int)/\(sliceBounds lo hi none n).2.1=((HT.sIx n n hi:Nat):Int)/\(sliceBounds lo hi none n).2.2=1:=by
 refine ⟨?_,?_,rfl⟩
 ·cases lo with
  |none=>simp [sliceBounds,HT.sIx]
  |some i=>
   simp only [sliceBounds,HT.sIx,Option.getD_none,show (1:Int) > 0 by decide,if_true]
   by_cases h:i<0
   ·simp only [h,if_true]<;>omega
   ·simp only [h,if_false]<;>omega
 ·cases hi with
  |none=>simp [sliceBounds,HT.sIx]
  |some i=>
   simp only [sliceBounds,HT.sIx,Option.getD_none,show (1:Int) > 0 by decide,if_true]
   by_cases h:i<0
   ·simp only [h,if_true]<;>omega
   ·simp only [h,if_false]<;>omega
theorem BW (its:List Value)(lo hi:Option Int):slicePick its.toArray lo hi none=((its.drop (HT.sIx its.length 0 lo)).take (HT.sIx its.length its.length hi-HT.sIx its.length 0 lo)).toArray:=by
 obtain ⟨h1,h2,h3⟩:=Gh lo hi its.toArray.size
 unfold slicePick
 rw [h1,h2,h3]
 simp only [sliceRange_one,pick_run,List.size_toArray]<;>rfl
def acL (K:W.Frag):V->Option Int->Option Int->Hp->VK->Prop:=λx lo hi H Q=>∃a xs,x=.ref a/\SqL K H a xs/\∀p,H p=none->Q (.ref p) (upd H p (.lst (Ja xs lo hi)))
theorem Wd:SlR X (acL X.K):=by
 intro pins s σ H x v vl vu lo hi sl Q I rx hs pl pu h
 obtain ⟨a,xs,rfl,hx,q⟩:=h
 cases rx
 obtain ⟨its,r,ht,hz⟩:=I.list hx
 have hlen:=r.length
 refine ⟨"list",_,slot_list_getitem.lookup,ht.isList.typeIs,?_⟩
 refine wpAny_getItem_list_slice ht.isList hs pl pu .none (by simp) ?_ (by rw [List.size_toArray]<;>omega)
 rw [BW,← hlen]
 refine ⟨.ref s.heap.objs.size,_,I.laid (t':=s.toks) (o:=.lst (Ja xs lo hi)) (λb ob q=>Heap.get?_push_of_some _ q) (Nat.le_refl _) ?_,rfl,q _ (I.hok.fresh (Nat.le_refl _))⟩
 exact ⟨Nat.le_trans (xJ xs lo hi) hz,_,0,(r.drop (HT.sIx xs.length 0 lo)).take (HT.sIx xs.length xs.length hi-HT.sIx xs.length 0 lo),Heap.get?_push_size _ rfl⟩
theorem vC:iW X (.builtin "len") (λxs H Q=>∃p ys,xs=[.ref p]/\(SqL X.K H p ys\/SqT X.K H p ys)/\Q (.int ys.length) H):=by
 intro pins s σ H xs us Q I r h
 obtain ⟨p,ys,rfl,hq,q⟩:=h
 obtain ⟨u,rfl,rx⟩:=vals1 r
 cases rx
 have hn:=wH
 rcases hq with hq | hq
 ·obtain ⟨its,r',pl,hz⟩:=I.list hq
  have hlen:=r'.length
  exact Calls.call_len_list pl.isList (by simp only [List.size_toArray]<;>omega) ⟨.int ys.length,H,I.tok _,⟨s.toks+1,by rw [List.size_toArray,hlen]⟩,q⟩
 ·obtain ⟨its,r',pl,hz⟩:=I.tuple hq
  have hlen:=r'.length
  exact len_tuple pl (by simp only [List.size_toArray]<;>omega) ⟨.int ys.length,H,I.tok _,⟨s.toks+1,by rw [List.size_toArray,hlen]⟩,q⟩
theorem Ez:iW X (.builtin "len") (λxs H Q=>∃z,xs=[.str z]/\z.length<=sizeLine/\Q (.int z.length) H):=by
 intro pins s σ H xs us Q I r h
 obtain ⟨z,rfl,hz,q⟩:=h
 obtain ⟨u,rfl,t,rfl⟩:=vals1 r
 have hn:=wH
 exact len_str (by omega) ⟨.int z.length,H,I.tok _,⟨_,rfl⟩,q⟩
theorem Ff:iW X (.type "list") (λxs H Q=>∃p ys,xs=[.ref p]/\(SqL X.K H p ys\/SqT X.K H p ys)/\∀l,H l=none->Q (.ref l) (upd H l (.lst ys))):=by
 intro pins s σ H xs us Q I r h
 obtain ⟨p,ys,rfl,hq,q⟩:=h
 obtain ⟨u,rfl,rx⟩:=vals1 r
 cases rx
 have fin:∀(its:List Value),Vals ys its->ys.length<=sizeLine->∀(h':Heap) (c':Nat),(∀b o',s.heap.get? b=some o'->h'.get? b=some o')->
   h'.get? s.heap.objs.size=some { cls:=.type "list",dict:=none,data:=.seq its.toArray c',slots:=#[] }->EP X pins σ Q (.ref s.heap.objs.size) { s with heap:=h' }:=λits r' hz h' c' kp e=>
  ⟨.ref s.heap.objs.size,_,I.laid (t':=s.toks) kp (Nat.le_refl _) (show dH X.prog X.w _ h' _ (.lst ys) from ⟨hz,its,c',r',e⟩),rfl,q _ (I.hok.fresh (Nat.le_refl _))⟩
 rcases hq with hq | hq
 ·obtain ⟨its,r',pl,hz⟩:=I.list hq
  have hlen:=r'.length
  obtain ⟨o,ho,hc,n,hd⟩:=pl.isList
  exact call_list_seq p (.inl rfl) ho hc hd (λh' c' kp e=>fin its r' hz h' c' kp e) (by simp only [List.size_toArray]<;>omega)
 ·obtain ⟨its,r',pl,hz⟩:=I.tuple hq
  have hlen:=r'.length
  obtain ⟨o,ho,hc,n,hd⟩:=pl
  exact call_list_seq p (.inr rfl) ho hc hd (λh' c' kp e=>fin its r' hz h' c' kp e) (by simp only [List.size_toArray]<;>omega)
theorem tH:iW X (.type "tuple") (λxs H Q=>∃p ys,xs=[.ref p]/\((SqL X.K H p ys/\∀l,H l=none->Q (.ref l) (upd H l (.tup ys)))\/(SqT X.K H p ys/\Q (.ref p) H))):=by
 intro pins s σ H xs us Q I r h
 obtain ⟨p,ys,rfl,h⟩:=h
 obtain ⟨u,rfl,rx⟩:=vals1 r
 cases rx
 rcases h with ⟨hq,q⟩ | ⟨hq,q⟩
 ·obtain ⟨its,r',pl,hz⟩:=I.list hq
  have hlen:=r'.length
  refine call_tuple_list pl.isList (λh' kp=>?_) (by simp only [List.size_toArray]<;>omega)
  have I1:Inv X pins σ H { s with heap:=h' }:=I.kept (t':=s.toks) kp
  have I2:Inv X pins σ (upd H h'.objs.size (.tup ys)) { s with heap:=h'.push { cls:=.type "tuple",data:=.seq its.toArray } }:=
   I1.laid (t':=s.toks) (λb o e=>Heap.get?_push_of_some _ e) (Nat.le_refl _) (show dH X.prog X.w _ _ _ (.tup ys) from ⟨hz,its,r',IsTup.new _ _⟩)
  exact ⟨.ref h'.objs.size,_,I2,rfl,q _ (I1.hok.fresh (Nat.le_refl _))⟩
 ·obtain ⟨its,r',pl,hz⟩:=I.tuple hq
  exact call_tuple_same pl ⟨.ref p,H,I,rfl,q⟩
def tyV (K:W.Frag)(T:String)(x:V)(H:Hp):Prop:=match x with
 | .str _=>T = "str"
 | .int _=>T = "int"
 | .ref p=>(T = "list"/\∃xs,SqL K H p xs)\/(T = "tuple"/\∃o,K.lookup p=some o/\o.cls=.type "tuple"/\o.dict=none) ∨
   (T = "dict"/\((∃kvs,H p=some (.dK kvs))\/∃T kvs,Rd H p (.dT T kvs)))\/(T = "set"/\∃S n,H p=some (.set S n))
 |_=>False
theorem Uw {pins:Zl}{σ:St}{H:Hp}{s:Shared}{T:String}{x:V}{v:Value}(I:Inv X pins σ H s)(r:RelV x v)(ty:tyV X.K T x H):
  s.TypeIs v T/\∀a,v=.ref a->∃ob,s.heap.get? a=some ob/\ob.dict=none:=by
 cases x with
 |str z=>
  obtain ⟨t,rfl⟩:=r
  cases (show T = "str" from ty)
  exact ⟨typeIs_str s z t,λ_ e=>nomatch e⟩
 |int i=>
  obtain ⟨t,rfl⟩:=r
  cases (show T = "int" from ty)
  exact ⟨typeIs_int s i t,λ_ e=>nomatch e⟩
 |ref p=>
  cases r
  rcases ty with ⟨rfl,xs,hq⟩ | ⟨rfl,o,hk,hc,hd⟩ | ⟨rfl,hk⟩ | ⟨rfl,S,n,hk⟩
  ·obtain ⟨its,_,pl,_⟩:=I.list hq
   refine ⟨pl.isList.typeIs,λa e=>?_⟩
   cases e
   obtain ⟨o,n,e,c,hd,_⟩:=pl
   exact ⟨o,e,hd⟩
  ·refine ⟨⟨o,I.kIn p o hk,hc⟩,λa e=>?_⟩
   cases e
   exact ⟨o,I.kIn _ o hk,hd⟩
  ·have z:∃o,s.heap.get? p=some o/\o.ExactDict:=by
    rcases hk with ⟨kvs,hk⟩ | ⟨_,kvs,hk⟩
    ·obtain ⟨_,_,_,_,o,_,_,e,ex,_⟩:=I.hok p _ hk
     exact ⟨o,e,ex⟩
    ·obtain ⟨_,_,_,_,o,_,_,e,ex,_⟩:=(show dH X.prog X.w H s.heap p (.dT _ kvs) from hk.ok I.hok)
     exact ⟨o,e,ex⟩
   obtain ⟨o,e,ex⟩:=z
   refine ⟨⟨o,e,ex.1⟩,λa e2=>?_⟩
   cases e2
   exact ⟨o,e,ex.2.1⟩
  ·obtain ⟨o,_,_,_,e,ex,_⟩:=I.hok p _ hk
   refine ⟨⟨o,e,ex.1⟩,λa e2=>?_⟩
   cases e2
   exact ⟨o,e,ex.2.1⟩
 |_=>exact False.elim ty
def acS (K:W.Frag)(T:String)(r:V->List V->Hp->VK->Prop)(to:TE):TE:=λσ H Q=>to σ H λx H1=>tyV K T x H1/\r x [] H1 Q
def tBM (K:W.Frag)(T:String)(r:V->List V->Hp->VK->Prop)(to:TE)(t:TA):TE:=λσ H Q=>to σ H λx H1=>tyV K T x H1/\t σ H1 λxs H2=>r x xs H2 Q
variable {o e:Expr}{es:List Expr}{to:TE}{t:TA}{name:Str}{apos cpos:Pos}{T id:String}{r:V->List V->Hp->VK->Prop}
theorem JB (pa:PlainAttrs T)(slot:Slot T name id)(hty:typeOf (.builtin id)=pure (.type "method_descriptor"))(hm:MtR X id r)(ho:PE X o to)
  (hbase:attributeBase o name X.env (eval o X.env)=eval o X.env:=by rfl) (hline:(apos.endLine == cpos.line)=true:=by rfl):PE X (.Call (.Attribute o name apos) [] [] cpos) (acS X.K T r to):=by
 intro pins s σ H Q I h
 refine wpAny_Call_method0_late hbase hline (thn (ho pins s σ H _ I h) λv s1 ⟨x,H1,I1,r1,ty,q1⟩=>?_)
 obtain ⟨h1,h2⟩:=Uw I1 r1 ty
 exact ⟨T,id,pa,slot,hty,h1,h2,Calls.callWith_builtin rfl (PySem.evalArgs_none (hm pins s1 σ H1 x [] v [] Q I1 r1 .nil q1))⟩
theorem Li (pa:PlainAttrs T)(slot:Slot T name id)(hty:typeOf (.builtin id)=pure (.type "method_descriptor"))(hm:MtR X id r)(ho:PE X o to)(ha:PA X (e::es) t)
  (hbase:attributeBase o name X.env (eval o X.env)=eval o X.env:=by rfl)
  (hfew:((backTo cpos (starEach (e::es) X.env)).all (λx=>!x.1) && (backToKw cpos (keywordEach [] X.env)).all (λx=>x.1.isSome)
   && decide ((e::es).length+([]:List Keyword).length+(if ([]:List Keyword).isEmpty then 0 else 1)<30))=true:=by rfl)
  (hline:(apos.endLine == cpos.line)=true:=by rfl) (hs:starEach (e::es) X.env=(false,eval e X.env)::starEach es X.env:=by rfl) (hplain:(backTo cpos (starEach es X.env)).any (·.1)=false:=by rfl):
  PE X (.Call (.Attribute o name apos) (e::es) [] cpos) (tBM X.K T r to t):=by
 intro pins s σ H Q I h
 refine wpAny_Call_method_late hbase hfew hline rfl (thn (ho pins s σ H _ I h) λv s1 ⟨x,H1,I1,r1,ty,q1⟩=>?_)
 obtain ⟨h1,h2⟩:=Uw I1 r1 ty
 refine ⟨T,id,pa,slot,hty,h1,h2,?_⟩
 have hA:=ha cpos pins s1 σ H1 _ I1 q1
 rw [hs] at hA ⊢
 refine Calls.callWith_builtin (by show (false || (backTo cpos (starEach es X.env)).any (·.1))=false;rw [hplain]<;>rfl) (Calls.evalArgs_plain ?_)
 exact thn hA λus s2 hE=>xq2 hE λvs H2 I2 r2 q2=>hm pins s2 σ H2 x vs v us Q I2 r1 r2 q2
end
def MtM (X:Cx)(id:String)(r:V->List V->Hp->VK->Prop):Prop:=
 ∀(pins:Zl) (s:Shared) (σ:St) (H:Hp) (x:V) (xs:List V) (v:Value) (us:List Value) (Q:VK),Inv X pins σ H s->RelV x v->Vals xs us->r x xs H Q->
  wpAny (model X.prog X.w) X.A (call (.builtin id) (v::us)) (EP X pins σ Q) X.xe s
theorem Vals.one:∀{x:V} {us:List Value},Vals [x] us->∃u,us=[u]/\RelV x u
 |_,_,.cons r .nil=>⟨_,rfl,r⟩
theorem Vals.zero:∀{us:List Value},Vals [] us->us=[]
 |_,.nil=>rfl
theorem Vals.dropLast {xs:List V}{us:List Value}(h:Vals xs us):Vals xs.dropLast us.dropLast:=by
 induction h with
 |nil=>exact .nil
 |cons r t ih=>
  cases t with
  |nil=>exact .nil
  |cons q t'=>exact .cons r ih
theorem Vals.eraseIdx:∀{xs:List V} {us:List Value} (i:Nat),Vals xs us->Vals (xs.eraseIdx i) (us.eraseIdx i)
 |_,_,_,.nil=>.nil
 |_,_,0,.cons _ t=>t
 |_,_,i+1,.cons r t=>.cons r (Vals.eraseIdx i t)
theorem Vals.reverse {xs:List V}{us:List Value}(h:Vals xs us):Vals xs.reverse us.reverse:=by
 induction h with
 |nil=>exact .nil
 |cons r t ih=>rw [List.reverse_cons,List.reverse_cons];exact Vals.append ih (.cons r .nil)
theorem Kl {α:Type}(l:List α):l.eraseIdx (l.length - 1)=l.dropLast:=by
 induction l with
 |nil=>rfl
 |cons a r ih=>
  cases r with
  |nil=>rfl
  |cons b r=>
   have e:(a::b::r).length - 1=((b::r).length - 1)+1:=by
    have h1:(a::b::r).length=r.length+2:=rfl
    have h2:(b::r).length=r.length+1:=rfl
    omega
   rw [e,List.eraseIdx_cons_succ,ih]
   all_goals rfl
section
variable {X:Cx}{pins:Zl}{σ:St}{H:Hp}{s:Shared}{l b:Addr}{xs ys zs:List V}
theorem Inv.Zy {its its':List Value}{n:Nat}{f:Array Value->Array Value}{t':Nat}(I:Inv X pins σ H s)(hH:H l=some (.lst xs))
  (e:s.heap.get? l=some { cls:=.type "list",data:=.seq its.toArray n }) (hf:f its.toArray=its'.toArray) (hv:Vals ys its') (hz:ys.length<=sizeLine):
  Inv X pins σ (upd H l (.lst ys)) { s with heap:=s.heap.update l (Obj.mapSeq f),toks:=t' }:=by
 have q:=PySem.IsL.update e f
 rw [hf] at q
 refine I.write (x:=l) (e:=l) (by rw [hH];exact trivial) (.inl rfl) (λb' u hb hu=>(Heap.get?_update_other s.heap (Obj.mapSeq f) (Ne.symm hb)).trans hu) ⟨_,q⟩ ?_
 exact ⟨hz,its',_,hv,q⟩
theorem Inv.Vv (I:Inv X pins σ H s)(hH:H l=some (.lst xs)):xs.length<=sizeLine/\∃(its:List Value) (n:Nat),Vals xs its/\xs.length=its.length/\s.heap.get? l=some { cls:=.type "list",data:=.seq its.toArray n }:=by
 obtain ⟨z,its,n,r,e⟩:=I.hok l _ hH
 exact ⟨z,its,n,r,r.length,e⟩
theorem TV {n:Nat}(h:n<=sizeLine):Builtin.List.listTooLong n=false:=by
 unfold Builtin.List.listTooLong
 exact decide_eq_false (by omega)
end
section
variable {X:Cx}
def Wx:V->List V->Hp->VK->Prop:=λx vs H Q=>∃l xs y,x=.ref l/\vs=[y]/\H l=some (.lst xs)/\xs.length<sizeLine/\Q .non (upd H l (.lst (xs++[y])))
theorem w5:MtM X "list.append" Wx:=by
 intro pins s σ H x vs v us Q I rx rv h
 obtain ⟨l,xs,y,rfl,rfl,hH,hz,q⟩:=h
 cases rx
 obtain ⟨u,rfl,ru⟩:=rv.one
 obtain ⟨z,its,n,r,hl,e⟩:=I.Vv hH
 refine call_meets F.slot_list_append ⟨_,e,rfl⟩ F.entry_list_append (F.args_list_append_2 _ _) (PySem.list_append l its.toArray n u (by rw [List.size_toArray];omega)) ⟨e,?_⟩
 refine ⟨.non,_,I.Zy (its':=its++[u]) hH e (by simp) (r.append (.cons ru .nil)) ?_,rfl,q⟩
 rw [List.length_append,List.length_singleton]
 omega
def XD:V->List V->Hp->VK->Prop:=λx vs H Q=>∃l b xs zs,x=.ref l/\vs=[.ref b]/\H l=some (.lst xs)/\H b=some (.lst zs)/\xs.length+zs.length<=sizeLine/\Q .non (upd H l (.lst (xs++zs)))
theorem Qg:MtM X "list.extend" XD:=by
 intro pins s σ H x vs v us Q I rx rv h
 obtain ⟨l,b,xs,zs,rfl,rfl,hH,hB,hz,q⟩:=h
 cases rx
 obtain ⟨u,rfl,ru⟩:=rv.one
 cases ru
 obtain ⟨z,its,n,r,hl,e⟩:=I.Vv hH
 obtain ⟨z2,its2,n2,r2,hl2,e2⟩:=I.Vv hB
 have hsz:its.toArray.size+its2.toArray.size<=sizeLine:=by rw [List.size_toArray,List.size_toArray];omega
 have hlong:¬(!its.toArray.isEmpty && Builtin.List.listTooLong (its.toArray.size+its2.toArray.size))=true:=by
  rw [TV hsz,Bool.and_false]
  exact Bool.false_ne_true
 refine call_meets F.slot_list_extend ⟨_,e,rfl⟩ F.entry_list_extend (F.args_list_extend_2 _ _)
  (AutoSeq1.list_extend_list_list_0 l its.toArray n b its2.toArray n2 hlong (by rw [List.size_toArray];omega) (by omega)) ⟨e,e2,?_⟩
 refine ⟨.non,_,I.Zy (its':=its++its2) hH e (by simp) (r.append r2) ?_,rfl,q⟩
 rw [List.length_append]
 omega
def acG:V->List V->Hp->VK->Prop:=λx vs H Q=>∃l xs y,x=.ref l/\vs=[]/\H l=some (.lst xs)/\xs[xs.length - 1]? = some y/\Q y (upd H l (.lst xs.dropLast))
theorem Su:MtM X "list.pop" acG:=by
 intro pins s σ H x vs v us Q I rx rv h
 obtain ⟨l,xs,y,rfl,rfl,hH,hy,q⟩:=h
 cases rx
 have hus:=rv.zero
 subst hus
 obtain ⟨z,its,n,r,hl,e⟩:=I.Vv hH
 obtain ⟨u,hu,ru⟩:=r.get hy
 have hy':its.toArray[its.toArray.size - 1]? = some u:=by
  show its.toArray[its.length - 1]? = some u
  rw [← Array.getElem?_toList,← hl]
  exact hu
 refine call_meets F.slot_list_pop ⟨_,e,rfl⟩ F.entry_list_pop (F.args_list_pop_1 _) (MeetsSeq.list_pop_last l its.toArray n u hy' (by rw [List.size_toArray];omega)) ⟨e,?_⟩
 refine ⟨y,_,I.Zy (its':=its.dropLast) hH e ?_ r.dropLast ?_,ru,q⟩
 ·show its.toArray.eraseIdxIfInBounds (its.toArray.size - 1)=its.dropLast.toArray
  rw [List.size_toArray,List.eraseIdxIfInBounds_toArray,Kl]
 ·rw [List.length_dropLast]
  omega
end
section
variable {prog:Program}{w:World}{A:Around}{E:Zs}{s:Shared}
end
section
variable {X:Cx}
end
end L2
namespace Att
open PySem PySem.W PySem.Calls PyProof.Rows
theorem yF {P:Params}{h:Heap}:∀(ns:List Int) (vs:List Value),WellAll P h vs (ns.map WData.int)->IntsAre vs ns:=by
 intro ns
 induction ns with
 |nil=>
  intro vs w
  rw [List.map_nil] at w
  cases w
  exact .nil
 |cons n ns ih=>
  intro vs w
  rw [List.map_cons] at w
  cases w with
  |cons a b=>
   cases a
   exact .cons _ _ (ih _ b)
theorem Qk {l:OpenLaw}{n:Nat}(hn:l.most=some n){P:Params}{h:Heap}{args:List WData}{vals:List Value}
  (hpre:l.row.toRowW.claim.pre args=true) (hwl:WellAll P h vals args):
  ∃a vs ns,vals=[Value.ref a]/\args=[WData.list (ns.map WData.int)]/\h.get? a=some { cls:=.type "list",data:=.seq vs.toArray }/\IntsAre vs ns/\ns.length<=n:=by
 have hsh:WShape.hasAll [] args [.list .int]=true:=(pre_splitW hpre).1
 have hc:l.pre.holds [] { args:=args }=true:=(pre_splitW hpre).2
 obtain ⟨d,r,rfl,h1,h2⟩:=hasAllW_cons hsh
 obtain rfl:=hasAllW_nil h2
 obtain ⟨xs,rfl,h3⟩:=hasW_list h1
 obtain ⟨ns,rfl⟩:=items_int h3
 have hlen:ns.length<=n:=by
  unfold OpenLaw.pre at hc
  have h4:(WTm.not (.lt (.lit (.int (n:Int))) (.len (.arg 0)))).holds [] { args:=[.list (ns.map .int)] }=true:=by
   have h4:=(holds_andW hc).1
   rw [hn] at h4
   exact h4
  have h5:=condW_of h4 (w_not (w_lt w_lit (w_len_list (w_arg rfl))))
  rw [List.length_map] at h5
  refine Nat.le_of_not_lt λq=>?_
  have q':(n:Int)<((ns.length:Nat):Int):=by omega
  first
   |(rw [decide_eq_true q'] at h5;exact absurd h5 (by decide))
   |(simp at h5;omega)
 cases hwl with
 |cons w1 w2=>
  cases w2
  cases w1 with
  |list ho hall=>exact ⟨_,_,ns,rfl,rfl,ho,yF ns _ hall,hlen⟩
theorem Qv (l:OpenLaw)(args:List WData):l.row.toRowW.claim.post args (.bool true) args=true:=
 postW_of (r:=l.row.toRowW) (X:=(true == true))
  (show WShape.has [] (.bool true) .bool=true by first | rfl | decide | simp [WShape.has,WShape.arms,WShape.armsAll])
  (show (WTm.eq .res (.lit (.bool true))).value [] { args:=args,res:=some (.bool true),after:=args }=some (.bool (true == true)) from w_eq_bool (w_res rfl) w_lit) rfl
theorem HX {l:OpenLaw}{n:Nat}{q:Program}{loose:List Str}{XP:(Zp)->Heap->Prop}{YP:World->Heap->Prop}{d:DefRec}
  (hn:l.most=some n) (hdf:d.params.defaults=[])
  (call:∀(w:World) (s₀ s₁:Shared) (mg mb:Zp) (fa:Addr) (o:Obj) (pm cd doc:Value) (a:Addr) (vs:List Value) (ns:List Int),
   Ground q loose [] XP w s₀ mg mb s₁.heap->YP w s₁.heap->
   s₁.heap.get? fa=some o->o.data=.func (docDef d.name d.params d.body d.scope pm cd doc)->s₁.heap.CodeRec cd d.name->mg d.name=some (.ref fa)->
   s₁.heap.get? a=some { cls:=.type "list",data:=.seq vs.toArray }->IntsAre vs ns->ns.length<=n->s₁.gens=#[]->
   codeAny (model l.prog w) callerA (.call (.ref fa) ⟨[.ref a],[]⟩) (λr s'=>r=.ok (.ret (.bool true))/\OldK s₁.heap s'.heap/\s'.os=s₁.os/\AllBare s'.gens) s₁):
  WalkO q loose XP YP l.row.toRowW d [] (λf vs=>PySem.call f vs):=by
 intro w s₀ s₁ mg mb G Y fa o pm cd doc dV kV ho hd hcd hD hmg hg args vals as hpre hlay hrd hwl hlo
 obtain rfl:dV=.none:=Dflts.none hD hdf
 obtain rfl:kV=.none:=Dflts.noKw hD
 obtain ⟨a,vs,ns,rfl,rfl,hobj,hints,hlen⟩:=Qk hn hpre hwl
 refine enter_call (codeAny_mono (call w s₀ s₁ mg mb fa o pm cd doc a vs ns G Y ho (fd_plain hd) hcd hmg hobj hints hlen hg) λr s' hq=>?_)
 obtain ⟨rfl,h2,h3,h4⟩:=hq
 exact ⟨.inl ⟨.bool true,.bool true,[],rfl,λ_=>rfl,.bool true,Qv l _,λ_=>⟨List.Pairwise.nil,λ_ hm=>(nomatch hm)⟩⟩,h2,h3,h4⟩
section
variable {prog:Program}{w:World}{A:Around}{E:Zs}{s:Shared}{K:Frag}
end
end Att
namespace L2
open PySem PySem.Spec PyProof.Rows
theorem Dr:∀{vs:List Value} {ns:List Int},IntsAre vs ns->Vals (ns.map V.int) vs
 |_,_,.nil=>.nil
 |_,_,.cons n t h=>.cons ⟨t,rfl⟩ (Dr h)
def Only (H:Hp):Prop:=∀b,H b=none\/∃o xs,H b=some (.frz o (.lst xs))
theorem Rt {P:Program}{w:World}{K:W.Frag}{mg mb:Zp}{CX:CXT}{k:Nat}{fa a:Addr}{fd:FuncData}{x:Str}{sp:Sp}{s₁:Shared}{vs:List Value}{ns:List Int}
  (KX:K.In s₁.heap) (hns:s₁.heap.Ns mainGlobals mg) (hb:s₁.heap.Ns builtinsNs mb) (hbb:∀x:Str,x≠"__name__"->mb x=bootBuiltins x) (hlim:s₁.heap.NoLimit) (hg:s₁.gens=#[])
  (ha:s₁.heap.get? a=some { cls:=.type "list",data:=.seq vs.toArray }) (hi:IntsAre vs ns) (hl:ns.length<=sizeLine) (hr:gR k callerA)
  (F:∀base:Heap,K.In base->base.Ns mainGlobals mg->o7 P w K mg base CX k fa fd [x] sp) (hbind:∀(s:Shared) (u:Value),BindsTo s fd ⟨[u],[]⟩ [(x,u)])
  (hsp:∀H:Hp,Only H->SqL K H a (ns.map V.int)->sp [.ref a] H (λv _=>v=.bl true) λ_ _ _=>False)
  (hCX:∀H e s',CX [] H s₁ (λ_ _ _=>False) e s'->False):
  codeAny (model P w) callerA (.call (.ref fa) ⟨[.ref a],[]⟩) (λr s'=>r=.ok (.ret (.bool true))/\OldK s₁.heap s'.heap/\s'.os=s₁.os/\AllBare s'.gens) s₁:=by
 have rv:=Dr hi
 have lenV:=hi.length
 have core:∀H:Hp,Only H->SqL K H a (ns.map V.int)->HOk P w H s₁.heap->(∀b,H b≠none->b=a)->(H a≠none->K.lookup a=none)->
   codeAny (model P w) callerA (.call (.ref fa) ⟨[.ref a],[]⟩) (λr s'=>r=.ok (.ret (.bool true))/\OldK s₁.heap s'.heap/\s'.os=s₁.os/\AllBare s'.gens) s₁:=by
  intro H hO hS hok hA hK
  have base_of:∀{b:Addr} {o:Obj},s₁.heap.get? b=some o->H b=none->(Er s₁.heap H).get? b=some o:=λe n=>U4 e n
  have noA:∀{b:Addr} {o:Obj} {es:Array DictEntry} {ep:Nat},s₁.heap.get? b=some o->o.data=.dict es ep->H b=none:=λ{b o es ep} e d=>by
   cases q:H b with
   |none=>rfl
   |some u=>
    have e':b=a:=hA b (by rw [q];simp)
    subst e'
    rw [ha] at e;cases e
    have d':Data.seq vs.toArray _=Data.dict es ep:=d
    cases d'
  have nsK:∀{b:Addr} {m:Zp},s₁.heap.Ns b m->(Er s₁.heap H).Ns b m:=λ{b m} ⟨o,es,ep,e,d,r⟩=>⟨o,es,ep,base_of e (noA e d),d,r⟩
  have hKb:K.In (Er s₁.heap H):=λb o e=>base_of (KX b o e) (by
   cases q:H b with
   |none=>rfl
   |some u=>
    have e':b=a:=hA b (by rw [q];simp)
    subst e'
    rw [hK (by rw [q];simp)] at e;cases e)
  have hM:Mod K mg (Er s₁.heap H):=⟨hKb,nsK hns,⟨mb,nsK hb,hbb⟩,let ⟨mc,h1,h2⟩:=hlim;⟨mc,nsK h1,h2⟩⟩
  have e0:JX P w K mg (Er s₁.heap H) callerA [] s₁ H:=⟨rfl,hM,λb o e=>Xb e,Nat.le_of_eq (Pb _ _),trivial,λb hb=>absurd (show b∈([]:List Addr) from hb) (by simp),hok,.of_eq hg⟩
  refine codeAny_mono ((F _ hKb (nsK hns)).run callerA [] s₁ H ⟨[.ref a],[]⟩ [.ref a] [.ref a] _ _ hr e0 (hbind s₁ (.ref a)) (.cons rfl .nil) (hsp H hO hS)) λr s' h=>?_
  cases r with
  |error e=>exact (hCX H e s' h).elim
  |ok fl=>
   cases fl with
   |next=>exact False.elim h
   |brk=>exact False.elim h
   |cont=>exact False.elim h
   |ret u=>
    obtain ⟨v,H',os,bare,un,hok',r',q⟩:=h
    have q':v=.bl true:=q
    subst q'
    obtain rfl:u=Value.bool true:=r'
    refine ⟨rfl,OldK.of_keep λb o e=>?_,os,bare⟩
    cases q:H b with
    |none=>exact un.keep b o e q (by intro z;exact absurd (show b∈([]:List Addr) from z) (by simp)) (by simp)
    |some u=>
     rcases hO b with z | ⟨ob,xs,z⟩
     ·rw [q] at z;cases z
     ·have z2:=un.frzs b ob _ z
      obtain ⟨e1,_⟩:=hok b _ z
      obtain ⟨e2,_⟩:=hok' b _ z2
      rw [e] at e1;cases e1
      exact e2
 cases hk:K.lookup a with
 |some o=>
  have e:=KX a o hk
  rw [ha] at e
  cases e
  refine core (λ_=>none) (λ_=>.inl rfl) (.inr ⟨_,vs.toArray,_,hk,rfl,rfl,rfl,by rw [List.size_toArray,lenV];exact hl,by simpa using rv⟩) (λb u z=>by have z':(none:Option HO)=some u:=z;cases z') (λb z=>absurd rfl z) λz=>absurd rfl z
 |none=>
  refine core (λb=>if b=a then some (.frz { cls:=.type "list",data:=.seq vs.toArray } (.lst (ns.map V.int))) else none) (λb=>?_) (.inl (.inr ⟨{ cls:=.type "list",data:=.seq vs.toArray },if_pos rfl⟩)) (λb u z=>?_) (λb z=>?_) λ_=>hk
  ·by_cases hb:b=a
   ·exact .inr ⟨_,_,if_pos hb⟩
   ·exact .inl (if_neg hb)
  ·by_cases hb:b=a
   ·have z':=(if_pos hb).symm.trans z
    cases z'
    subst hb
    exact ⟨ha,by rw [List.length_map];exact hl,vs,_,rv,ha⟩
   ·have z':=(if_neg hb).symm.trans z
    cases z'
  ·by_cases hb:b=a
   ·exact hb
   ·exact absurd (if_neg hb) z
theorem Wl {l:W.OpenLaw}{n k:Nat}{q:Program}{loose:List Str}{XP:(Zp)->Heap->Prop}{YP:World->Heap->Prop}{d:DefRec}{K:Params->W.Frag}{CX:World->CXT}{sp:World->Sp}{x:Str}
  (hn:l.most=some n) (hn2:n<=sizeLine) (hdf:d.params.defaults=[]) (hr:gR k callerA)
  (hY:∀(w:World) (h:Heap),YP w h->(K w.params).In h)
  (F:∀(w:World) (mg:Zp) (fa:Addr) (h:Heap),(K w.params).In h->h.Ns mainGlobals mg->mg d.name=some (.ref fa)->
   ∃fd:FuncData,(∀(s:Shared) (u:Value),BindsTo s fd ⟨[u],[]⟩ [(x,u)])/\
    ∀base:Heap,(K w.params).In base->base.Ns mainGlobals mg->o7 l.prog w (K w.params) mg base (CX w) k fa fd [x] (sp w))
  (hsp:∀(w:World) (H:Hp) (a:Addr) (ns:List Int),ns.length<=n->Only H->SqL (K w.params) H a (ns.map V.int)->sp w [.ref a] H (λv _=>v=.bl true) λ_ _ _=>False)
  (hCX:∀(w:World) (H:Hp) (s:Shared) (e:Value) (s':Shared),CX w [] H s (λ_ _ _=>False) e s'->False):
  W.WalkO q loose XP YP l.row.toRowW d [] (λf vs=>PySem.call f vs):=by
 refine Att.HX hn hdf λw s₀ s₁ mg mb fa o pm cd doc a vs ns G Y ho hd hcd hmg hobj hints hlen hg=>?_
 have KX:=hY w _ Y
 obtain ⟨fd,hb,hF⟩:=F w mg fa _ KX G.T.g hmg
 exact Rt KX G.T.g G.T.b G.T.builtins G.T.nolimit hg hobj hints (Nat.le_trans hlen hn2) hr hF hb (λH hO hS=>hsp w H a ns hlen hO hS) λH e s'=>hCX w H s₁ e s'
noncomputable def nW (s:Stmt):Arguments:=match s with
 | .FunctionDef _ a _ _ _ _ _ _ _ _=>a
 |_=>{ posonlyargs:=[],args:=[],vararg:=none,kwonlyargs:=[],kw_defaults:=[],kwarg:=none,defaults:=[] }
noncomputable def jz (s:Stmt):List Stmt:=match s with
 | .FunctionDef _ _ b _ _ _ _ _ _ _=>b
 |_=>[]
noncomputable def aN (s:Stmt):Scope:=match s with
 | .FunctionDef _ _ _ _ _ _ sc _ _ _=>sc
 |_=>{ kind:=.function,names:=[],isGenerator:=false,isCoroutine:=false }
abbrev E0:XK:=λ_ _ _=>False
structure Fun (K:W.Frag)(x qual:Str)(st:Stmt)(f:Addr)(fd:FuncData):Prop where
 ex:∃(oc:Value) (od:Option Addr) (kV doc pm:Value) (an:Option Addr) (cdv ct:Value) (osl:Array (Option Value)),
  fd=W.fnOf x qual (nW st) (jz st) (aN st) .none kV doc pm an cdv ct/\K.lookup f=some ⟨oc,od,.func fd,osl⟩/\W.codeIn K cdv qual=true
 kp:W.keepIn K (.ref f)=true
section
variable {P:Program}{w:World}{K:W.Frag}{mg:Zp}{base:Heap}
theorem Fun.binds {x qual:Str}{st:Stmt}{f:Addr}{fd:FuncData}{ps:List Str}(F:Fun K x qual st f fd)
  (h:∀(kV doc pm:Value) (an:Option Addr) (cdv ct:Value) (us:List Value),us.length=ps.length->bindArgs (W.fnOf x qual (nW st) (jz st) (aN st) .none kV doc pm an cdv ct) ⟨us,[]⟩=pure (ps.zip us)):Binds K fd ps []:=by
 obtain ⟨oc,od,kV,doc,pm,an,cdv,ct,osl,rfl,lk,hcd⟩:=F.ex
 exact .all (h kV doc pm an cdv ct)
theorem aaw {x qual:Str}{st:Stmt}{f:Addr}{oc:Value}{od an:Option Addr}{osl:Array (Option Value)}{kV doc pm cdv ct:Value}(l:K.lookup f=some ⟨oc,od,.func (W.fnOf x qual (nW st) (jz st) (aN st) .none kV doc pm an cdv ct),osl⟩)
  (c:W.codeIn K cdv qual=true) (k:W.keepIn K (.ref f)=true):Fun K x qual st f (W.fnOf x qual (nW st) (jz st) (aN st) .none kV doc pm an cdv ct):=⟨⟨oc,od,kV,doc,pm,an,cdv,ct,osl,rfl,l,c⟩,k⟩
end
section
variable {X:Cx}
theorem pv (i:Nat){x:Str}{pos:Pos}(hN:X.N[i]? = some x:=by rfl)(hv:Vis X.env.scope x:=by first | exact Or.inl rfl | exact Or.inr (Or.inl rfl) | exact Or.inr (Or.inr rfl))(hd:(x == ("__debug__" : Str))=false:=by decide)
  (hcd:(x == ("__classdict__" : Str))=false:=by decide):PE X (.Name x pos) (abm i):=jx hN hv hd hcd
end
def aM (H H':Hp):Prop:=∀b o,H b=some o->H' b=some o
theorem aM.refl (H:Hp):aM H H:=λ_ _ h=>h
theorem aM.trans {H H1 H2:Hp}(a:aM H H1)(b:aM H1 H2):aM H H2:=λc o h=>b c o (a c o h)
theorem aM.free {H H':Hp}(e:aM H H'){l:Addr}(h:H' l=Option.none):H l=Option.none:=by
 cases q:H l with
 |none=>rfl
 |some o=>
  rw [e l o q] at h
  cases h
theorem aM.seq {K:W.Frag}{H H':Hp}{a:Addr}{xs:List V}(e:aM H H')(h:SqL K H a xs):SqL K H' a xs:=by
 rcases h with (h | ⟨o,h⟩) | h
 ·exact .inl (.inl (e _ _ h))
 ·exact .inl (.inr ⟨o,e _ _ h⟩)
 ·exact .inr h
end L2
set_option maxHeartbeats 4000000
namespace Hd
open PySem PySem.Spec PyProof.Rows L2
abbrev St:=L2.St
theorem Rg {n k:Nat}(h:n<2 ^ k)(hk:0<k):n.log2<k:=by
 by_cases z:n=0
 ·rw [z]
  exact hk
 ·exact (Nat.log2_lt z).mpr h
@[irreducible] noncomputable def lmM:Nat:=2 ^ 60000
@[irreducible] noncomputable def lmD:Nat:=2 ^ 8900
theorem S5:lmM=2 ^ 60000:=by unfold lmM;rfl
theorem J7:lmD=2 ^ 8900:=by unfold lmD;rfl
theorem bits_le {i:Int}(h:i.natAbs<lmM):Builtin.Int.intBits i<=60000:=by
 unfold Builtin.Int.intBits
 split
 ·exact Nat.zero_le _
 ·rw [S5] at h;exact Rg (k:=60000) h (by decide)
def aaT (_ j:Int):Prop:=j≠0/\j.natAbs<lmD
def Tc (i j:Int):Prop:=i.natAbs<lmM/\j.natAbs<lmM
theorem Tc.ok {i j:Int}(h:Tc i j):IntMulOk i j:=by
 have h1:=bits_le h.1
 have h2:=bits_le h.2
 have hb:bitsLine=134217728:=rfl
 have z:Builtin.Int.intTooBig (Builtin.Int.intBits i+Builtin.Int.intBits j)=false:=by
  unfold Builtin.Int.intTooBig
  refine decide_eq_false ?_
  omega
 unfold IntMulOk
 rw [z]
 simp
section
variable {X:Cx}
theorem Rj:OpR X (binaryOp .FloorDiv) (rI aaT λi j=>.int (i.fdiv j)):=
 opI λ_ _ _ _ _ _ _ hc q=>floordiv_int hc.1 q (.inl (PyProof.noPylong_of_log2 (Nat.lt_of_lt_of_le (Rg (k:=8900) (J7 ▸ hc.2) (by decide)) (by decide))))
theorem WR:OpR X (binaryOp .Mult) (rI Tc λi j=>.int (i*j)):=opI λ_ _ _ _ _ _ _ hc q=>mul_int q hc.ok
end
mutual
inductive DV (K:W.Frag)(H:Hp):V->PyData->Prop where
 |non:DV K H .non .none
 |bl (b:Bool):DV K H (.bl b) (.bool b)
 |int (i:Int):DV K H (.int i) (.int i)
 |str (x:Str):DV K H (.str x) (.str x)
 |tup {a:Addr} {xs:List V} {ds:List PyData}:SqT K H a xs->DVs K H xs ds->DV K H (.ref a) (.tuple ds)
 |lst {a:Addr} {xs:List V} {ds:List PyData}:SqL K H a xs->DVs K H xs ds->DV K H (.ref a) (.list ds)
inductive DVs (K:W.Frag)(H:Hp):List V->List PyData->Prop where
 |nil:DVs K H [] []
 |cons {v:V} {vs:List V} {d:PyData} {ds:List PyData}:DV K H v d->DVs K H vs ds->DVs K H (v::vs) (d::ds)
end
section
variable {X:Cx}{pins:Zl}{σ:St}{H:Hp}{s:Shared}
mutual
theorem DV.reads (I:Inv X pins σ H s):∀{v:V} {d:PyData} {u:Value},DV X.K H v d->RelV v u->∃as,Reads s.heap u d as
 |_,_,u,.non,r=>by cases (show u=Value.none from r);exact ⟨_,.none⟩
 |_,_,u,.bl b,r=>by cases (show u=Value.bool b from r);exact ⟨_,.bool b⟩
 |_,_,u,.int i,r=>by obtain ⟨t,e⟩:=(show ∃t,u=Value.int i t from r);subst e;exact ⟨_,.int i t⟩
 |_,_,u,.str x,r=>by obtain ⟨t,e⟩:=(show ∃t,u=Value.str x t from r);subst e;exact ⟨_,.str x t⟩
 |_,_,u,.tup (a:=a) h hs,r=>by
  cases (show u=Value.ref a from r)
  obtain ⟨its,rv,⟨o,ho,hc,n,hd⟩,_⟩:=I.tuple h
  obtain ⟨as,ra⟩:=DVs.reads I hs rv
  exact ⟨as,.tuple ho hc hd (by simpa using ra)⟩
 |_,_,u,.lst (a:=a) h hs,r=>by
  cases (show u=Value.ref a from r)
  obtain ⟨its,rv,⟨o,n,ho,hc,_,hd⟩,_⟩:=I.list h
  obtain ⟨as,ra⟩:=DVs.reads I hs rv
  exact ⟨a::as,.list ho hc hd (by simpa using ra)⟩
theorem DVs.reads (I:Inv X pins σ H s):∀{vs:List V} {ds:List PyData} {us:List Value},DVs X.K H vs ds->Vals vs us->∃as,ReadsAll s.heap us ds as
 |_,_,_,.nil,.nil=>⟨[],.nil⟩
 |_,_,_,.cons h hs,.cons r rs=>by
  obtain ⟨as,ra⟩:=DV.reads I h r
  obtain ⟨bs,rb⟩:=DVs.reads I hs rs
  exact ⟨as++bs,.cons ra rb⟩
end
end
section
variable {X:Cx}
def acW (K:W.Frag):R2:=λx y H Q=>∃d e,DV K H x d/\DV K H y e/\SeqAt.shaped d=true/\SeqAt.shaped e=true/\Q (.bl (PyData.eqv d e)) H
def acE (K:W.Frag):R2:=λx y H Q=>∃d e,DV K H x d/\DV K H y e/\SeqAt.shaped d=true/\SeqAt.shaped e=true/\Q (.bl (!PyData.eqv d e)) H
theorem YT (hu:X.A.units+64<cLine):OpR X (compareOp .Eq) (acW X.K):=by
 intro pins s σ H x y v u Q I rx ry h
 obtain ⟨d,e,hd,he,sd,se,q⟩:=h
 obtain ⟨as,ra⟩:=hd.reads I rx
 obtain ⟨bs,rb⟩:=he.reads I ry
 exact eq_dataH ra rb sd se hu (cQ I q rfl)
theorem ZG (hu:X.A.units+64<cLine):OpR X (compareOp .NotEq) (acE X.K):=by
 intro pins s σ H x y v u Q I rx ry h
 obtain ⟨d,e,hd,he,sd,se,q⟩:=h
 obtain ⟨as,ra⟩:=hd.reads I rx
 obtain ⟨bs,rb⟩:=he.reads I ry
 exact ne_dataH ra rb sd se hu (cQ I q rfl)
end
section
variable {X:Cx}
noncomputable def abA:V->Option Value
 | .ty n=>some (.type n)
 | .ref a=>some (.ref a)
 |_=>none
theorem QF {c:V}{cv u:Value}(e:abA c=some cv)(r:RelV c u):u=cv:=by
 cases c with
 |ty n=>cases e;exact r
 |ref a=>cases e;exact r
 |_=>cases e
end
section
variable {X:Cx}{t u:TS}{pos:Pos}
end
structure Fly (P:Program)(w:World)(outer:List Env)(H:Hp)(s:Shared)(e:Value)(s':Shared)(ea t:Addr)(cls:Value)(B:Heap)(H':Hp):Prop where
 is:e=.ref ea
 os:s'.os=s.os
 bare:AllBare s'.gens
 fly:Heap.FlyingW B outer ea cls (.ref t) s'.heap
 keep:∀b o,s.heap.get? b=some o->H b=none->b∉frs outer->B.get? b=some o
 slot:∀b o,s.heap.get? b=some o->b∈frs outer->∃sl,s'.heap.get? b=some { o with slots:=sl }
 free:∀b o,s.heap.get? b=some o->H b=none->H' b=none
 there:∀b o,s.heap.get? b=some o->b∉frs outer->∃o',B.get? b=some o'
 tups:∀b xs,H b=some (.tup xs)->H' b=some (.tup xs)
 frzs:∀b o u,H b=some (.frz o u)->H' b=some (.frz o u)
 tbls:∀b ps,H b=some (.tbl ps)->∃more,H' b=some (.tbl (ps++more))
 hok:HOk P w H' B
 new:s.heap.get? ea=none
 nin:H' ea=none
def CX1 (P:Program)(w:World):CXT:=λouter H s E e s'=>∃ea t cls B H',Fly P w outer H s e s' ea t cls B H'/\E cls none H'
theorem Uv {env:Env}{l:List Env}{L b:Addr}(hf:env.frame=some L)(h:b∈frs (env::l)):b=L\/b∈frs l:=by
 unfold frs at h
 rw [List.filterMap_cons,hf] at h
 rcases List.mem_cons.mp h with z | z
 ·exact .inl z
 ·exact .inr z
theorem Q7 {env:Env}{l:List Env}{b:Addr}(h:b∈frs l):b∈frs (env::l):=by
 unfold frs at h ⊢
 obtain ⟨e,he,hf⟩:=List.mem_filterMap.mp h
 exact List.mem_filterMap.mpr ⟨e,List.mem_cons_of_mem _ he,hf⟩
section
variable {P:Program}{w:World}{K:W.Frag}{mg:Zp}{base:Heap}{N:List Str}{qual:Str}{scope:Scope}{f:Addr}{cd:Value}{A:Around}{outer:List Env}{s:Shared}{H:Hp}{E:XK}
theorem aP:Passes (CX1 P w) (Aq (CX1 P w) P w K mg base N qual scope f cd A outer s H E) E:=by
 intro pins σ H1 s1 e s' I h
 obtain ⟨ea,t,cls,B,H',F,hw⟩:=h
 obtain rfl:=F.is
 have nfr:∀b o,s.heap.get? b=some o->b∉frs outer->b∉frs (Aq (CX1 P w) P w K mg base N qual scope f cd A outer s H E).stack:=λb o q nb hb=>by
  rcases Uv (L:=s.heap.objs.size) rfl hb with z | z
  ·exact absurd (Heap.lt_size q) (by rw [z];exact Nat.lt_irrefl _)
  ·exact nb z
 have nx:∀b:Addr,b∉(Aq (CX1 P w) P w K mg base N qual scope f cd A outer s H E).ex:=λb z=>absurd (show b∈([]:List Addr) from z) (by simp)
 refine wpAny_leaves_onW (base:=B) (outer:=outer) (L:=s.heap.objs.size) I.ok.frames rfl F.fly λh2 x1 x2=>?_
 refine ⟨ea,t,cls,B,H',⟨rfl,F.os.trans I.os,F.bare,x1,λb o q n nb=>?_,λb o q hb=>?_,λb o q n=>?_,λb o q nb=>?_,λb xs q=>F.tups b xs (I.base.tups b xs q),λb o u q=>F.frzs b o u (I.base.frzs b o u q),λb ps q=>?_,F.hok,?_,F.nin⟩,hw⟩
 ·exact F.keep b o (I.base.keep b o q n nb (nx b)) (I.base.free b o q n (nx b)) (nfr b o q nb)
 ·obtain ⟨sl,e1⟩:=I.base.slot b o q (I.ok.frf b hb) hb (nx b)
  obtain ⟨_,o',ho',hnf⟩:=I.ok.yE.mem hb
  have eo:o=o':=Option.some.inj (q.symm.trans ho')
  obtain ⟨sl1,e2⟩:=F.slot b _ e1 (Q7 hb)
  obtain ⟨sl2,e3⟩:=x2 b _ e2 (λv z=>hnf v (by rw [← eo];exact z))
  exact ⟨sl2,e3⟩
 ·obtain ⟨o',e1⟩:=I.base.there b o q (nx b)
  exact F.free b o' e1 (I.base.free b o q n (nx b))
 ·obtain ⟨o',e1⟩:=I.base.there b o q (nx b)
  exact F.there b o' e1 (nfr b o q nb)
 ·obtain ⟨m1,e1⟩:=I.base.tbls b ps q
  obtain ⟨m2,e2⟩:=F.tbls b _ e1
  exact ⟨m1++m2,by rw [e2,Array.append_assoc]⟩
 ·cases q:s.heap.get? ea with
  |none=>rfl
  |some o=>
   obtain ⟨o',e1⟩:=I.base.there ea o q (nx ea)
   rw [F.new] at e1;cases e1
end
theorem Cm {P:Program}{w:World}{X:Cx}:Passes (CX1 P w) X E0:=λ_ _ _ _ _ _ _ ⟨_,_,_,_,_,_,z⟩=>z.elim
def aa4 (ea:Addr)(cls:Value)(h:Heap):Prop:=∃o,h.get? ea=some o/\o.cls=cls/\∃vs,o.data=.fields vs
section
variable {X:Cx}{pins:Zl}{σ:St}{H H':Hp}{s s':Shared}{e:Value}{ea t:Addr}{cls:Value}{B:Heap}
theorem Fly.inv (F:Fly X.prog X.w X.stack H s e s' ea t cls B H')(I:Inv X pins σ H s){h2:Heap}{tk:Nat}(k1:B.StaysIn h2)(k2:s'.heap.UpToSlots h2):Inv X pins σ H' { s' with heap:=h2,toks:=tk }:=by
 have nf:∀b∈frs X.stack,∀o,s.heap.get? b=some o->∀vs,o.data≠.fields vs:=λb hb o q=>by
  obtain ⟨_,o',ho',hnf⟩:=I.stack.mem hb
  have eo:o=o':=Option.some.inj (q.symm.trans ho')
  rw [eo];exact hnf
 refine I.call' (s':={ s' with heap:=h2,toks:=tk }) (ch:=[]) F.os ⟨λb o q n hb _=>k1 b o (F.keep b o q n hb),λb o q n hb _=>?_,λb o q n _=>F.free b o q n,λb o q _=>?_,F.tups,F.frzs,F.tbls⟩ (F.hok.kept k1) F.bare (λb z=>nomatch z)
 ·obtain ⟨sl,e1⟩:=F.slot b o q hb
  obtain ⟨sl2,e2⟩:=k2 b _ e1 (nf b hb o q)
  exact ⟨sl2,e2⟩
 ·by_cases hb:b∈frs X.stack
  ·obtain ⟨sl,e1⟩:=F.slot b o q hb
   obtain ⟨sl2,e2⟩:=k2 b _ e1 (nf b hb o q)
   exact ⟨_,e2⟩
  ·obtain ⟨o',e1⟩:=F.there b o q hb
   exact ⟨o',k1 b o' e1⟩
end
section
variable {X:Cx}{pins:Zl}{σ:St}{H H':Hp}{s s':Shared}{e:Value}{ea t:Addr}{cls:Value}{B:Heap}
end
section
variable {X:Cx}{k:Nat}{f:Addr}{fd:FuncData}{ps:List Str}{sp:Sp}{x:Str}{p pos pos':Pos}{e:Expr}{es:List Expr}{t:TA}
end
section
variable {X:Cx}{x:Str}{e₀:Expr}{np cpos pos:Pos}{te:TE}{C:Addr}{bmB:List Value}{B newId initId:String}
end
structure Fn (P:Program)(w:World)(K:W.Frag)(mg:Zp)(base:Heap)(k:Nat)(x:Str)(ps:List Str)(sp:Sp):Prop where
 ex:∃f fd,o7 P w K mg base (CX1 P w) k f fd ps sp/\Binds K fd ps []/\W.keepIn K (.ref f)=true/\mg x=some (.ref f)
section
variable {X:Cx}{j k:Nat}{x:Str}{ps:List Str}{sp:Sp}{p pos:Pos}{e:Expr}{es:List Expr}{t:TA}
end
section
variable {P:Program}{w:World}{K:W.Frag}{mg:Zp}{base:Heap}
theorem Mr {x qual:Str}{st:Stmt}{f:Addr}{fd:FuncData}{N ps:List Str}{k:Nat}{sp:Sp}(F:Fun K x qual st f fd)(S:aY N ps (aN st))(len:∀vs H Q E,sp vs H Q E->vs.length=ps.length)
  (hbody:∀(cdv:Value) (A:Around) (outer:List Env) (s:Shared) (H:Hp) (vs:List V) (Q:VK) (E:XK),gR k (A.deeper (envOfC qual (aN st) s.heap.objs.size f cdv))->sp vs H Q E->
   ∃t,PSs (Aq (CX1 P w) P w K mg base N qual (aN st) f cdv A outer s H E) (jz st) t/\t { nx:=λ_ H'=>Q .non H',rt:=Q } (start N vs) H):o7 P w K mg base (CX1 P w) (k+1) f fd ps sp:=by
 obtain ⟨oc,od,kV,doc,pm,an,cdv,ct,osl,rfl,lk,hcd⟩:=F.ex
 refine aaW lk hcd S len λA outer s H vs Q E hr hsp=>?_
 obtain ⟨t,h,q⟩:=hbody cdv A outer s H vs Q E hr hsp
 exact ⟨t,h,q⟩
end
structure Df (K:W.Frag)(mg:Zp)(x:Str)(st:Stmt)(ps:List Str):Prop where
 ex:∃f fd,Fun K x x st f fd/\Binds K fd ps []/\mg x=some (.ref f)
theorem Df.fn {P:Program}{w:World}{K:W.Frag}{mg:Zp}{base:Heap}{x:Str}{st:Stmt}{ps:List Str}{k:Nat}{sp:Sp}(D:Df K mg x st ps)
  (h:∀f fd,Fun K x x st f fd->o7 P w K mg base (CX1 P w) k f fd ps sp):Fn P w K mg base k x ps sp:=by
 obtain ⟨f,fd,F,b,m⟩:=D.ex
 exact ⟨f,fd,h f fd F,b,F.kp,m⟩
section
variable {prog:Program}{w:World}{A:Around}{E:Zs}{h:Heap}{g:Array GenState}{d:Drawn}{t:Nat}{os:OsState}{a C:Addr}{o:Obj}{K:W.Frag}
end
section
variable {X:Cx}
end
end Hd
namespace L2
open PySem PySem.Spec PyProof.Rows
section
variable {κ:Type}[DecidableEq κ]
noncomputable def nH (kvs:List (κ×V))(k:κ):Option V:=(kvs.find? λkv=>decide (kv.1=k)).map (·.2)
noncomputable def putK (kvs:List (κ×V))(k:κ)(v:V):List (κ×V):=
 if (kvs.any λkv=>decide (kv.1=k))=true then kvs.map (λkv=>if kv.1=k then (kv.1,v) else kv) else kvs++[(k,v)]
theorem rF {p:κ×V}{r:List (κ×V)}{k:κ}(e:p.1=k):nH (p::r) k=some p.2:=by simp [nH,List.find?_cons,e]
theorem rN {p:κ×V}{r:List (κ×V)}{k:κ}(e:¬p.1=k):nH (p::r) k=nH r k:=by simp [nH,List.find?_cons,e]
theorem zB (k:κ):∀kvs:List (κ×V),(kvs.any λkv=>decide (kv.1=k))=(nH kvs k).isSome
 |[]=>rfl
 |p::r=>by
  rw [List.any_cons]
  by_cases e:p.1=k
  ·simp only [rF e,decide_eq_true e,Bool.true_or,Option.isSome_some]
  ·rw [rN e,decide_eq_false e,Bool.false_or];exact zB k r
theorem qX (kvs:List (κ×V))(k:κ)(v:V):(putK kvs k v).length<=kvs.length+1:=by
 unfold putK
 split
 ·rw [List.length_map];omega
 ·rw [List.length_append,List.length_cons,List.length_nil];omega
theorem QT {kvs:List (κ×V)}{k:κ}(v:V)(h:nH kvs k=none):putK kvs k v=kvs++[(k,v)]:=by
 unfold putK
 rw [zB,h]
 exact if_neg (by decide)
theorem wQ.pC {o:Option V}{u:Option Value}(r:wQ o u):o.isSome=u.isSome:=by
 cases o with
 |none=>cases u with
  |none=>rfl
  |some _=>exact (show False from r).elim
 |some _=>cases u with
  |none=>exact (show False from r).elim
  |some _=>rfl
theorem wQ.getD {o:Option V}{u:Option Value}{d:V}{d':Value}(r:wQ o u)(rd:RelV d d'):RelV (o.getD d) (u.getD d'):=by
 cases o with
 |none=>cases u with
  |none=>exact rd
  |some _=>exact (show False from r).elim
 |some _=>cases u with
  |none=>exact (show False from r).elim
  |some _=>exact r
theorem KV.val {kvs:List (κ×V)}{vs:List (κ×Value)}(r:KV kvs vs)(k:κ):wQ (nH kvs k) (valueAt vs k):=by
 unfold KV at r
 induction r with
 |nil=>exact True.intro
 | @cons p q ps qs h t ih=>
  obtain ⟨h1,h2⟩:=h
  by_cases e:p.1=k
  ·have e':q.1=k:=h1.symm.trans e
   have b:valueAt (q::qs) k=some q.2:=by simp [valueAt,List.find?_cons,e']
   rw [rF e,b];exact h2
  ·have e':¬q.1=k:=λz=>e (h1.trans z)
   have b:valueAt (q::qs) k=valueAt qs k:=by simp [valueAt,List.find?_cons,e']
   rw [rN e,b];exact ih
theorem KV.any {kvs:List (κ×V)}{vs:List (κ×Value)}(r:KV kvs vs)(k:κ):(kvs.any λkv=>decide (kv.1=k))=vs.any λkv=>decide (kv.1=k):=by
 unfold KV at r
 induction r with
 |nil=>rfl
 |cons h t ih=>rw [List.any_cons,List.any_cons,ih,h.1]
theorem KV.repl {kvs:List (κ×V)}{vs:List (κ×Value)}(r:KV kvs vs)(k:κ){y:V}{u:Value}(ry:RelV y u):
  KV (kvs.map λkv=>if kv.1=k then (kv.1,y) else kv) (vs.map λkv=>if kv.1=k then (kv.1,u) else kv):=by
 unfold KV at r ⊢
 induction r with
 |nil=>exact .nil
 | @cons p q ps qs h t ih=>
  rw [List.map_cons,List.map_cons]
  refine .cons ?_ ih
  obtain ⟨h1,h2⟩:=h
  by_cases e:p.1=k
  ·rw [if_pos e,if_pos (h1.symm.trans e)];exact ⟨h1,ry⟩
  ·rw [if_neg e,if_neg (λz=>e (h1.trans z))];exact ⟨h1,h2⟩
theorem KV.put {kvs:List (κ×V)}{vs:List (κ×Value)}(r:KV kvs vs)(k:κ){y:V}{u:Value}(ry:RelV y u):KV (putK kvs k y) (stored vs k u):=by
 unfold putK stored
 rw [r.any k]
 by_cases e:(vs.any λkv=>decide (kv.1=k))=true
 ·rw [if_pos e,if_pos e];exact r.repl k ry
 ·rw [if_neg e,if_neg e];exact Paired.snoc r ⟨rfl,ry⟩
theorem KV.keys {kvs:List (κ×V)}{vs:List (κ×Value)}(r:KV kvs vs):kvs.map (·.1)=vs.map (·.1):=by
 unfold KV at r
 induction r with
 |nil=>rfl
 |cons h t ih=>rw [List.map_cons,List.map_cons,ih,h.1]
theorem KV.length {kvs:List (κ×V)}{vs:List (κ×Value)}(r:KV kvs vs):kvs.length=vs.length:=Paired.length r
end
theorem Dj {P:Program}{w:World}{k:Key}{u:Value}(r:RelV (kV k) u):(jf P w).is k u=true:=by
 cases k with
 |inl i=>obtain ⟨t,e⟩:=(show ∃t,u=Value.int i t from r);subst e;exact Ia P w i t
 |inr x=>obtain ⟨t,e⟩:=(show ∃t,u=Value.str x t from r);subst e;exact HR P w x t
abbrev KT (T:Addr->List V->Prop)(H:Hp):List (List Kt×V)->List (List Kt×Addr×Value)->Prop:=Paired λp q=>p.1=q.1/\TrT T H q.2.1 p.1/\RelV p.2 q.2.2
theorem KT.val {T:Addr->List V->Prop}{H:Hp}{kvs:List (List Kt×V)}{xs:List (List Kt×Addr×Value)}(r:KT T H kvs xs)(k:List Kt):wQ (nH kvs k) ((atKey xs k).map (·.2)):=by
 induction r with
 |nil=>exact True.intro
 | @cons p q ps qs h t ih=>
  obtain ⟨h1,_,h2⟩:=h
  by_cases e:p.1=k
  ·have e':q.1=k:=h1.symm.trans e
   have b:atKey (q::qs) k=some q.2:=by simp [atKey,List.find?_cons,e']
   rw [rF e,b];exact h2
  ·have e':¬q.1=k:=λz=>e (h1.trans z)
   have b:atKey (q::qs) k=atKey qs k:=by simp [atKey,List.find?_cons,e']
   rw [rN e,b];exact ih
theorem KT.repl {T:Addr->List V->Prop}{H:Hp}{kvs:List (List Kt×V)}{xs:List (List Kt×Addr×Value)}(r:KT T H kvs xs)(k:List Kt){y:V}{u:Value}(ry:RelV y u):
  KT T H (kvs.map λkv=>if kv.1=k then (kv.1,y) else kv) (xs.map (putAt k u)):=by
 induction r with
 |nil=>exact .nil
 | @cons p q ps qs h t ih=>
  rw [List.map_cons,List.map_cons]
  refine .cons ?_ ih
  obtain ⟨h1,h2,h3⟩:=h
  unfold putAt
  by_cases e:p.1=k
  ·rw [if_pos e,if_pos (h1.symm.trans e)];exact ⟨h1,h2,ry⟩
  ·rw [if_neg e,if_neg (λz=>e (h1.trans z))];exact ⟨h1,h2,h3⟩
theorem KT.put {T:Addr->List V->Prop}{H:Hp}{kvs:List (List Kt×V)}{xs:List (List Kt×Addr×Value)}(r:KT T H kvs xs)(k:List Kt){b:Addr}{y:V}{u:Value}(hb:TrT T H b k)(ry:RelV y u):
  KT T H (putK kvs k y) (storedH xs k b u):=by
 have e:(kvs.any λkv=>decide (kv.1=k))=(atKey xs k).isSome:=by
  rw [zB,(r.val k).pC,Option.isSome_map]
 unfold putK storedH
 rw [e]
 by_cases q:(atKey xs k).isSome=true
 ·rw [if_pos q,if_pos q];exact r.repl k ry
 ·rw [if_neg q,if_neg q];exact Paired.snoc r ⟨rfl,hb,ry⟩
theorem KT.keeps {T:Addr->List V->Prop}{H H':Hp}{kvs:List (List Kt×V)}{xs:List (List Kt×Addr×Value)}(r:KT T H kvs xs)(ht:∀b ys,H b=some (.tup ys)->H' b=some (.tup ys)):KT T H' kvs xs:=
 Paired.ZK r λ_ _ z=>⟨z.1,z.2.1.imp ht,z.2.2⟩
section
variable {P:Program}{w:World}{H:Hp}{h:Heap}{a:Addr}
theorem Yh {u:HO}(ok:HOk P w H h)(e:Rd H a u):dH P w H h a u:=e.ok ok
theorem zZ {kvs:List (Key×V)}(ok:HOk P w H h)(e:Rd H a (.dK kvs)):kvs.length<=sizeLine/\(a == sysModules)=false/\∃vs,KV kvs vs/\h.DictOf (jf P w) a vs:=
 show dH P w H h a (.dK kvs) from Yh ok e
theorem SQ {kvs:List (Key×V)}(ok:HOk P w H h)(e:H a=some (.dK kvs)):kvs.length<=sizeLine/\(a == sysModules)=false/\∃vs,KV kvs vs/\h.DictOf (jf P w) a vs:=zZ ok (.inl e)
theorem Dn {T:Addr->List V->Prop}{kvs:List (List Kt×V)}(hT:∀b ks,TrT T H b ks->(ju P w).is h ks b)(ok:HOk P w H h)(e:Rd H a (.dT T kvs)):kvs.length<=sizeLine/\(a == sysModules)=false/\
  ∃xs,KT T H kvs xs/\h.DictOfH (ju P w) a xs:=by
 obtain ⟨z,y,xs,r,o,es,ep,h1,h2,h3,h4,h5⟩:=(show dH P w H h a (.dT T kvs) from Yh ok e)
 refine ⟨z,y,xs,r,o,es,ep,h1,h2,h3,h4,λx hx=>?_,h5⟩
 have all:∀{l:List (List Kt×V)} {m:List (List Kt×Addr×Value)},KT T H l m->∀x∈m,(ju P w).is h x.1 x.2.1:=by
  intro l m q
  induction q with
  |nil=>intro x hx;exact nomatch hx
  | @cons p q ps qs hq t ih=>
   intro x hx
   rcases List.mem_cons.mp hx with e | hx
   ·subst e
    rw [← hq.1]
    exact hT _ _ hq.2.1
   ·exact ih x hx
 exact all r x hx
theorem Uu {T:Addr->List V->Prop}{kvs:List (List Kt×V)}(hT:∀b ks,TrT T H b ks->(ju P w).is h ks b)(ok:HOk P w H h)(e:H a=some (.dT T kvs)):kvs.length<=sizeLine/\(a == sysModules)=false/\
  ∃xs,KT T H kvs xs/\h.DictOfH (ju P w) a xs:=Dn hT ok (.inl e)
end
def Ae (K:W.Frag)(H:Hp)(a:Addr)(y:V)(r:Option V):Prop:=
 (∃kvs k,Rd H a (.dK kvs)/\y=kV k/\r=nH kvs k)\/∃kvs k b,Rd H a (.dT (KTp K) kvs)/\y=.ref b/\TrT (KTp K) H b k/\r=nH kvs k
def BJ (K:W.Frag)(H:Hp)(a:Addr)(y v:V)(H':Hp):Prop:=
 (∃kvs k,H a=some (.dK kvs)/\y=kV k/\kvs.length<sizeLine/\H'=upd H a (.dK (putK kvs k v))) ∨
 ∃kvs k b,H a=some (.dT (KTp K) kvs)/\y=.ref b/\TrT (KTp K) H b k/\kvs.length<sizeLine/\H'=upd H a (.dT (KTp K) (putK kvs k v))
theorem Ae.k {K:W.Frag}{H:Hp}{a:Addr}{kvs:List (Key×V)}{k:Key}(e:H a=some (.dK kvs)):Ae K H a (kV k) (nH kvs k):=.inl ⟨kvs,k,.inl e,rfl,rfl⟩
theorem BJ.k {K:W.Frag}{H:Hp}{a:Addr}{kvs:List (Key×V)}{k:Key}{v:V}(e:H a=some (.dK kvs))(hl:kvs.length<sizeLine):BJ K H a (kV k) v (upd H a (.dK (putK kvs k v))):=.inl ⟨kvs,k,e,rfl,hl,rfl⟩
theorem BJ.t {K:W.Frag}{H:Hp}{a b:Addr}{kvs:List (List Kt×V)}{k:List Kt}{v:V}(e:H a=some (.dT (KTp K) kvs))(eb:TrT (KTp K) H b k)(hl:kvs.length<sizeLine):
  BJ K H a (.ref b) v (upd H a (.dT (KTp K) (putK kvs k v))):=.inr ⟨kvs,k,b,e,rfl,eb,hl,rfl⟩
section
variable {X:Cx}{pins:Zl}{σ:St}{H:Hp}{s:Shared}{a:Addr}{y v:V}{u r:Value}{o:Option V}{A:Around}{E:Zs}
theorem Inv.big (I:Inv X pins σ H s):sysModules<s.heap.objs.size:=by
 have h:mainGlobals<s.heap.objs.size:=(I.mod.glob.keeps I.bk).lt
 exact Nat.lt_trans (by decide) h
mutual
theorem KN (I:Inv X pins σ H s):∀{n:Nat} {v:V} {k:Kt} {u:Value},yw (KTp X.K) H n v k->RelV v u->lE s.heap n k u
 |n,_,_,u,.k (x:=x),r=>by rw [oE];exact Dj (P:=X.prog) (w:=X.w) r
 |_,_,_,u,.t (b:=b) h hs,r=>by
  cases (show u=Value.ref b from r)
  obtain ⟨its,rv,⟨o,ho,hc,m,hd⟩,_⟩:=I.tuple (SqU.sq h)
  exact jT.mpr ⟨b,o,its.toArray,m,rfl,ho,hc,hd,by simpa using IW I hs rv⟩
theorem IW (I:Inv X pins σ H s):∀{n:Nat} {vs:List V} {ks:List Kt} {us:List Value},qL (KTp X.K) H n vs ks->Vals vs us->Paired (lE s.heap n) ks us
 |_,_,_,_,.nil,.nil=>.nil
 |_,_,_,_,.cons h hs,.cons r rs=>.cons (KN I h r) (IW I hs rs)
end
theorem ug {ks:List Kt}{b:Addr}(I:Inv X pins σ H s)(e:TrT (KTp X.K) H b ks):(ju X.prog X.w).is s.heap ks b:=by
 obtain ⟨vs,h,hs⟩:=e
 exact KN I (.t h hs) rfl
theorem xH (I:Inv X pins σ H s):∀b ks,TrT (KTp X.K) H b ks->(ju X.prog X.w).is s.heap ks b:=λb ks e=>ug I e
theorem pJ {A:Around}(hu:A.units+16<cLine):(ju X.prog X.w).room A.in1:=by
 show A.units+1+8<cLine
 omega
theorem Ox {Q:Zs}(hu:A.units+16<cLine)(I:Inv X pins σ H s)(g:Ae X.K H a y (some v))(ry:RelV y u)(h:∀w' s',Inv X pins σ H s'->RelV v w'->Q w' s'):
  wpAny (model X.prog X.w) A (getItem (.ref a) u) Q E s:=by
 rcases g with ⟨kvs,k,e,ey,l⟩ | ⟨kvs,k,b,e,ey,eb,l⟩
 ·subst ey
  obtain ⟨z,hd,vs,rel,dd⟩:=zZ I.hok e
  obtain ⟨w',hw,rw'⟩:=wQ.some_of (v:=v) (o:=valueAt vs k) (by rw [l];exact rel.val k)
  exact wpAny_getItem_of (Dj ry) dd.mapOf hw (h w' _ (I.tok _) rw')
 ·subst ey
  cases (show u=Value.ref b from ry)
  obtain ⟨z,hd,xs,rel,dd⟩:=Dn (xH I) I.hok e
  obtain ⟨w',hw,rw'⟩:=wQ.some_of (v:=v) (o:=(atKey xs k).map (·.2)) (by rw [l];exact rel.val k)
  obtain ⟨p,hp,hp2⟩:=Option.map_eq_some_iff.mp hw
  refine wpAny_getItem_heap (pJ hu) (ug I eb) dd hp ?_
  rw [hp2]
  exact h w' _ (I.tok _) rw'
theorem acD {Q:Zs}(hu:A.units+16<cLine)(I:Inv X pins σ H s)(g:Ae X.K H a y o)(ry:RelV y u)(h:∀s',Inv X pins σ H s'->Q (.bool o.isSome) s'):
  wpAny (model X.prog X.w) A (compareOp .In u (.ref a)) Q E s:=by
 rcases g with ⟨kvs,k,e,ey,l⟩ | ⟨kvs,k,b,e,ey,eb,l⟩
 ·subst ey
  obtain ⟨z,hd,vs,rel,dd⟩:=zZ I.hok e
  refine wpAny_in_of (Dj ry) hd dd.mapOf ?_
  rw [← (rel.val k).pC,← l]
  exact h _ (I.tok _)
 ·subst ey
  cases (show u=Value.ref b from ry)
  obtain ⟨z,hd,xs,rel,dd⟩:=Dn (xH I) I.hok e
  refine wpAny_in_heap (pJ hu) (ug I eb) hd dd ?_
  have q:=(rel.val k).pC
  rw [Option.isSome_map] at q
  rw [← q,← l]
  exact h _ (I.tok _)
theorem Wc {Q:Zs}(hu:A.units+16<cLine)(I:Inv X pins σ H s)(g:Ae X.K H a y o)(ry:RelV y u)(h:∀s',Inv X pins σ H s'->Q (.bool (!o.isSome)) s'):
  wpAny (model X.prog X.w) A (compareOp .NotIn u (.ref a)) Q E s:=by
 rcases g with ⟨kvs,k,e,ey,l⟩ | ⟨kvs,k,b,e,ey,eb,l⟩
 ·subst ey
  obtain ⟨z,hd,vs,rel,dd⟩:=zZ I.hok e
  refine wpAny_notIn_of (Dj ry) hd dd.mapOf ?_
  rw [← (rel.val k).pC,← l]
  exact h _ (I.tok _)
 ·subst ey
  cases (show u=Value.ref b from ry)
  obtain ⟨z,hd,xs,rel,dd⟩:=Dn (xH I) I.hok e
  refine wpAny_notIn_heap (pJ hu) (ug I eb) hd dd ?_
  have q:=(rel.val k).pC
  rw [Option.isSome_map] at q
  rw [← q,← l]
  exact h _ (I.tok _)
theorem uT {h':Heap}{t':Nat}{ob:HO}(I:Inv X pins σ H s)(mu:Mut (H a))(hs:Heap.SameBut a s.heap h')(he:∃q,h'.get? a=some q)(new:dH X.prog X.w (upd H a ob) h' a ob):
  Inv X pins σ (upd H a ob) { s with heap:=h',toks:=t' }:=
 I.write (x:=a) (e:=a) mu (.inl rfl) (λb q hb z=>(hs.2 b hb).trans z) he new
theorem Uh {P:Program}{w:World}{H':Hp}{h':Heap}{kvs:List (Key×V)}{vs:List (Key×Value)}(z:kvs.length<=sizeLine)(hd:(a == sysModules)=false)(rel:KV kvs vs)(dd:h'.DictOf (jf P w) a vs):
  dH P w H' h' a (.dK kvs):=⟨z,hd,vs,rel,dd⟩
theorem Qm {H':Hp}{Q:Unit->Shared->Prop}(hu:A.units+16<cLine)(I:Inv X pins σ H s)(g:BJ X.K H a y v H')(ry:RelV y u)(rv:RelV v r)(h:∀s',Inv X pins σ H' s'->Q () s'):
  wpAny (model X.prog X.w) A (setItem (.ref a) u r) Q E s:=by
 rcases g with ⟨kvs,k,e,ey,l,eH⟩ | ⟨kvs,k,b,e,ey,eb,l,eH⟩
 ·subst ey eH
  obtain ⟨z,hd,vs,rel,dd⟩:=SQ I.hok e
  have hz:vs.length<=sizeLine:=by rw [← rel.length];exact z
  have hl:(putK kvs k v).length<=sizeLine:=by have:=qX kvs k v;omega
  refine wpAny_setItem_pairs (hsz:=hz) (Dj ry) dd λh' dd' hs=>h _ ?_
  have he:∃q,h'.get? a=some q:=let ⟨q,_,_,hq,_⟩:=dd';⟨q,hq⟩
  exact uT I (by rw [e];exact True.intro) hs he (Uh hl hd (rel.put k rv) dd')
 ·subst ey eH
  cases (show u=Value.ref b from ry)
  obtain ⟨z,hd,xs,rel,dd⟩:=Uu (xH I) I.hok e
  have hz:xs.length<=sizeLine:=by rw [← Paired.length rel];exact z
  have hl:(putK kvs k v).length<=sizeLine:=by have:=qX kvs k v;omega
  refine wpAny_setItem_heap (hsz:=hz) (pJ hu) (ug I eb) dd λh' dd' hs=>h _ ?_
  obtain ⟨q,es,ep,hq,h2,h3,h4,_,h5⟩:=dd'
  refine uT I (by rw [e];exact True.intro) hs ⟨q,hq⟩ ⟨hl,hd,_,(rel.put k eb rv).keeps λc ys ec=>?_,q,es,ep,hq,h2,h3,h4,h5⟩
  rw [cH (QZ ec e (λz=>nomatch z))]
  exact ec
end
section
variable {X:Cx}{pins:Zl}{σ:St}{H:Hp}{s:Shared}{a:Addr}{kvs:List (Key×V)}{k:Key}{u:Value}{A:Around}{E:Zs}
theorem ab2 {Q:Zs}(I:Inv X pins σ H s)(e:Rd H a (.dK kvs))(h:∀t s',Inv X pins σ H s'->Q (.int kvs.length t) s'):wpAny (model X.prog X.w) A (call (.builtin "len") [.ref a]) Q E s:=by
 obtain ⟨z,hd,vs,rel,dd⟩:=zZ I.hok e
 refine call_len_dict hd dd (by rw [← rel.length];rw [sizeLine_eq] at z;omega) ?_
 rw [← rel.length]
 exact h _ _ (I.tok _)
end
def Xz (i:Expr):Prop:=∀ov iv,subscripted i false ov iv=operate [ov,iv] (getItem ov iv)
theorem Xn {prog:Program}{w:World}{A:Around}{E:Zs}{s:Shared}{env:Env}{value slice:Expr}{pos:Pos}{T id:String}{Q:Zs}
  (hl:typeLookup (.type T) "__getitem__" = pure (some (.builtin id))) (hs:Xz slice)
  (h:wpAny (model prog w) A (eval value env) (λo s₁=>wpAny (model prog w) A (eval slice env) (λi s₂=>s₂.TypeIs o T/\wpAny (model prog w) A (getItem o i) Q E s₂) E s₁) E s):
  wpAny (model prog w) A (eval (.Subscript value slice pos) env) Q E s:=by
 refine Subscript_ (wpAny_mono h (λo s₁ h₁=>wpAny_mono h₁ (λi s₂ h₂=>?_) λ_ _ x=>x) λ_ _ x=>x)
 obtain ⟨hT,h₂⟩:=h₂
 unfold subscriptTail
 refine wpAny_bind ?_
 rw [getitemInPython_of_ne hT.not_modules]
 refine wpAny_bind (wpAny_specialOf hT hl ?_)
 have fin:wpAny (model prog w) A (subscripted slice false o i) (λr s₃=>wpAny (model prog w) A (letTemporaryGo value o r >>= λ_=>pure r) Q E s₃) E s₂:=by
  rw [hs o i]
  exact wpAny_operating (wpAny_mono h₂ (λr s₃ h₃=>wpAny_bind (wpAny_letTemporaryGo (wpAny_pure h₃))) λ_ _ x=>x)
 first
  |exact wpAny_pure (wpAny_bind fin)
  |exact wpAny_bind (wpAny_pure (wpAny_bind fin))
  |exact wpAny_bind fin
theorem Ij {X:Cx}{pins:Zl}{σ:St}{H:Hp}{s:Shared}{a:Addr}{y:V}{o:Option V}(I:Inv X pins σ H s)(g:Ae X.K H a y o):s.TypeIs (.ref a) "dict":=by
 rcases g with ⟨kvs,k,e,_,_⟩ | ⟨kvs,k,b,e,_,_,_⟩
 ·obtain ⟨_,_,vs,_,dd⟩:=zZ I.hok e
  exact dd.typeIs
 ·obtain ⟨_,_,xs,_,dd⟩:=Dn (xH I) I.hok e
  exact dd.typeIs
def abU (K:W.Frag)(td ty:TE):TE:=λσ H Q=>td σ H λx H1=>ty σ H1 λy H2=>∃a v,x=.ref a/\Ae K H2 a y (some v)/\Q v H2
def aa0 (K:W.Frag)(td ty tv:TE):TS:=λD σ H=>tv σ H λv H1=>td σ H1 λx H2=>ty σ H2 λy H3=>∃a H4,x=.ref a/\BJ K H3 a y v H4/\D.nx σ H4
section
variable {X:Cx}{o i e value:Expr}{pos pos' tpos:Pos}{td ty tv:TE}
theorem Mm (hu:X.A.units+16<cLine)(ho:PE X o td)(hi:PE X i ty)(hs:Xz i):PE X (.Subscript o i pos) (abU X.K td ty):=by
 intro pins s σ H Q I h
 refine Xn PySem.F.slot_dict_getitem.lookup hs (thn (ho pins s σ H _ I h) λu s1 ⟨x,H1,I1,rx,q1⟩=>thn (hi pins s1 σ H1 _ I1 q1) λiv s2 ⟨y,H2,I2,ry,a,v,ex,g,q2⟩=>?_)
 subst ex
 obtain rfl:u=Value.ref a:=rx
 exact ⟨Ij I2 g,Ox hu I2 g ry λw' s3 I3 rw'=>⟨v,H2,I3,rw',q2⟩⟩
theorem yI (hu:X.A.units+16<cLine)(ho:PE X o td)(hi:PE X i ty)(hv:PE X value tv)(hs:swapsWith value (some (.Subscript o i pos')) pos.line X.env=pure false):
  PS X (.Assign [.Subscript o i pos'] value pos) (aa0 X.K td ty tv):=by
 intro pins s σ H D I h
 refine wpAny_Assign_Subscript (thn (hv pins s σ H _ I h) λr s1 ⟨v,H1,I1,rv,q1⟩=>thn (ho pins s1 σ H1 _ I1 q1) λu s2 ⟨x,H2,I2,rx,q2⟩=>thn (hi pins s2 σ H2 _ I2 q2) λiv s3 ⟨y,H3,I3,ry,a,H4,ex,g,q3⟩=>?_) hs
 subst ex
 obtain rfl:u=Value.ref a:=rx
 exact Qm hu I3 g ry rv λs4 I4=>⟨σ,H4,I4,q3⟩
end
theorem G9 {P:Program}{w:World}{H:Hp}(h:Heap)(hb:sysModules<h.objs.size):dH P w H (h.push { cls:=.type "dict",data:=.dict #[] }) h.objs.size (.dK []):=
 ⟨Nat.zero_le _,beq_eq_false_iff_ne.mpr (Ne.symm (Nat.ne_of_lt hb)),[],.nil,Heap.DictOf.new h⟩
theorem Io {T:Addr->List V->Prop}{P:Program}{w:World}{H:Hp}(h:Heap)(hb:sysModules<h.objs.size):dH P w H (h.push { cls:=.type "dict",data:=.dict #[] }) h.objs.size (.dT T []):=
 ⟨Nat.zero_le _,beq_eq_false_iff_ne.mpr (Ne.symm (Nat.ne_of_lt hb)),[],.nil,_,#[],0,Heap.get?_push_size _ rfl,⟨rfl,rfl,rfl⟩,rfl,rfl,List.nodup_nil⟩
def YW:TE:=λ_ H Q=>∀p,H p=none->Q (.ref p) (upd H p (.dK []))
def YQ (K:W.Frag):TE:=λ_ H Q=>∀p,H p=none->Q (.ref p) (upd H p (.dT (KTp K) []))
section
variable {X:Cx}{pos:Pos}
theorem Rb:PE X (.Dict [] [] pos) YW:=λpins s σ H Q I h=>
 wpAny_Dict_empty ⟨.ref s.heap.objs.size,_,I.laid (a:=s.heap.objs.size) (o:=.dK []) (t':=s.toks) (λ_ _ q=>Heap.get?_push_of_some _ q) (Nat.le_refl _) (G9 s.heap I.big),rfl,h _ (I.hok.fresh (Nat.le_refl _))⟩
theorem S7:PE X (.Dict [] [] pos) (YQ X.K):=λpins s σ H Q I h=>
 wpAny_Dict_empty ⟨.ref s.heap.objs.size,_,I.laid (a:=s.heap.objs.size) (o:=.dT (KTp X.K) []) (t':=s.toks) (λ_ _ q=>Heap.get?_push_of_some _ q) (Nat.le_refl _) (Io s.heap I.big),rfl,h _ (I.hok.fresh (Nat.le_refl _))⟩
end
def wR:List (TE×TE)->St->Hp->(List (V×V)->Hp->Prop)->Prop
 |[],_,H,Q=>Q [] H
 |(tk,tv)::r,σ,H,Q=>tk σ H λx H1=>tv σ H1 λy H2=>wR r σ H2 λps H3=>Q ((x,y)::ps) H3
abbrev VV:List (V×V)->List (Value×Value)->Prop:=Paired λp q=>RelV p.1 q.1/\RelV p.2 q.2
def PPs (X:Cx)(pos:Pos)(keys:List (Option Expr))(values:List Expr)(trs:List (TE×TE)):Prop:=
 ∀(pins:Zl) (s:Shared) (σ:St) (H:Hp) (Q:List (V×V)->Hp->Prop),Inv X pins σ H s->wR trs σ H Q->
  wpAny (model X.prog X.w) X.A (evalPairs (pairTrees keys values X.env pos)) (λvs s'=>∃ps H',Inv X pins σ H' s'/\VV ps vs/\Q ps H') X.xe s
theorem Nx {X:Cx}{pos:Pos}:PPs X pos [] [] []:=λpins s σ H Q I h=>pairTrees_nil_walk ⟨[],H,I,.nil,h⟩
theorem mZ {X:Cx}{pos:Pos}{k v:Expr}{ks:List (Option Expr)}{vs:List Expr}{tk tv:TE}{trs:List (TE×TE)}(hk:PE X k tk)(hv:PE X v tv)(hr:PPs X pos ks vs trs):
  PPs X pos (some k::ks) (v::vs) ((tk,tv)::trs):=λpins s σ H Q I h=>
 pairTrees_cons_walk (thn (hk pins s σ H _ I h) λu s1 ⟨x,H1,I1,rx,q1⟩=>thn (hv pins s1 σ H1 _ I1 q1) λw2 s2 hE=>xq2 hE λy H2 I2 ry q2=>
  thn (hr pins s2 σ H2 _ I2 q2) λws s3 ⟨ps,H3,I3,rel,q3⟩=>⟨(x,y)::ps,H3,I3,.cons ⟨rx,ry⟩ rel,q3⟩)
noncomputable def jV (kvs more:List (Key×V)):List (Key×V):=more.foldl (λacc kv=>putK acc kv.1 kv.2) kvs
theorem KV.merge:∀{more:List (Key×V)} {rs:List (Key×Value)} {kvs:List (Key×V)} {vs:List (Key×Value)},KV more rs->KV kvs vs->KV (jV kvs more) (merged vs rs):=by
 intro more rs kvs vs r
 unfold KV at r
 induction r generalizing kvs vs with
 |nil=>intro q;exact q
 | @cons p q ps qs h t ih=>
  intro r0
  have e:KV (putK kvs p.1 p.2) (stored vs q.1 q.2):=by
   have:=r0.put p.1 h.2
   rw [← h.1];exact this
  exact ih e
theorem tD:∀(more kvs:List (Key×V)),(jV kvs more).length<=kvs.length+more.length
 |[],kvs=>by show kvs.length<=kvs.length+0;omega
 |p::r,kvs=>by
  have h1:=tD r (putK kvs p.1 p.2)
  have h2:=qX kvs p.1 p.2
  show (jV (putK kvs p.1 p.2) r).length<=_
  rw [List.length_cons];omega
theorem zr {P:Program}{w:World}:∀{kvs:List (Key×V)} {ws:List (Value×Value)},VV (kvs.map λkv=>(kV kv.1,kv.2)) ws->∃rs,Carries (jf P w) ws rs/\KV kvs rs
 |[],_,r=>by rw [List.map_nil] at r;cases r;exact ⟨[],True.intro,.nil⟩
 |p::kvs,_,r=>by
  rw [List.map_cons] at r
  cases r with
  | @cons a b as bs h t=>
   obtain ⟨rs,c,q⟩:=zr (P:=P) (w:=w) t
   obtain ⟨b1,b2⟩:=b
   exact ⟨(p.1,b2)::rs,⟨Dj h.1,rfl,c⟩,.cons ⟨rfl,h.2⟩ q⟩
def aa8 (trs:List (TE×TE)):TE:=λσ H Q=>∀p,H p=none->wR trs σ (upd H p (.dK [])) λps H2=>H2 p=some (.dK [])/\∃kvs:List (Key×V),ps=kvs.map (λkv=>(kV kv.1,kv.2))/\kvs.length<=15/\Q (.ref p) (upd H2 p (.dK (jV [] kvs)))
theorem NB {X:Cx}{pos:Pos}{keys:List (Option Expr)}{values:List Expr}{trs:List (TE×TE)}(h:PPs X pos keys values trs)(hall:keys.all (·.isSome)=true)(hl:keys.length=values.length)(h0:keys≠[])
  (h15:keys.length<=15):PE X (.Dict keys values pos) (aa8 trs):=by
 intro pins s σ H Q I q
 have hn:=I.hok.fresh (Nat.le_refl s.heap.objs.size)
 have I1:=I.laid (a:=s.heap.objs.size) (o:=.dK []) (h':=s.heap.push { cls:=.type "dict",data:=.dict #[] }) (t':=s.toks) (λ_ _ q=>Heap.get?_push_of_some _ q) (Nat.le_refl _) (G9 s.heap I.big)
 refine wpAny_Dict_walk (knd:=jf X.prog X.w) hall hl h0 h15 (thn (h pins _ σ _ _ I1 (q _ hn)) λws s2 ⟨ps,H2,I2,rel,e,kvs,ep,lk,q2⟩=>?_)
 subst ep
 obtain ⟨rs,c,rk⟩:=zr (P:=X.prog) (w:=X.w) rel
 obtain ⟨z,hd,vs0,r0,dd⟩:=SQ I2.hok e
 cases r0
 refine ⟨rs,c,dd,λh' dd' hs=>⟨.ref s.heap.objs.size,_,?_,rfl,q2⟩⟩
 have hz:(jV [] kvs).length<=sizeLine:=by
  have h1:=tD kvs []
  rw [List.length_nil] at h1
  rw [sizeLine_eq];omega
 have he:∃q,h'.get? s.heap.objs.size=some q:=let ⟨q,_,_,hq,_⟩:=dd';⟨q,hq⟩
 exact uT I2 (by rw [e];exact True.intro) hs he (Uh hz hd (rk.merge .nil) dd')
structure M2 (X:Cx)(o:Expr)(m:Str)(apos:Pos)(e f:Expr)(cpos:Pos):Prop where
 base:attributeBase o m X.env (eval o X.env)=eval o X.env
 few:((backTo cpos (starEach [e,f] X.env)).all (λx=>!x.1) && (backToKw cpos (keywordEach [] X.env)).all (λx=>x.1.isSome)
  && decide (([e,f]:List Expr).length+([]:List Keyword).length+(if ([]:List Keyword).isEmpty then 0 else 1)<30))=true
 line:(apos.endLine == cpos.line)=true
 trees:backTo cpos (starEach [e,f] X.env)=[(false,eval e X.env),(false,eval f X.env)]
def IsD (K:W.Frag)(H:Hp)(a:Addr):Prop:=(∃kvs,Rd H a (.dK kvs))\/∃kvs,Rd H a (.dT (KTp K) kvs)
theorem Zq {X:Cx}{pins:Zl}{σ:St}{H:Hp}{s:Shared}{a:Addr}(I:Inv X pins σ H s)(d:IsD X.K H a):
  s.TypeIs (.ref a) "dict"/\(∀b,Value.ref a=.ref b->∃ob,s.heap.get? b=some ob/\ob.dict=none)/\(a == sysModules)=false:=by
 rcases d with ⟨kvs,e⟩ | ⟨kvs,e⟩
 ·obtain ⟨_,hd,vs,_,dd⟩:=zZ I.hok e
  refine ⟨dd.typeIs,λb q=>?_,hd⟩
  cases q
  obtain ⟨ob,_,_,h1,h2,_⟩:=dd
  exact ⟨ob,h1,h2.2.1⟩
 ·obtain ⟨_,hd,xs,_,dd⟩:=Dn (xH I) I.hok e
  refine ⟨dd.typeIs,λb q=>?_,hd⟩
  cases q
  obtain ⟨ob,_,_,h1,h2,_⟩:=dd
  exact ⟨ob,h1,h2.2.1⟩
section
variable {X:Cx}{pins:Zl}{σ:St}{H:Hp}{s:Shared}{a:Addr}{y d:V}{u r:Value}{o:Option V}{A:Around}{E:Zs}
end
section
variable {X:Cx}{o e f:Expr}{apos cpos:Pos}{td ty tx:TE}
end
section
variable {X:Cx}{pins:Zl}{σ:St}{H:Hp}{s:Shared}{a:Addr}{kvs:List (Key×V)}{A:Around}{E:Zs}
end
section
variable {X:Cx}{pins:Zl}{σ:St}{H:Hp}{s:Shared}{a:Addr}{y:V}{u:Value}{A:Around}{E:Zs}
end
section
variable {X:Cx}
theorem OD:iW X (.builtin "len") (λxs H Q=>∃a kvs,xs=[V.ref a]/\H a=some (.dK kvs)/\Q (.int kvs.length) H):=by
 intro pins s σ H xs us Q I r h
 obtain ⟨a,kvs,rfl,ha,q⟩:=h
 obtain ⟨u,rfl,ru⟩:=vals1 r
 cases ru
 exact ab2 I (.inl ha) λt s' I'=>⟨.int kvs.length,H,I',⟨t,rfl⟩,q⟩
end
section
variable {κ:Type}[DecidableEq κ]
end
end L2
namespace Hd
open PySem PySem.Spec PyProof.Rows L2
theorem bz {H:Hp}{p:Addr}(h:H p=none)(o:HO):aM H (upd H p o):=λb u q=>by
 rw [cH (jX q h)]
 exact q
section
variable {X:Cx}{e:Expr}{es:List Expr}{pos:Pos}
theorem bI {T T':TE}(h:PE X e T)(k:∀σ H Q,T' σ H Q->T σ H Q):PE X e T':=λpins s σ H Q I q=>h pins s σ H Q I (k σ H Q q)
def clA (t:TA):TA:=λσ H Q=>∃R,t σ H R/\∀xs H1,R xs H1->Q xs H1
theorem Yr {t:TA}(h:PA X es t):PA X es (clA t):=λpos pins s σ H Q I ⟨R,hR,k⟩=>thn (h pos pins s σ H R I hR) λ_ _ hE=>xq2 hE λvs H1 I1 r q=>⟨vs,H1,I1,r,k _ _ q⟩
def abM (t:TA):TE:=λσ H Q=>t σ H λxs H1=>xs.length<=sizeLine/\∀p H',aM H1 H'->H' p=some (.tup xs)->Q (.ref p) H'
theorem MJ {x1}{t:TA}(h:PA X es t):PE X (.Tuple es x1 pos) (abM t):=
 bI (Zm (Yr h)) λ_ _ _ q=>⟨_,q,λ_ _ ⟨z,k⟩=>⟨z,λp hp=>k p _ (bz hp _) aW⟩⟩
end
noncomputable abbrev cX (X:Cx)(N':List Str)(scope:Scope)(cl:List (Str×Addr))(C:Addr)(sE:Shared)(HE:Hp)(fp:List Addr)(pins:Zl):Cx:=
 { X with N:=N',s₀:=sE,H₀:=HE,env:=compEnvC scope cl C X.env,outer:=X.stack,ex:=fp,fn:=λ_=>false,pn:=X.pn++pins,xe:=λ_ _=>False }
structure CSc (sc scope:Scope)(caps:List Str):Prop where
 kind:scope.kind=.function
 nocell:∀y∈scope.names,y.2≠.cell
 loc:∀y∈scope.names,y.2=.local->scope.names.lookup y.1=some .local
 free:∀y∈scope.names,y.2=.free->sc.names.lookup y.1=some .cell\/sc.names.lookup y.1=some .free
 caps:∀x∈caps,scope.names.lookup x=some .free/\(sc.names.lookup x=some .cell\/sc.names.lookup x=some .free)
theorem mem_of_lookup {β:Type}:∀{l:List (Str×β)} {x:Str} {k:β},l.lookup x=some k->(x,k)∈l
 |[],_,_,h=>by simp at h
 |(n,k')::r,x,k,h=>by
  rw [List.lookup_cons] at h
  split at h
  ·rename_i e
   have e':x=n:=by simpa using e
   cases h
   rw [e']
   exact List.mem_cons_self
  ·exact List.mem_cons_of_mem _ (mem_of_lookup h)
theorem vN {env:Env}:∀{names:List (Str×NameKind)} {x:Str},names.lookup x=some .free->
  (names.map λ(n,k)=>if (k == NameKind.free && env.scope.kind == .function && env.kindOf n == some .cell) then (n,NameKind.cell) else (n,k)).lookup x=some .cell ∨
  (names.map λ(n,k)=>if (k == NameKind.free && env.scope.kind == .function && env.kindOf n == some .cell) then (n,NameKind.cell) else (n,k)).lookup x=some .free
 |[],_,h=>by simp at h
 |(n,k)::r,x,h=>by
  have ih:=@vN env r x
  show List.lookup x ((if (k == NameKind.free && env.scope.kind == .function && env.kindOf n == some .cell)=true then (n,NameKind.cell) else (n,k))::_)=_\/List.lookup x ((if (k == NameKind.free && env.scope.kind == .function && env.kindOf n == some .cell)=true then (n,NameKind.cell) else (n,k))::_)=_
  cases hx:x == n with
  |true=>
   simp only [List.lookup_cons,hx] at h
   cases h
   by_cases hc:(NameKind.free == NameKind.free && env.scope.kind == .function && env.kindOf n == some .cell)=true
   ·rw [if_pos hc];simp only [List.lookup_cons,hx];exact .inl trivial
   ·rw [if_neg hc];simp only [List.lookup_cons,hx];exact .inr trivial
  |false=>
   simp only [List.lookup_cons,hx] at h
   by_cases hc:(k == NameKind.free && env.scope.kind == .function && env.kindOf n == some .cell)=true
   ·rw [if_pos hc];simp only [List.lookup_cons,hx];exact ih h
   ·rw [if_neg hc];simp only [List.lookup_cons,hx];exact ih h
theorem Ag {env:Env}:∀{names:List (Str×NameKind)} {x:Str},(∀y∈names,y.2≠.cell)->
  ((names.map λ(n,k)=>if (k == NameKind.free && env.scope.kind == .function && env.kindOf n == some .cell) then (n,NameKind.cell) else (n,k)).lookup x=some .cell ∨
  (names.map λ(n,k)=>if (k == NameKind.free && env.scope.kind == .function && env.kindOf n == some .cell) then (n,NameKind.cell) else (n,k)).lookup x=some .free)->names.lookup x=some .free
 |[],_,_,h=>by simp at h
 |(n,k)::r,x,hn,h=>by
  have ih:=@Ag env r x (λy hy=>hn y (List.mem_cons_of_mem _ hy))
  have h':List.lookup x ((if (k == NameKind.free && env.scope.kind == .function && env.kindOf n == some .cell)=true then (n,NameKind.cell) else (n,k))::_)=some .cell\/List.lookup x ((if (k == NameKind.free && env.scope.kind == .function && env.kindOf n == some .cell)=true then (n,NameKind.cell) else (n,k))::_)=some .free:=h
  have hk:k≠.cell:=hn (n,k) List.mem_cons_self
  by_cases hc:(k == NameKind.free && env.scope.kind == .function && env.kindOf n == some .cell)=true
  ·rw [if_pos hc] at h'
   have kf:k=.free:=by
    simp only [Bool.and_eq_true,beq_iff_eq] at hc
    exact hc.1.1
   subst kf
   cases hx:x == n with
   |true=>simp only [List.lookup_cons,hx]
   |false=>
    simp only [List.lookup_cons,hx] at h' ⊢
    exact ih h'
  ·rw [if_neg hc] at h'
   cases hx:x == n with
   |true=>
    simp only [List.lookup_cons,hx] at h' ⊢
    rcases h' with z | z
    ·exact absurd (Option.some.inj z) hk
    ·exact z
   |false=>
    simp only [List.lookup_cons,hx] at h' ⊢
    exact ih h'
theorem tZ {env:Env}:∀(names:List (Str×NameKind)) (acc:List (Str×Addr)),(∀y∈names,y.2=.free->∃c,env.cells.lookup y.1=some c)->
  ∃cl,(forIn names acc λ(y:Str×NameKind) (cs:List (Str×Addr))=>(if y.2 == .free then do let c ← cellOf env y.1;pure (ForInStep.yield ((y.1,c)::cs)) else pure (ForInStep.yield cs):Sem (ForInStep (List (Str×Addr)))))=pure cl/\
   (∀x c,cl.lookup x=some c->acc.lookup x=some c\/env.cells.lookup x=some c)/\(∀x c,acc.lookup x=some c->∃c',cl.lookup x=some c')/\∀y∈names,y.2=.free->∃c,cl.lookup y.1=some c
 |[],acc,_=>⟨acc,rfl,λ_ _ e=>.inl e,λ_ c e=>⟨c,e⟩,λ_ z=>nomatch z⟩
 |(n,k)::r,acc,h=>by
  have hr:∀y∈r,y.2=.free->∃c,env.cells.lookup y.1=some c:=λy hy=>h y (List.mem_cons_of_mem _ hy)
  by_cases hk:(k == NameKind.free)=true
  ·obtain ⟨c,hc⟩:=h (n,k) List.mem_cons_self (by simpa using hk)
   obtain ⟨cl,e,h1,h2,h3⟩:=tZ r ((n,c)::acc) hr
   refine ⟨cl,?_,λx d q=>?_,λx d q=>?_,λy hy q=>?_⟩
   ·have ec:cellOf env n=pure c:=by unfold cellOf;rw [show env.cells.lookup n=some c from hc]
    rw [List.forIn_cons]
    simp only [hk,if_true,ec,pure_bind]
    exact e
   ·rcases h1 x d q with z | z
    ·rw [List.lookup_cons] at z
     split at z
     ·rename_i e1
      have e1':x=n:=by simpa using e1
      cases z
      rw [e1']
      exact .inr hc
     ·exact .inl z
    ·exact .inr z
   ·by_cases e1:(x == n)=true
    ·exact h2 x c (by rw [List.lookup_cons,e1])
    ·exact h2 x d (by rw [List.lookup_cons];simp only [Bool.not_eq_true] at e1;rw [e1];exact q)
   ·rcases List.mem_cons.mp hy with z | z
    ·subst z
     exact h2 n c (by rw [List.lookup_cons];simp)
    ·exact h3 y z q
  ·obtain ⟨cl,e,h1,h2,h3⟩:=tZ r acc hr
   refine ⟨cl,?_,h1,h2,λy hy q=>?_⟩
   ·rw [List.forIn_cons]
    simp only [hk,if_false,pure_bind,Bool.false_eq_true]
    exact e
   ·rcases List.mem_cons.mp hy with z | z
    ·subst z
     exact absurd (show (k == NameKind.free)=true by simpa using q) hk
    ·exact h3 y z q
theorem yj {scope:Scope}{env:Env}(h:∀y∈scope.names,y.2=.free->∃c,env.cells.lookup y.1=some c):
  ∃cl,closureFor scope env=pure cl/\(∀x c,cl.lookup x=some c->env.cells.lookup x=some c)/\∀y∈scope.names,y.2=.free->∃c,cl.lookup y.1=some c:=by
 obtain ⟨cl,e,h1,_,h3⟩:=tZ scope.names [] h
 refine ⟨cl,?_,λx c q=>(h1 x c q).elim (λz=>by simp at z) id,h3⟩
 unfold closureFor
 simp only [bind_pure]
 refine Eq.trans ?_ e
 rfl
section
variable {X:Cx}{pins:Zl}{σ:St}{HE:Hp}{sE:Shared}{N':List Str}{scope sc:Scope}{cl:List (Str×Addr)}{fp:List Addr}{caps:List Str}
theorem XH (I:Inv X pins σ HE sE)(S:CSc sc scope caps)(hfp:∀b∈fp,tU X pins HE b/\b<sE.heap.objs.size)
  (hc1:∀x c,cl.lookup x=some c->X.env.cells.lookup x=some c) (hc2:∀y∈scope.names,y.2=.free->∃c,cl.lookup y.1=some c):
  (cX X N' scope cl sE.heap.objs.size sE HE fp pins).Ok where
 mod:=I.ok.mod
 kind:=S.kind
 glob:=I.ok.glob
 blt:=I.ok.blt
 above:=Nat.le_refl _
 inj:=λx y c h1 h2=>I.ok.inj x y c (hc1 x c h1) (hc1 y c h2)
 has:=λx h=>hc2 (x,.free) (mem_of_lookup (Ag S.nocell h)) rfl
 cab:=λx c h=>nomatch h
 hd:=I.ok.hd
 frames:=I.ok.frames
 stk:=.inl rfl
 exf:=λb hb=>⟨Nat.ne_of_lt (hfp b hb).2,λx c h=>(hfp b hb).1.2.2.2.2.1 x c (hc1 x c h)⟩
 bs:=I.bs
 bsz:=Nat.le_trans I.ok.bsz I.sz
 noex:=λb o e hb=>by
  rcases (hfp b hb).1.2.2.2.1 with z | z
  ·exact I.ok.noex b o e z
  ·exact absurd (Nat.lt_of_lt_of_le (Heap.lt_size e) (Nat.le_trans I.ok.bsz z)) (Nat.lt_irrefl _)
 exfs:=λb hb hz=>by
  rcases List.mem_cons.mp (I.Ew b hz) with z | z
  ·exact (hfp b hb).1.2.1 z
  ·exact (hfp b hb).1.2.2.1 z
 yE:=I.stack
 frf:=I.K6
theorem Tq {k:Nat}{cap:List Nat}{h':Heap}(I:Inv X pins σ HE sE)(S:CSc sc scope caps)(hsc:X.env.scope=sc)(hfp:∀b∈fp,tU X pins HE b/\b<sE.heap.objs.size)
  (hc1:∀x c,cl.lookup x=some c->X.env.cells.lookup x=some c) (hc2:∀y∈scope.names,y.2=.free->∃c,cl.lookup y.1=some c)
  (hN:N'.drop k=caps) (hk:k<=N'.length) (hcap:Paired (λj x=>X.N[j]? = some x) cap caps) {m:Zp}
  (kp:∀b o,sE.heap.get? b=some o->h'.get? b=some o) (hns:h'.Ns sE.heap.objs.size m) (tk:Nat):
  Inv (cX X N' scope cl sE.heap.objs.size sE HE fp pins) [] (List.replicate k none++cap.map λj=>(σ[j]?).join) HE { sE with heap:=h',toks:=tk } where
 ok:=XH I S hfp hc1 hc2
 os:=rfl
 bare:=I.bare
 base:=Un.kept kp
 loc:=by
  refine ⟨m,hns,λi x v e1 e2 e3=>?_⟩
  have hik:k<=i:=by
   by_cases z:k<=i
   ·exact z
   ·rw [List.getElem?_append_left (by simp;omega),List.getElem?_replicate] at e2
    rw [if_pos (by omega)] at e2
    cases e2
  obtain ⟨j',rfl⟩:∃j',i=k+j':=⟨i-k,by omega⟩
  rw [List.getElem?_append_right (by simp),List.length_replicate,Nat.add_sub_cancel_left,List.getElem?_map] at e2
  have hx:caps[j']? = some x:=by rw [← hN,List.getElem?_drop];exact e1
  have:∀{l:List Nat} {l':List Str} {i:Nat},Paired (λj x=>X.N[j]? = some x) l l'->l'[i]? = some x->∃j,l[i]? = some j/\X.N[j]? = some x:=by
   intro l l' i p
   induction p generalizing i with
   |nil=>intro z;simp at z
   |cons a _ ih=>
    intro z
    cases i with
    |zero=>simp at z;subst z;exact ⟨_,rfl,a⟩
    |succ i=>exact ih (by simpa using z)
  obtain ⟨j,hj,hNj⟩:=this hcap hx
  rw [hj] at e2
  have e2':σ[j]? = some (some v):=by
   cases q:σ[j]? with
   |none=>rw [Option.map_some,q] at e2;cases e2
   |some o=>
    rw [Option.map_some,q] at e2
    have:o=some v:=Option.some.inj e2
    rw [this]
  obtain ⟨hxf,hxo⟩:=S.caps x (List.mem_of_getElem? hx)
  rw [← hsc] at hxo
  obtain ⟨m0,_,hl⟩:=I.loc
  obtain ⟨u,r,L⟩:=hl j x v hNj e2' (hxo.elim (λz=>.inr (.inl z)) λz=>.inr (.inr z))
  refine ⟨u,r,.inr ⟨vN hxf,?_⟩⟩
  rcases L with ⟨z,_⟩ | ⟨_,c,hc,hcell⟩
  ·have z':X.env.scope.names.lookup x=some .local:=z
   rcases hxo with q | q<;>rw [z'] at q<;>cases q
  ·obtain ⟨c',hc'⟩:=hc2 (x,.free) (mem_of_lookup hxf) rfl
   have e:=hc1 x c' hc'
   rw [hc] at e
   cases e
   obtain ⟨o,ho,hd⟩:=hcell
   exact ⟨c,hc',o,kp c o ho,hd⟩
 cell:=λx c e=>by
  obtain ⟨v,o,ho,hd⟩:=I.cell x c (hc1 x c e)
  exact ⟨v,o,kp c o ho,hd⟩
 free:=I.hok.fresh (Nat.le_refl _)
 freeC:=λx c e=>I.freeC x c (hc1 x c e)
 pin:=λp hp=>by
  rw [List.append_nil] at hp
  obtain ⟨e,n,ne,nf,d⟩:=I.pin p hp
  refine ⟨kp _ _ e,n,Nat.ne_of_lt (Heap.lt_size e),λz=>?_,d⟩
  rcases List.mem_cons.mp (I.Ew p.1 z) with q | q
  ·exact ne q
  ·exact nf q
 hok:=I.hok.kept kp
 len:=by
  show (List.replicate k none++cap.map λj=>(σ[j]?).join).length=N'.length
  have:=hcap.length
  rw [← hN,List.length_drop] at this
  simp
  omega
theorem comp_back {σ':St}{H':Hp}{s':Shared}{p':Zl}(I:Inv X pins σ HE sE)(hfp:∀b∈fp,tU X pins HE b/\b<sE.heap.objs.size)
  (I':Inv (cX X N' scope cl sE.heap.objs.size sE HE fp pins) p' σ' H' s'):Inv X pins σ H' s':=
 I.call' (ch:=fp) I'.os I'.base I'.hok I'.bare λb hb=>⟨(hfp b hb).1.2.2.2.1,(hfp b hb).1.2.1,(hfp b hb).1.2.2.2.2.1,(hfp b hb).1.2.2.2.2.2⟩
end
theorem Jl {X:Cx}{pins:Zl}{σ σ':St}{HE H':Hp}{sE s':Shared}{h':Heap}(I:Inv X pins σ HE sE)(I':Inv X pins σ' H' s')(hn:H' sE.heap.objs.size=none)
  (hs:Heap.SameBut sE.heap.objs.size s'.heap h'):Inv X pins σ' H' { s' with heap:=h' }:=by
 refine I'.turned (t':=s'.toks) (λb o hb e=>(hs.2 b hb).trans e) hn (Nat.ne_of_gt I.lt) (.inr I.sz) (λx c e z=>?_) (λp hp z=>?_)
 ·obtain ⟨v,q⟩:=I.cell x c e
  exact absurd q.lt (by rw [z];exact Nat.lt_irrefl _)
 ·exact absurd (Heap.lt_size (I.pin p hp).1) (by rw [z];exact Nat.lt_irrefl _)
def Ov (X:Cx)(ifs:List Expr)(t:TT):Prop:=
 ∀(pins:Zl) (s:Shared) (σ:St) (H:Hp) (Q:Bool->Hp->Prop),Inv X pins σ H s->t σ H Q->
  wpAny (model X.prog X.w) X.A (forIn ifs true λc r=>if r=true then do let ok ← isTrue c X.env (eval c X.env);pure (ForInStep.yield ok) else pure (ForInStep.yield r)) (TP X pins σ Q) X.xe s
def ack:TT:=λ_ H Q=>Q true H
theorem V3 {X:Cx}:Ov X [] ack:=λ_ _ _ H _ I q=>wpAny_tests_nil ⟨H,I,q⟩
theorem Vn {X:Cx}{c:Expr}{t:TT}(h:PT X c t):Ov X [c] t:=λpins s σ H Q I q=>wpAny_tests_one (h pins s σ H Q I q)
noncomputable def cSt (k:Nat)(cap:List Nat)(σ:St):St:=List.replicate k none++cap.map λj=>(σ[j]?).join
def aby (J:It)(k:Nat)(cap:List Nat)(g:TG)(tt:TT)(te:TE)(σ:St)(H1:Hp)(l:Addr)(Q:VK):Prop:=
 ∃W:Nat->Nat->List V->Hp->Prop,(∃m,W 0 m [] (upd H1 l (.lst [])))/\∀i m ys H,W i m ys H->
  (J.stop i H/\Q (.ref l) H)\/(J.go i H/\∀x H',J.yld i H x H'->g x (cSt k cap σ) H' λσ2 H3=>σ2.drop k=(cSt k cap σ).drop k/\tt σ2 H3 λb H4=>
   if b=true then te σ2 H4 λy H5=>H5 l=some (.lst ys)/\ys.length<sizeLine/\∃m',m'<m/\W (i+1) m' (ys++[y]) (upd H5 l (.lst (ys++[y])))
   else ∃m',m'<m/\W (i+1) m' ys H4)
def Ly (k:Nat)(cap:List Nat)(wi:TI)(g:TG)(tt:TT)(te:TE):TE:=λσ H Q=>wi σ H λJ H1=>∀l,H1 l=none->aby J k cap g tt te σ H1 l Q
section
variable {X:Cx}{tg iter elt:Expr}{ifs:List Expr}{sc scope:Scope}{caps N':List Str}{cap:List Nat}{k:Nat}{wi:TI}{g:TG}{tt:TT}{te:TE}{pos:Pos}
theorem Ht {pins:Zl}{s:Shared}{σ:St}{H:Hp}{Q:VK}(hcalm:X.calm=true)(S:CSc sc scope caps)(hsc:X.env.scope=sc)(hN:N'.drop k=caps)(hk:k<=N'.length)(hcap:Paired (λj x=>X.N[j]? = some x) cap caps)
  (hi:PI X tg iter wi) (hg:∀cl C sE HE fp pins,PG (cX X N' scope cl C sE HE fp pins) tg g) (ht:∀cl C sE HE fp pins,Ov (cX X N' scope cl C sE HE fp pins) ifs tt) (he:∀cl C sE HE fp pins,PE (cX X N' scope cl C sE HE fp pins) elt te)
  (I:Inv X pins σ H s) (h:Ly k cap wi g tt te σ H Q) {cl:List (Str×Addr)} (hc1:∀x c,cl.lookup x=some c->X.env.cells.lookup x=some c) (hc2:∀y∈scope.names,y.2=.free->∃c,cl.lookup y.1=some c)
  {RR:Value->Addr->Result->Shared->Prop}
  (hRR:∀l sE HE H' s' m,Inv X pins σ HE sE->Inv X pins σ H' s'->H' sE.heap.objs.size=none->s'.heap.Ns sE.heap.objs.size m->Q (.ref l) H'->RR (.ref l) sE.heap.objs.size (.ok .next) s'):
  wpAny (model X.prog X.w) X.A (eval iter X.env) (λxv s₁=>wpAny (model X.prog X.w) X.A (pyIter xv) (λit s₂=>wpAny (model X.prog X.w) X.A (newList []) (λacc s₃=>
   wpAny (model X.prog X.w) X.A (newFunctionEnv scope X.env.globals cl [] X.env.qual none .none (some X.env)) (λcenv s₄=>
    codeAny (model X.prog X.w) X.A (.compStart (.ListComp elt [⟨tg,iter,ifs,0⟩] scope pos) 0 it acc { cenv with scope:=relabel scope X.env }) (RR acc cenv.locals) s₄) X.xe s₃) X.xe s₂) X.xe s₁) X.xe s:=by
 refine thn (hi pins s σ H _ I h) λv s1 h1=>thn h1 λitv s2 h2=>?_
 obtain ⟨it,fp,tn,J,H1,e,I1,T,st1,f1,q1⟩:=h2
 subst e
 refine wpAny_newList ?_
 have hfree:H1 s2.heap.objs.size=none:=I1.hok.fresh (Nat.le_refl _)
 have fpl:∀b∈fp,b<s2.heap.objs.size:=λb hb=>by
  obtain ⟨o,e,_⟩:=T.obj _ _ st1 b hb
  exact Heap.lt_size e
 generalize hE:({ s2 with heap:=s2.heap.push { cls:=.type "list",data:=.seq ([]:List Value).toArray } }:Shared)=sE
 have k2:∀b o,s2.heap.get? b=some o->sE.heap.get? b=some o:=λb o e=>by rw [← hE];exact Heap.get?_push_of_some _ e
 have szE:s2.heap.objs.size<sE.heap.objs.size:=by rw [← hE];show _<(s2.heap.push _).objs.size;rw [Heap.size_push];exact Nat.lt_succ_self _
 have IE:Inv X pins σ (upd H1 s2.heap.objs.size (.lst [])) sE:=by
  rw [← hE]
  refine I1.laid (t':=s2.toks) (λb o e=>Heap.get?_push_of_some _ e) (Nat.le_refl _) ?_
  exact ⟨Nat.zero_le _,[],0,.nil,Heap.get?_push_size _ rfl⟩
 have fE:∀b∈fp,tU X pins (upd H1 s2.heap.objs.size (.lst [])) b/\b<sE.heap.objs.size:=λb hb=>
  ⟨⟨by rw [cH (Nat.ne_of_lt (fpl b hb))];exact (f1 b hb).1,(f1 b hb).2⟩,Nat.lt_trans (fpl b hb) szE⟩
 obtain ⟨W,⟨m0,w0⟩,turn⟩:=q1 _ hfree
 generalize hl:s2.heap.objs.size=l at *
 clear hl
 generalize hHE:upd H1 l (.lst [])=HE at *
 refine wpAny_newFunctionEnv S.nocell (by intro y hy;simp at hy) (λh₁ hns₁ hsb₁=>?_) S.kind
 have kE:∀b o,sE.heap.get? b=some o->h₁.get? b=some o:=λb o e=>(hsb₁.2 b (Nat.ne_of_lt (Heap.lt_size e))).trans (Heap.get?_push_of_some _ e)
 have I0:=Tq (k:=k) (cap:=cap) (N':=N') IE S hsc fE hc1 hc2 hN hk hcap kE hns₁ (sE.toks+([]:List (Str×Value)).length)
 have st0:tn 0 h₁:=T.keep _ _ _ st1 λb hb o e=>kE b o (k2 b o e)
 have hX:∀{H':Hp},(∀b∈fp,H' b=none)->∀b∈fp,tU (cX X N' scope cl sE.heap.objs.size sE HE fp pins) [] H' b:=λhn b hb=>
  ⟨hn b hb,(I0.ok.exf b hb).1,I0.ok.exfs b hb,.inl hb,(I0.ok.exf b hb).2,λp hp=>by
   rw [List.append_nil] at hp
   exact (fE b hb).1.2.2.2.2.2 p hp⟩
 have loop:∀s₃:Shared,s₃={ sE with heap:=h₁,toks:=sE.toks+([]:List (Str×Value)).length }->
   codeAny (model X.prog X.w) X.A (.compLoop (.ListComp elt [⟨tg,iter,ifs,0⟩] scope pos) 0 (.ref it) (.ref l) (compEnvC scope cl sE.heap.objs.size X.env)) (RR (.ref l) sE.heap.objs.size) s₃:=by
  rintro s₃ rfl
  refine codeAny_loop rfl (λn s'=>∃i ys H',Inv (cX X N' scope cl sE.heap.objs.size sE HE fp pins) [] (cSt k cap σ) H' s'/\tn i s'.heap/\(∀b∈fp,H' b=none)/\W i n ys H') (λn s3 hI=>?_) m0
   ⟨0,[],HE,I0,st0,λb hb=>(fE b hb).1.1,w0⟩
  obtain ⟨i,ys,H3,I3,st3,fr3,w3⟩:=hI
  show wpAny _ X.A ((compTurn (.ListComp elt [⟨tg,iter,ifs,0⟩] scope pos) 0 (.ref it) (.ref l) (compEnvC scope cl sE.heap.objs.size X.env)).onRaise (λx=>do noteFrame x (compEnvC scope cl sE.heap.objs.size X.env);theTreesLotGoes x)) _ _ s3
  refine wpAny_noted ?_
  rw [compTurn_list]
  refine wpAny_bind (wpAny_standAt (wpAny_bind ?_))
  rcases turn i n ys H3 w3 with ⟨stop,qn⟩ | ⟨go,step⟩
  ·refine wpAny_mono (T.done (cX X N' scope cl sE.heap.objs.size sE HE fp pins) rfl rfl rfl hcalm i [] s3 _ H3 (λ_ _=>False) I3 (hX fr3) st3 stop) (λr s4 ⟨hr,I4⟩=>?_) λ_ _ z=>z.elim
   subst hr
   obtain ⟨m4,hn4,_⟩:=I4.loc
   exact wpAny_pure (hRR l sE HE H3 s4 m4 IE (comp_back IE fE I4) I4.free hn4 qn)
  ·refine wpAny_mono (T.item (cX X N' scope cl sE.heap.objs.size sE HE fp pins) rfl rfl rfl hcalm i [] s3 _ H3 (λ_ _=>False) I3 (hX fr3) st3 go) (λr s4 ⟨u,hr,h4⟩=>?_) λ_ _ z=>z.elim
   subst hr
   refine wpAny_bind (wpAny_mono h4 (λ_ s5 ⟨x,H5,I5,r5,y5,st5,fr5⟩=>?_) λ_ _ z=>z.elim)
   have I5':=I5.pinned (hX fr5) (T.obj _ _ st5)
   refine wpAny_bind (wpAny_mono (hg _ _ _ _ _ _ _ s5 _ H5 x u _ I5' r5 (step x H5 y5)) (λ_ s6 ⟨σ6,H6,I6,q6⟩=>?_) λ_ _ z=>z.elim)
   obtain ⟨d6,q6⟩:=q6
   have weak:∀{H7 s7},Inv (cX X N' scope cl sE.heap.objs.size sE HE fp pins) ([]++uG fp s5.heap) σ6 H7 s7->Inv (cX X N' scope cl sE.heap.objs.size sE HE fp pins) ([]++uG fp s5.heap) (cSt k cap σ) H7 s7:=λ{H7 s7} I7=>by
    refine I7.weak (I0.len.trans I7.len.symm) λj v e=>?_
    by_cases z:k<=j
    ·obtain ⟨j',rfl⟩:∃j',j=k+j':=⟨j-k,by omega⟩
     rw [← List.getElem?_drop] at e ⊢
     rw [d6]
     exact e
    ·unfold cSt at e
     rw [List.getElem?_append_left (by simp;omega),List.getElem?_replicate,if_pos (by omega)] at e
     cases e
   have again:∀{H7:Hp} {s7:Shared} {zs:List V},Inv (cX X N' scope cl sE.heap.objs.size sE HE fp pins) ([]++uG fp s5.heap) σ6 H7 s7->(∃m',m'<n/\W (i+1) m' zs H7)->
     ∃m,m<n/\∃i ys H',Inv (cX X N' scope cl sE.heap.objs.size sE HE fp pins) [] (cSt k cap σ) H' s7/\tn i s7.heap/\(∀b∈fp,H' b=none)/\W i m ys H':=λ{H7 s7 zs} I7 ⟨m',hm,w7⟩=>by
    refine ⟨m',hm,i+1,zs,H7,(weak I7).vy,T.keep _ _ _ st5 λb hb o e=>(I7.pin (b,o) (List.mem_append_right _ (List.mem_append_right _ (pX hb e)))).1,λb hb=>?_,w7⟩
    obtain ⟨o,e,d⟩:=T.obj _ _ st5 b hb
    exact (I7.pin (b,o) (List.mem_append_right _ (List.mem_append_right _ (pX hb e)))).2.1
   refine wpAny_bind (wpAny_mono (ht _ _ _ _ _ _ _ s6 σ6 H6 _ I6 q6) (λb s7 ⟨H7,I7,q7⟩=>?_) λ_ _ z=>z.elim)
   cases b with
   |false=>
    rw [if_neg Bool.false_ne_true] at q7
    exact wpAny_pure ⟨rfl,again I7 q7⟩
   |true=>
    rw [if_pos rfl] at q7
    refine wpAny_bind (wpAny_bind (wpAny_mono (he _ _ _ _ _ _ _ s7 σ6 H7 _ I7 q7) (λyv s8 ⟨y,H8,I8,r8,hl8,hz8,q8⟩=>?_) λ_ _ z=>z.elim))
    refine wpAny_bind (wpAny_mono (w5 (X:=cX X N' scope cl sE.heap.objs.size sE HE fp pins) _ s8 σ6 H8 (.ref l) [y] (.ref l) [yv] (λ_ H9=>H9=upd H8 l (.lst (ys++[y]))) I8 rfl (.cons r8 .nil) ⟨l,ys,y,rfl,rfl,hl8,hz8,rfl⟩)
     (λ_ s9 ⟨_,H9,I9,_,e9⟩=>?_) λ_ _ z=>z.elim)
    subst e9
    exact wpAny_pure (wpAny_pure ⟨rfl,again I9 q8⟩)
 exact codeAny_compStart_list (loop _ rfl) (T.self _ 0 _ _ _ st0 (loop _ rfl))
theorem Wi (sc:Scope)(N' caps:List Str)(k:Nat)(cap:List Nat)(hcalm:X.calm=true)(S:CSc sc scope caps)(hcap:Paired (λj x=>X.N[j]? = some x) cap caps)
  (hi:PI X tg iter wi) (hg:∀cl C sE HE fp pins,PG (cX X N' scope cl C sE HE fp pins) tg g) (ht:∀cl C sE HE fp pins,Ov (cX X N' scope cl C sE HE fp pins) ifs tt) (he:∀cl C sE HE fp pins,PE (cX X N' scope cl C sE HE fp pins) elt te)
  (hsc:X.env.scope=sc:=by rfl) (hN:N'.drop k=caps:=by rfl) (hk:k<=N'.length:=by decide) (hs:∀x,foldedSetIterable iter X.env x=pure x:=by intro _;rfl):
  PE X (.ListComp elt [⟨tg,iter,ifs,0⟩] scope pos) (Ly k cap wi g tt te):=by
 intro pins s σ H Q I h
 obtain ⟨cl,hcl,hc1,hc2⟩:=yj (scope:=scope) (env:=X.env) λy hy e=>I.ok.has y.1 (by
  have z:=S.free y hy e
  rw [← hsc] at z
  exact z)
 rw [eval_ListComp]
 refine wpAny_comprehension_free (use:=none) rfl hs hcl S.kind S.loc (Ht (RR:=λacc C=>compPost (model X.prog X.w) X.A X.xe none (EP X pins σ Q) acc C) hcalm S hsc hN hk hcap hi hg ht he I h hc1 hc2 ?_)
 intro l sE HE H' s' m IE I' hn hns q
 exact ⟨m,hns,λh' hs'=>⟨.ref l,H',Jl IE I' hn hs',rfl,q⟩⟩
theorem Av {i:Nat}{y:Str}{py spos:Pos}(sc:Scope)(N' caps:List Str)(k:Nat)(cap:List Nat)(hnd:X.N.Nodup)(hi':X.N[i]? = some y)(hy:Loc X.env.scope y)(hcalm:X.calm=true)(S:CSc sc scope caps)(hcap:Paired (λj x=>X.N[j]? = some x) cap caps)
  (hi:PI X tg iter wi) (hg:∀cl C sE HE fp pins,PG (cX X N' scope cl C sE HE fp pins) tg g) (ht:∀cl C sE HE fp pins,Ov (cX X N' scope cl C sE HE fp pins) ifs tt) (he:∀cl C sE HE fp pins,PE (cX X N' scope cl C sE HE fp pins) elt te)
  (hsw:swapsWith (.ListComp elt [⟨tg,iter,ifs,0⟩] scope pos) (some (.Name y py)) spos.line X.env=pure true:=by rfl)
  (hsc:X.env.scope=sc:=by rfl) (hN:N'.drop k=caps:=by rfl) (hk:k<=N'.length:=by decide) (hs:∀x,foldedSetIterable iter X.env x=pure x:=by intro _;rfl)
  (hf:X.fn y=true\/X.env.scope.names.lookup y=some .local:=by first | exact .inl rfl | exact .inr rfl | assumption):
  PS X (.Assign [.Name y py] (.ListComp elt [⟨tg,iter,ifs,0⟩] scope pos) spos) (Rh (Ly k cap wi g tt te) (Ad i)):=by
 intro pins s σ H D I h
 obtain ⟨cl,hcl,hc1,hc2⟩:=yj (scope:=scope) (env:=X.env) λy hy e=>I.ok.has y.1 (by
  have z:=S.free y hy e
  rw [← hsc] at z
  exact z)
 rw [exec_Assign_Name_used _ _ _ _ hsw]
 refine wpAny_bind (wpAny_standAt (wpAny_bind ?_))
 show wpAny _ X.A (do let _ ← comprehension (.ListComp elt [⟨tg,iter,ifs,0⟩] scope pos) scope X.env _ (newList []) false (eval iter X.env) (some (assign (.Name y py) X.env))) _ _ s
 refine wpAny_bind (wpAny_mono (wpAny_comprehension_free (use:=some (assign (.Name y py) X.env)) (Q:=λ_ s'=>SP X pins D .next s') rfl hs hcl S.kind S.loc
  (Ht (RR:=λacc C=>compPost (model X.prog X.w) X.A X.xe (some (assign (.Name y py) X.env)) (λ_ s'=>SP X pins D .next s') acc C) hcalm S hsc hN hk hcap hi hg ht he I h hc1 hc2 ?_)) (λ_ s' hq=>wpAny_pure (wpAny_pure hq)) λ_ _ e=>e)
 intro l sE HE H' s' m IE I' hn hns q
 show wpAny _ X.A (assign (.Name y py) X.env (.ref l)) _ _ _
 refine wpAny_assign_Name (CJ I' hnd hi' hy (v:=.ref l) rfl (λs2 I2 hb=>?_) hf)
 obtain ⟨a,hsb,ha⟩:=hb
 have hne:sE.heap.objs.size≠a:=λz=>by
  rcases ha with e | e
  ·exact absurd IE.lt (by rw [← e,← z];exact Nat.lt_irrefl _)
  ·obtain ⟨v,q⟩:=IE.cell y a e
   exact absurd q.lt (by rw [z];exact Nat.lt_irrefl _)
 exact ⟨m,hns.sameBut hsb hne,λh' hs'=>⟨_,H',Jl IE I2 hn hs',q⟩⟩
end
inductive TyK (K:W.Frag)(H:Hp):V->Value->Prop where
 |of {v:V} {t:Value}:xg K H v t->TyK K H v t
 |tup {a:Addr} {xs:List V}:SqT K H a xs->TyK K H (.ref a) (.type "tuple")
 |lst {a:Addr} {xs:List V}:SqL K H a xs->TyK K H (.ref a) (.type "list")
section
variable {X:Cx}
def abK (K:W.Frag):List V->Hp->VK->Prop:=λxs H Q=>∃x c t cv b,xs=[x,c]/\abA c=some cv/\TyK K H x t/\W.kitOne K t cv=some b/\Q (.bl b) H
theorem Py:iW X (.builtin "isinstance") (abK X.K):=by
 intro pins s σ H xs us Q I r h
 obtain ⟨x,c,t,cv,b,rfl,rc,ty,e,q⟩:=h
 obtain ⟨u,w',rfl,ru,rw'⟩:=vals2 r
 have z:=QF rc rw'
 subst z
 cases ty with
 |of ty=>exact OJ I ru ty e λtk=>⟨.bl b,H,I.tok _,rfl,q⟩
 | @tup a xs hs=>
  cases (show u=Value.ref a from ru)
  obtain ⟨its,_,⟨o,h1,h2,_⟩,_⟩:=I.tuple hs
  exact W.kia_one W.kitx_tuple I.kIn ⟨o,h1,h2⟩ e (λz=>nomatch z) λtk=>⟨.bl b,H,I.tok _,rfl,q⟩
 | @lst a xs hs=>
  cases (show u=Value.ref a from ru)
  obtain ⟨its,_,⟨o,n,h1,h2,_⟩,_⟩:=I.list hs
  exact W.kia_one W.kitx_list I.kIn ⟨o,h1,h2⟩ e (λz=>nomatch z) λtk=>⟨.bl b,H,I.tok _,rfl,q⟩
end
theorem Rd.mono {H H':Hp}{a:Addr}{u:HO}(h:Rd H a u)(g:aM H H'):Rd H' a u:=h.elim (λe=>.inl (g _ _ e)) λ⟨o,e⟩=>.inr ⟨o,g _ _ e⟩
theorem Jd {K:W.Frag}{H H':Hp}{a:Addr}{xs:List V}(h:SqL K H a xs)(g:aM H H'):SqL K H' a xs:=h.elim (λe=>.inl (Rd.mono e g)) .inr
def SameBut (l:Addr)(H H':Hp):Prop:=∀b u,b≠l->H b=some u->H' b=some u
theorem Yc {l:Addr}{H H':Hp}(g:aM H H'):SameBut l H H':=λb u _ e=>g b u e
theorem U6 {l:Addr}{H:Hp}{o:HO}:SameBut l H (upd H l o):=λb u n e=>by rw [cH n];exact e
theorem SameBut.trans {l:Addr}{H H1 H2:Hp}(a:SameBut l H H1)(b:SameBut l H1 H2):SameBut l H H2:=λc u n e=>b c u n (a c u n e)
theorem K9 {l:Addr}{H H':Hp}(g:SameBut l H H')(n:H l=none):aM H H':=λb u e=>g b u (λz=>by rw [z,n] at e;cases e) e
def CW (n:Nat)(l:Addr)(H1:Hp)(R:Nat->List V->Hp->Prop):Nat->Nat->List V->Hp->Prop:=λi m ys H=>m=n-i/\i<=n/\ys.length=i/\aM H1 H/\H l=some (.lst ys)/\R i ys H
def CN (n:Nat)(l:Addr)(H1:Hp)(R:Nat->List V->Hp->Prop)(i:Nat)(ys:List V):VK:=λy H5=>H5 l=some (.lst ys)/\ys.length<sizeLine/\∃m',m'<n-i/\CW n l H1 R (i+1) m' (ys++[y]) (upd H5 l (.lst (ys++[y])))
theorem CN.mk {n:Nat}{l:Addr}{H1 H H5:Hp}{R:Nat->List V->Hp->Prop}{i:Nat}{ys:List V}{y:V}(hn:n<=sizeLine)(hl1:H1 l=none)(hi:i<n)(hlen:ys.length=i)(s1:aM H1 H)(hl:H l=some (.lst ys))(g:aM H H5)
  (r:R (i+1) (ys++[y]) (upd H5 l (.lst (ys++[y])))):CN n l H1 R i ys y H5:=
 ⟨g _ _ hl,by omega,n-(i+1),by omega,rfl,hi,by rw [List.length_append,List.length_singleton,hlen],K9 ((Yc (λb u e=>g b u (s1 b u e))).trans U6) hl1,aW,r⟩
section
variable {k:Nat}{cap:List Nat}{g:TG}{te:TE}{σ:St}{H1:Hp}{Q:VK}{l:Addr}
end
section
variable {X:Cx}{tg:Expr}
end
section
variable {X:Cx}
def rJoin (K:W.Frag):V->List V->Hp->VK->Prop:=λx vs H Q=>∃z l zs,x=.str z/\vs=[.ref l]/\SqL K H l (zs.map V.str)/\JoinOk z zs=true/\Q (.str (Txt.join z zs)) H
theorem Iw:∀{zs:List Str} {us:List Value},Vals (zs.map V.str) us->∃l:List (Str×Tok),us=strValues l/\l.map (·.1)=zs
 |[],_,.nil=>⟨[],rfl,rfl⟩
 |z::zs,_,.cons r t=>by
  obtain ⟨tk,rfl⟩:=r
  obtain ⟨l,rfl,e⟩:=Iw t
  exact ⟨(z,tk)::l,rfl,by rw [List.map_cons,e]⟩
theorem X3 (K:W.Frag)(hK:X.K=K:=by rfl):MtM X "str.join" (rJoin K):=by
 subst hK
 intro pins s σ H x vs v us Q I rx rv h
 obtain ⟨z,l,zs,rfl,rfl,hL,ok,q⟩:=h
 obtain ⟨t,rfl⟩:=rx
 obtain ⟨u,rfl,ru⟩:=rv.one
 cases ru
 obtain ⟨its,r,hp,_⟩:=I.list hL
 obtain ⟨ls,rfl,e⟩:=Iw r
 exact SC.join hp.isList e ok λt' k=>⟨.str _,H,I.tok _,⟨t',rfl⟩,q⟩
end
end Hd
namespace F
open PySem PySem.Spec PyProof.Rows L2 Hd
inductive D where
 |non | bl (b:Bool) | int (i:Int) | str (x:Str) | exc (c:Str)
 |tup (xs:List D) | lst (xs:List D)
 |dct (ks:List Key) (vs:List D) | dcu (ks:List (List Kt)) (vs:List D)
  |dcf (ks:List (List Kt)) (vs:List D)
  |adr (a:Addr)
  |ins (c:Str) (ns:List Str) (vs:List D)
inductive Res (α:Type) where
 |ok (a:α) | exc (c:Str) | stuck
noncomputable def Res.bind {α β:Type}(r:Res α)(f:α->Res β):Res β:=match r with
 | .ok a=>f a
 | .exc c=>.exc c
 | .stuck=>.stuck
@[simp] theorem Res.mJ {α β:Type}(a:α)(f:α->Res β):(Res.ok a).bind f=f a:=rfl
@[simp] theorem Res.aaR {α β:Type}(c:Str)(f:α->Res β):(Res.exc c:Res α).bind f=.exc c:=rfl
@[simp] theorem Res.Zu {α β:Type}(f:α->Res β):(Res.stuck:Res α).bind f=.stuck:=rfl
noncomputable def ofO {α:Type}:Option α->Res α
 |some a=>.ok a
 |none=>.stuck
@[simp] theorem pB {α:Type}(a:α):ofO (some a)=.ok a:=rfl
@[simp] theorem aaM {α:Type}:ofO (none:Option α)=.stuck:=rfl
structure Gx where
 K:W.Frag
 mg:Zp
noncomputable abbrev gx (X:Cx):Gx:=⟨X.K,X.mg⟩
def acs (K:W.Frag)(a:Addr)(xs:List V):Prop:=
 ∃(o:Obj) (its:Array Value) (n:Nat),K.lookup a=some o/\o.cls=.type "list"/\o.dict=none/\o.data=.seq its n/\its.size<=sizeLine/\Vals xs its.toList
def LstAt (K:W.Frag)(O:Zaa)(H:Hp)(a:Addr)(xs:List V):Prop:=(¬O a/\Rd H a (.lst xs))\/acs K a xs
mutual
inductive DV (G:Gx)(O:Zaa)(H:Hp):V->D->Prop where
 |non:DV G O H .non .non
 |bl (b:Bool):DV G O H (.bl b) (.bl b)
 |int (i:Int):DV G O H (.int i) (.int i)
 |str (x:Str):DV G O H (.str x) (.str x)
 |adr (a:Addr):DV G O H (.ref a) (.adr a)
 |ins {a C dx:Addr} {c:Str} {kvs:List (Str×V)} {ns:List Str} {vs:List V} {ds:List D}:¬O a->G.mg c=some (.ref C)->H a=some (.ins C dx kvs)->kvs.map (·.1)=ns->kvs.map (·.2)=vs->DVs G O H vs ds->DV G O H (.ref a) (.ins c ns ds)
 |exc {a C:Addr} {c:Str}:G.mg c=some (.ref C)->H a=some (.ext (aa4 a (.ref C)))->DV G O H (.ref a) (.exc c)
 |tup {a:Addr} {xs:List V} {ds:List D}:SqU G.K H a xs->DVs G O H xs ds->DV G O H (.ref a) (.tup ds)
 |lst {a:Addr} {xs:List V} {ds:List D}:LstAt G.K O H a xs->DVs G O H xs ds->DV G O H (.ref a) (.lst ds)
 |dct {a:Addr} {kvs:List (Key×V)} {ks:List Key} {vs:List V} {ds:List D}:¬O a->H a=some (.dK kvs)->kvs.map (·.1)=ks->kvs.map (·.2)=vs->DVs G O H vs ds->DV G O H (.ref a) (.dct ks ds)
 |dcu {a:Addr} {kvs:List (List Kt×V)} {ks:List (List Kt)} {vs:List V} {ds:List D}:¬O a->H a=some (.dT (KTp G.K) kvs)->kvs.map (·.1)=ks->kvs.map (·.2)=vs->DVs G O H vs ds->DV G O H (.ref a) (.dcu ks ds)
 |dcf {a:Addr} {o:Obj} {kvs:List (List Kt×V)} {ks:List (List Kt)} {vs:List V} {ds:List D}:H a=some (.frz o (.dT (KTp G.K) kvs))->kvs.map (·.1)=ks->kvs.map (·.2)=vs->DVs G O H vs ds->DV G O H (.ref a) (.dcf ks ds)
inductive DVs (G:Gx)(O:Zaa)(H:Hp):List V->List D->Prop where
 |nil:DVs G O H [] []
 |cons {v:V} {vs:List V} {d:D} {ds:List D}:DV G O H v d->DVs G O H vs ds->DVs G O H (v::vs) (d::ds)
end
def OV (G:Gx)(O:Zaa)(H:Hp)(a:Addr):D->Prop
 | .lst ds=>∃xs,H a=some (.lst xs)/\DVs G O H xs ds
 | .dct ks ds=>∃kvs vs,H a=some (.dK kvs)/\kvs.map (·.1)=ks/\kvs.map (·.2)=vs/\DVs G O H vs ds
 | .dcu ks ds=>∃kvs vs,H a=some (.dT (KTp G.K) kvs)/\kvs.map (·.1)=ks/\kvs.map (·.2)=vs/\DVs G O H vs ds
 | .ins c ns ds=>∃C dx kvs vs,G.mg c=some (.ref C)/\H a=some (.ins C dx kvs)/\kvs.map (·.1)=ns/\kvs.map (·.2)=vs/\DVs G O H vs ds
 |_=>False
def DW (G:Gx)(O:Zaa)(H:Hp)(v:V)(d:D):Prop:=DV G O H v d\/∃a,v=.ref a/\O a/\OV G O H a d
inductive DWs (G:Gx)(O:Zaa)(H:Hp):List V->List D->Prop where
 |nil:DWs G O H [] []
 |cons {v:V} {vs:List V} {d:D} {ds:List D}:DW G O H v d->DWs G O H vs ds->DWs G O H (v::vs) (d::ds)
def fL (o:Option HO):Prop:=(∃xs,o=some (.lst xs))\/(∃k,o=some (.dK k))\/(∃k:(Addr->List V->Prop)×List (List Kt×V),o=some (.dT k.1 k.2))\/∃k:Addr×Addr×List (Str×V),o=some (.ins k.1 k.2.1 k.2.2)
def Kp (O:Zaa)(H H':Hp):Prop:=∀b o,H b=some o->¬O b->H' b=some o
theorem Kp.of {O:Zaa}{H H':Hp}(g:aM H H'):Kp O H H':=λb o e _=>g b o e
theorem qC {O:Zaa}{H:Hp}(m:∀b,O b->fL (H b)){a:Addr}{o:HO}(e:H a=some o)(n:¬fL (some o)):¬O a:=λz=>n (e ▸ m a z)
theorem Mg {xs:List V}:¬fL (some (.tup xs)):=by rintro (⟨_,e⟩ | ⟨_,e⟩ | ⟨_,e⟩ | ⟨_,e⟩)<;>cases e
theorem EY {o:Obj}{u:HO}:¬fL (some (.frz o u)):=by rintro (⟨_,e⟩ | ⟨_,e⟩ | ⟨_,e⟩ | ⟨_,e⟩)<;>cases e
theorem M6 {φ:Heap->Prop}:¬fL (some (.ext φ)):=by rintro (⟨_,e⟩ | ⟨_,e⟩ | ⟨_,e⟩ | ⟨_,e⟩)<;>cases e
theorem Kf {K:W.Frag}{O:Zaa}{H H':Hp}{a:Addr}{xs:List V}(m:∀b,O b->fL (H b))(g:Kp O H H')(h:SqT K H a xs):SqT K H' a xs:=by
 rcases h with (e | ⟨o,e⟩) | h
 ·exact .inl (.inl (g a _ e (qC m e Mg)))
 ·exact .inl (.inr ⟨o,g a _ e (qC m e EY)⟩)
 ·exact .inr h
theorem Qz {K:W.Frag}{O:Zaa}{H H':Hp}{a:Addr}{xs:List V}(m:∀b,O b->fL (H b))(g:Kp O H H')(h:SqU K H a xs):SqU K H' a xs:=by
 rcases h with e | h
 ·exact .inl (g a _ e (qC m e Mg))
 ·exact .inr h
theorem RL {K:W.Frag}{H H':Hp}{a:Addr}{xs:List V}(h:SqU K H a xs)(g:aM H H'):SqU K H' a xs:=h.imp (g _ _) id
theorem vH {K:W.Frag}{O:Zaa}{H H':Hp}{a:Addr}{xs:List V}(g:Kp O H H')(h:LstAt K O H a xs):LstAt K O H' a xs:=by
 rcases h with ⟨n,e | ⟨o,e⟩⟩ | h
 ·exact .inl ⟨n,.inl (g a _ e n)⟩
 ·exact .inl ⟨n,.inr ⟨o,g a _ e n⟩⟩
 ·exact .inr h
theorem LstAt.sq {K:W.Frag}{O:Zaa}{H:Hp}{a:Addr}{xs:List V}(h:LstAt K O H a xs):SqL K H a xs:=h.elim (λz=>.inl z.2) .inr
section
variable {G:Gx}{O O':Zaa}{H H':Hp}
mutual
theorem DV.kp (m:∀b,O b->fL (H b))(g:Kp O H H'):∀{v:V} {d:D},DV G O H v d->DV G O H' v d
 |_,_,.non=>.non
 |_,_,.bl b=>.bl b
 |_,_,.int i=>.int i
 |_,_,.str x=>.str x
 |_,_,.adr a=>.adr a
 |_,_,.exc h e=>.exc h (g _ _ e (qC m e M6))
 |_,_,.tup h hs=>.tup (Qz m g h) (DVs.kp m g hs)
 |_,_,.lst h hs=>.lst (vH g h) (DVs.kp m g hs)
 |_,_,.dct n e a b hs=>.dct n (g _ _ e n) a b (DVs.kp m g hs)
 |_,_,.dcu n e a b hs=>.dcu n (g _ _ e n) a b (DVs.kp m g hs)
 |_,_,.dcf e a b hs=>.dcf (g _ _ e (qC m e EY)) a b (DVs.kp m g hs)
 |_,_,.ins n c e a b hs=>.ins n c (g _ _ e n) a b (DVs.kp m g hs)
theorem DVs.kp (m:∀b,O b->fL (H b))(g:Kp O H H'):∀{vs:List V} {ds:List D},DVs G O H vs ds->DVs G O H' vs ds
 |_,_,.nil=>.nil
 |_,_,.cons h hs=>.cons (DV.kp m g h) (DVs.kp m g hs)
end
mutual
theorem DV.mono (g:aM H H'):∀{v:V} {d:D},DV G O H v d->DV G O H' v d
 |_,_,.non=>.non
 |_,_,.bl b=>.bl b
 |_,_,.int i=>.int i
 |_,_,.str x=>.str x
 |_,_,.adr a=>.adr a
 |_,_,.exc h e=>.exc h (g _ _ e)
 |_,_,.tup h hs=>.tup (RL h g) (DVs.mono g hs)
 |_,_,.lst h hs=>.lst (vH (.of g) h) (DVs.mono g hs)
 |_,_,.dct n e a b hs=>.dct n (g _ _ e) a b (DVs.mono g hs)
 |_,_,.dcu n e a b hs=>.dcu n (g _ _ e) a b (DVs.mono g hs)
 |_,_,.dcf e a b hs=>.dcf (g _ _ e) a b (DVs.mono g hs)
 |_,_,.ins n c e a b hs=>.ins n c (g _ _ e) a b (DVs.mono g hs)
theorem DVs.mono (g:aM H H'):∀{vs:List V} {ds:List D},DVs G O H vs ds->DVs G O H' vs ds
 |_,_,.nil=>.nil
 |_,_,.cons h hs=>.cons (DV.mono g h) (DVs.mono g hs)
end
mutual
theorem DV.bO (s:∀b,O' b->O b\/H b=none):∀{v:V} {d:D},DV G O H v d->DV G O' H v d
 |_,_,.non=>.non
 |_,_,.bl b=>.bl b
 |_,_,.int i=>.int i
 |_,_,.str x=>.str x
 |_,_,.adr a=>.adr a
 |_,_,.exc h e=>.exc h e
 |_,_,.tup h hs=>.tup h (DVs.bO s hs)
 |_,_,.lst h hs=>.lst (h.elim (λz=>.inl ⟨λo=>(s _ o).elim z.1 λn=>by rcases z.2 with e | ⟨_,e⟩<;>(rw [n] at e;cases e),z.2⟩) .inr) (DVs.bO s hs)
 |_,_,.dct n e a b hs=>.dct (λo=>(s _ o).elim n λz=>by rw [z] at e;cases e) e a b (DVs.bO s hs)
 |_,_,.dcu n e a b hs=>.dcu (λo=>(s _ o).elim n λz=>by rw [z] at e;cases e) e a b (DVs.bO s hs)
 |_,_,.dcf e a b hs=>.dcf e a b (DVs.bO s hs)
 |_,_,.ins n c e a b hs=>.ins (λo=>(s _ o).elim n λz=>by rw [z] at e;cases e) c e a b (DVs.bO s hs)
theorem DVs.bO (s:∀b,O' b->O b\/H b=none):∀{vs:List V} {ds:List D},DVs G O H vs ds->DVs G O' H vs ds
 |_,_,.nil=>.nil
 |_,_,.cons h hs=>.cons (DV.bO s h) (DVs.bO s hs)
end
def Ev (O:Zaa)(H:Hp)(O':Zaa)(H':Hp):Prop:=(∀b,O' b->O b\/H b=none)/\Kp O H H'
mutual
theorem DV.go (m:∀b,O b->fL (H b))(g:Ev O H O' H'):∀{v:V} {d:D},DV G O H v d->DV G O' H' v d
 |_,_,.non=>.non
 |_,_,.bl b=>.bl b
 |_,_,.int i=>.int i
 |_,_,.str x=>.str x
 |_,_,.adr a=>.adr a
 |_,_,.exc h e=>.exc h (g.2 _ _ e (qC m e M6))
 |_,_,.tup h hs=>.tup (Qz m g.2 h) (DVs.go m g hs)
 |_,_,.lst h hs=>.lst (h.elim (λz=>.inl ⟨λo=>(g.1 _ o).elim z.1 λn=>by rcases z.2 with e | ⟨_,e⟩<;>(rw [n] at e;cases e),(vH g.2 (.inl z):LstAt G.K O H' _ _).elim (λy=>y.2) λy=>z.2.elim (λe=>.inl (g.2 _ _ e z.1)) λ⟨o,e⟩=>.inr ⟨o,g.2 _ _ e z.1⟩⟩) .inr) (DVs.go m g hs)
 |_,_,.dct n e a b hs=>.dct (λo=>(g.1 _ o).elim n λz=>by rw [z] at e;cases e) (g.2 _ _ e n) a b (DVs.go m g hs)
 |_,_,.dcu n e a b hs=>.dcu (λo=>(g.1 _ o).elim n λz=>by rw [z] at e;cases e) (g.2 _ _ e n) a b (DVs.go m g hs)
 |_,_,.dcf e a b hs=>.dcf (g.2 _ _ e (qC m e EY)) a b (DVs.go m g hs)
 |_,_,.ins n c e a b hs=>.ins (λo=>(g.1 _ o).elim n λz=>by rw [z] at e;cases e) c (g.2 _ _ e n) a b (DVs.go m g hs)
theorem DVs.go (m:∀b,O b->fL (H b))(g:Ev O H O' H'):∀{vs:List V} {ds:List D},DVs G O H vs ds->DVs G O' H' vs ds
 |_,_,.nil=>.nil
 |_,_,.cons h hs=>.cons (DV.go m g h) (DVs.go m g hs)
end
theorem OV.bO {a:Addr}{d:D}(s:∀b,O' b->O b\/H b=none)(h:OV G O H a d):OV G O' H a d:=by
 cases d with
 |lst ds=>obtain ⟨xs,e,hs⟩:=h;exact ⟨xs,e,hs.bO s⟩
 |dct ks ds=>obtain ⟨k,v,e,a1,a2,hs⟩:=h;exact ⟨k,v,e,a1,a2,hs.bO s⟩
 |dcu ks ds=>obtain ⟨k,v,e,a1,a2,hs⟩:=h;exact ⟨k,v,e,a1,a2,hs.bO s⟩
 |ins c ns ds=>obtain ⟨C,dx,k,v,ec,e,a1,a2,hs⟩:=h;exact ⟨C,dx,k,v,ec,e,a1,a2,hs.bO s⟩
 |_=>exact h.elim
theorem OV.mono {a:Addr}{d:D}(g:aM H H')(h:OV G O H a d):OV G O H' a d:=by
 cases d with
 |lst ds=>obtain ⟨xs,e,hs⟩:=h;exact ⟨xs,g _ _ e,hs.mono g⟩
 |dct ks ds=>obtain ⟨k,v,e,a1,a2,hs⟩:=h;exact ⟨k,v,g _ _ e,a1,a2,hs.mono g⟩
 |dcu ks ds=>obtain ⟨k,v,e,a1,a2,hs⟩:=h;exact ⟨k,v,g _ _ e,a1,a2,hs.mono g⟩
 |ins c ns ds=>obtain ⟨C,dx,k,v,ec,e,a1,a2,hs⟩:=h;exact ⟨C,dx,k,v,ec,g _ _ e,a1,a2,hs.mono g⟩
 |_=>exact h.elim
theorem OV.kp {a:Addr}{d:D}(m:∀b,O b->fL (H b))(g:Kp O H H')(e':H' a=H a)(h:OV G O H a d):OV G O H' a d:=by
 cases d with
 |lst ds=>obtain ⟨xs,e,hs⟩:=h;exact ⟨xs,e'.trans e,hs.kp m g⟩
 |dct ks ds=>obtain ⟨k,v,e,a1,a2,hs⟩:=h;exact ⟨k,v,e'.trans e,a1,a2,hs.kp m g⟩
 |dcu ks ds=>obtain ⟨k,v,e,a1,a2,hs⟩:=h;exact ⟨k,v,e'.trans e,a1,a2,hs.kp m g⟩
 |ins c ns ds=>obtain ⟨C,dx,k,v,ec,e,a1,a2,hs⟩:=h;exact ⟨C,dx,k,v,ec,e'.trans e,a1,a2,hs.kp m g⟩
 |_=>exact h.elim
theorem OV.mut {a:Addr}{d:D}(h:OV G O H a d):fL (H a):=by
 cases d with
 |lst ds=>obtain ⟨xs,e,hs⟩:=h;exact .inl ⟨xs,e⟩
 |dct ks ds=>obtain ⟨k,v,e,_⟩:=h;exact .inr (.inl ⟨k,e⟩)
 |dcu ks ds=>obtain ⟨k,v,e,_⟩:=h;exact .inr (.inr (.inl ⟨(_,k),e⟩))
 |ins c ns ds=>obtain ⟨C,dx,k,v,_,e,_⟩:=h;exact .inr (.inr (.inr ⟨(C,dx,k),e⟩))
 |_=>exact h.elim
theorem OV.dv {a:Addr}{d:D}(n:¬O a)(h:OV G O H a d):DV G O H (.ref a) d:=by
 cases d with
 |lst ds=>obtain ⟨xs,e,hs⟩:=h;exact .lst (.inl ⟨n,.inl e⟩) hs
 |dct ks ds=>obtain ⟨k,v,e,a1,a2,hs⟩:=h;exact .dct n e a1 a2 hs
 |dcu ks ds=>obtain ⟨k,v,e,a1,a2,hs⟩:=h;exact .dcu n e a1 a2 hs
 |ins c ns ds=>obtain ⟨C,dx,k,v,ec,e,a1,a2,hs⟩:=h;exact .ins n ec e a1 a2 hs
 |_=>exact h.elim
theorem DW.mono {v:V}{d:D}(g:aM H H')(h:DW G O H v d):DW G O H' v d:=h.elim (λz=>.inl (z.mono g)) λ⟨a,e,o,z⟩=>.inr ⟨a,e,o,z.mono g⟩
theorem DWs.mono (g:aM H H'):∀{vs:List V} {ds:List D},DWs G O H vs ds->DWs G O H' vs ds
 |_,_,.nil=>.nil
 |_,_,.cons h hs=>.cons (h.mono g) (DWs.mono g hs)
theorem DW.any {v:V}{d:D}(h:DW G O H v d):DV G (λ_=>False) H v d:=by
 rcases h with h | ⟨a,e,_,h⟩
 ·exact h.bO λ_ z=>z.elim
 ·subst e
  exact (h.bO (O':=λ_=>False) λ_ z=>z.elim).dv id
theorem DWs.any:∀{vs:List V} {ds:List D},DWs G O H vs ds->DVs G (λ_=>False) H vs ds
 |_,_,.nil=>.nil
 |_,_,.cons h hs=>.cons h.any (DWs.any hs)
end
section
variable {G:Gx}{O:Zaa}{H:Hp}{v:V}
theorem Gq (h:DW G O H v .non):v=.non:=by
 rcases h with h | ⟨_,_,_,h⟩
 ·cases h;rfl
 ·exact h.elim
theorem Lh {b:Bool}(h:DW G O H v (.bl b)):v=.bl b:=by
 rcases h with h | ⟨_,_,_,h⟩
 ·cases h;rfl
 ·exact h.elim
theorem cI {i:Int}(h:DW G O H v (.int i)):v=.int i:=by
 rcases h with h | ⟨_,_,_,h⟩
 ·cases h;rfl
 ·exact h.elim
theorem jG {x:Str}(h:DW G O H v (.str x)):v=.str x:=by
 rcases h with h | ⟨_,_,_,h⟩
 ·cases h;rfl
 ·exact h.elim
theorem uD {ds:List D}(h:DW G O H v (.tup ds)):∃a xs,v=.ref a/\SqT G.K H a xs/\DVs G O H xs ds:=by
 rcases h with h | ⟨_,_,_,h⟩
 ·cases h with
  |tup h hs=>exact ⟨_,_,rfl,h.sq,hs⟩
 ·exact h.elim
theorem yU {ds:List D}(h:DW G O H v (.tup ds)):∃a xs,v=.ref a/\SqU G.K H a xs/\DVs G O H xs ds:=by
 rcases h with h | ⟨_,_,_,h⟩
 ·cases h with
  |tup h hs=>exact ⟨_,_,rfl,h,hs⟩
 ·exact h.elim
theorem jw {ds:List D}(h:DW G O H v (.lst ds)):∃a xs,v=.ref a/\SqL G.K H a xs/\DVs G O H xs ds:=by
 rcases h with h | ⟨a,e,_,h⟩
 ·cases h with
  |lst h hs=>exact ⟨_,_,rfl,h.sq,hs⟩
 ·obtain ⟨xs,e',hs⟩:=h
  exact ⟨a,xs,e,.inl (.inl e'),hs⟩
theorem zL {ks:List Key}{ds:List D}(h:DW G O H v (.dct ks ds)):∃a kvs vs,v=.ref a/\H a=some (.dK kvs)/\kvs.map (·.1)=ks/\kvs.map (·.2)=vs/\DVs G O H vs ds:=by
 rcases h with h | ⟨a,e,_,h⟩
 ·cases h with
  |dct n e a b hs=>exact ⟨_,_,_,rfl,e,a,b,hs⟩
 ·obtain ⟨k,w,e',a1,a2,hs⟩:=h
  exact ⟨a,k,w,e,e',a1,a2,hs⟩
theorem U9 {ks:List (List Kt)}{ds:List D}(h:DW G O H v (.dcu ks ds)):∃a kvs vs,v=.ref a/\H a=some (.dT (KTp G.K) kvs)/\kvs.map (·.1)=ks/\kvs.map (·.2)=vs/\DVs G O H vs ds:=by
 rcases h with h | ⟨a,e,_,h⟩
 ·cases h with
  |dcu n e a b hs=>exact ⟨_,_,_,rfl,e,a,b,hs⟩
 ·obtain ⟨k,w,e',a1,a2,hs⟩:=h
  exact ⟨a,k,w,e,e',a1,a2,hs⟩
theorem bM:∀{vs:List V} {ds:List D},DVs G O H vs ds->vs.length=ds.length
 |_,_,.nil=>rfl
 |_,_,.cons _ hs=>by rw [List.length_cons,List.length_cons,bM hs]
theorem jB:∀{vs us:List V} {ds es:List D},DVs G O H vs ds->DVs G O H us es->DVs G O H (vs++us) (ds++es)
 |_,_,_,_,.nil,h=>h
 |_,_,_,_,.cons a t,h=>.cons a (jB t h)
theorem qb:∀{vs:List V} {ds:List D} {i:Nat} {x:V},DVs G O H vs ds->vs[i]? = some x->∃d,ds[i]? = some d/\DV G O H x d
 |_,_,_,_,.nil,e=>by simp at e
 |_,_,0,_,.cons a _,e=>by simp at e;subst e;exact ⟨_,rfl,a⟩
 |_,_,i+1,x,.cons _ t,e=>by
  obtain ⟨d,h1,h2⟩:=qb (i:=i) (x:=x) t (by simpa using e)
  exact ⟨d,by simpa using h1,h2⟩
theorem ud:∀{vs:List V} {ds:List D} {i:Nat} {d:D},DVs G O H vs ds->ds[i]? = some d->∃x,vs[i]? = some x/\DV G O H x d
 |_,_,_,_,.nil,e=>by simp at e
 |_,_,0,_,.cons a _,e=>by simp at e;subst e;exact ⟨_,rfl,a⟩
 |_,_,i+1,d,.cons _ t,e=>by
  obtain ⟨x,h1,h2⟩:=ud (i:=i) (d:=d) t (by simpa using e)
  exact ⟨x,by simpa using h1,h2⟩
theorem By:∀{vs:List V} {ds:List D} (n:Nat),DVs G O H vs ds->DVs G O H (vs.take n) (ds.take n)
 |_,_,0,_=>by simp only [List.take_zero];exact .nil
 |_,_,_+1,.nil=>.nil
 |_,_,n+1,.cons a t=>.cons a (By n t)
theorem Ii:∀{vs:List V} {ds:List D} (n:Nat),DVs G O H vs ds->DVs G O H (vs.drop n) (ds.drop n)
 |_,_,0,h=>h
 |_,_,_+1,.nil=>.nil
 |_,_,n+1,.cons _ t=>Ii n t
theorem LQ:∀{vs:List V} {ds:List D},DVs G O H vs ds->DVs G O H vs.reverse ds.reverse
 |_,_,.nil=>.nil
 |_,_,.cons a t=>by rw [List.reverse_cons,List.reverse_cons];exact jB (LQ t) (.cons a .nil)
noncomputable def flat:D->Bool
 | .non | .bl _ | .int _ | .str _=>true
 |_=>false
theorem DV.flat {O':Zaa}{H':Hp}{d:D}(f:flat d=true)(h:DV G O H v d):DV G O' H' v d:=by
 cases h with
 |non=>exact .non
 |bl b=>exact .bl b
 |int i=>exact .int i
 |str x=>exact .str x
 |_=>cases f
end
inductive Sl where
  |un | fz (d:D) | ow (d:D) | io (d:D) | bw (d:D)
  |hd (w:Bool) (a:Addr) (d:D)
abbrev Me:=List Sl
abbrev Os:=Nat->Option Addr
def Ow (O0:Zaa)(ow:Os):Zaa:=λb=>O0 b\/∃i,ow i=some b
def Op (O:Zaa)(p:Addr):Zaa:=λb=>O b\/b=p
noncomputable def owS (ow:Os)(i:Nat)(x:Option Addr):Os:=λj=>if j=i then x else ow j
theorem gn {ow:Os}{i:Nat}{x:Option Addr}:owS ow i x i=x:=by unfold owS;rw [if_pos rfl]
theorem fJ {ow:Os}{i j:Nat}{x:Option Addr}(h:j≠i):owS ow i x j=ow j:=by unfold owS;rw [if_neg h]
def HW (G:Gx)(O M0:Zaa)(H0:Hp)(oi:Option Addr)(v:Option (Option V))(H:Hp):Sl->Prop
 | .un=>oi=none
 | .fz d=>oi=none/\∃x,v=some (some x)/\DV G O H x d
 | .ow d=>∃a,oi=some a/\H0 a=none/\v=some (some (.ref a))/\OV G O H a d
 | .io d=>∃a,oi=some a/\M0 a/\v=some (some (.ref a))/\OV G O H a d
 | .bw d=>oi=none/\∃x,v=some (some x)/\DW G O H x d
 | .hd w a d=>oi=some a/\(w=true->H0 a=none)/\(w=false->M0 a)/\OV G O H a d
structure Rel (G:Gx)(O0 M0:Zaa)(H0:Hp)(ow:Os)(σ:L2.St)(H:Hp)(m:Me):Prop where
 len:σ.length=m.length
 keep:Kp M0 H0 H
 m0:∀b,M0 b->H b≠none
 mutk:∀b,Ow O0 ow b->fL (H b)
 no0:∀i a,ow i=some a->¬O0 a
 inj:∀i j a,ow i=some a->ow j=some a->i=j
 out:∀i,m.length<=i->ow i=none
 slot:∀i s,m[i]? = some s->HW G (Ow O0 ow) M0 H0 (ow i) (σ[i]?) H s
structure cZ (G:Gx)(O0 M0:Zaa)(H0:Hp)(ow:Os)(σ:L2.St)(H:Hp)(m:Me):Prop extends Rel G O0 M0 H0 ow σ H m where
 nb:∀(j:Nat) (d:D),m[j]?≠some (Sl.bw d)
structure Go (O0:Zaa)(ow:Os)(H:Hp)(ow':Os)(H':Hp):Prop where
 keep:Kp (Ow O0 ow) H H'
 new:∀i a,ow' i=some a->Ow O0 ow a\/H a=none
 dom:∀b,H b≠none->H' b≠none
theorem Go.refl {O0:Zaa}{ow:Os}{H H':Hp}(g:aM H H'):Go O0 ow H ow H':=
 ⟨.of g,λi a e=>.inl (.inr ⟨i,e⟩),λb n z=>by
  cases q:H b with
  |none=>exact n q
  |some o=>rw [g b o q] at z;cases z⟩
theorem Go.trans {O0:Zaa}{ow ow1 ow2:Os}{H H1 H2:Hp}(a:Go O0 ow H ow1 H1)(b:Go O0 ow1 H1 ow2 H2):Go O0 ow H ow2 H2 where
 keep:=λc o e n=>b.keep c o (a.keep c o e n) λz=>by
  rcases z with z | ⟨i,z⟩
  ·exact n (.inl z)
  ·rcases a.new i c z with y | y
   ·exact n y
   ·rw [y] at e;cases e
 new:=λi c e=>by
  rcases b.new i c e with (z | ⟨j,z⟩) | z
  ·exact .inl (.inl z)
  ·exact a.new j c z
  ·refine .inr ?_
   cases q:H c with
   |none=>rfl
   |some o=>exact absurd z (a.dom c (by rw [q];simp))
 dom:=λc n=>b.dom c (a.dom c n)
theorem Go.ev {O0:Zaa}{ow ow':Os}{H H':Hp}(g:Go O0 ow H ow' H'):Ev (Ow O0 ow) H (Ow O0 ow') H':=
 ⟨λb z=>z.elim (λz=>.inl (.inl z)) λ⟨i,e⟩=>g.new i b e,g.keep⟩
theorem vU (O:Zaa):Ow O (λ_=>none)=O:=by
 funext b
 exact propext ⟨λz=>z.elim id λ⟨_,e⟩=>(by cases e),Or.inl⟩
section
variable {G:Gx}{O0 M0:Zaa}{H0 H H':Hp}{ow:Os}{σ:L2.St}{m:Me}
theorem HW.mono {O:Zaa}{oi:Option Addr}{v:Option (Option V)}{s:Sl}(g:aM H H')(h:HW G O M0 H0 oi v H s):HW G O M0 H0 oi v H' s:=by
 cases s with
 |un=>exact h
 |fz d=>obtain ⟨a,x,e,q⟩:=h;exact ⟨a,x,e,q.mono g⟩
 |ow d=>obtain ⟨a,x,e,f,q⟩:=h;exact ⟨a,x,e,f,q.mono g⟩
 |io d=>obtain ⟨a,x,e,f,q⟩:=h;exact ⟨a,x,e,f,q.mono g⟩
 |bw d=>obtain ⟨a,x,e,q⟩:=h;exact ⟨a,x,e,q.mono g⟩
 |hd w a d=>obtain ⟨x,e,f,q⟩:=h;exact ⟨x,e,f,q.mono g⟩
theorem wI {b:Addr}(g:aM H H')(h:fL (H b)):fL (H' b):=by
 rcases h with ⟨x,e⟩ | ⟨x,e⟩ | ⟨x,e⟩ | ⟨x,e⟩
 ·exact .inl ⟨x,g _ _ e⟩
 ·exact .inr (.inl ⟨x,g _ _ e⟩)
 ·exact .inr (.inr (.inl ⟨x,g _ _ e⟩))
 ·exact .inr (.inr (.inr ⟨x,g _ _ e⟩))
theorem Rel.mono (R:Rel G O0 M0 H0 ow σ H m)(g:aM H H'):Rel G O0 M0 H0 ow σ H' m:=
 ⟨R.len,λb o e n=>g b o (R.keep b o e n),λb z q=>R.m0 b z (aM.free g q),λb z=>wI g (R.mutk b z),R.no0,R.inj,R.out,λi s e=>(R.slot i s e).mono g⟩
theorem HW.bO {O O':Zaa}{oi:Option Addr}{v:Option (Option V)}{s:Sl}(sub:∀b,O' b->O b\/H b=none)(h:HW G O M0 H0 oi v H s)(hb:∀d,s=.bw d->∀b,O b->O' b\/¬O' b):HW G O' M0 H0 oi v H s:=by
 cases s with
 |un=>exact h
 |fz d=>obtain ⟨a,x,e,q⟩:=h;exact ⟨a,x,e,q.bO sub⟩
 |ow d=>obtain ⟨a,x,e,f,q⟩:=h;exact ⟨a,x,e,f,q.bO sub⟩
 |io d=>obtain ⟨a,x,e,f,q⟩:=h;exact ⟨a,x,e,f,q.bO sub⟩
 |bw d=>
  obtain ⟨a,x,e,q⟩:=h
  refine ⟨a,x,e,?_⟩
  rcases q with q | ⟨b,e1,o,q⟩
  ·exact .inl (q.bO sub)
  ·rcases hb d rfl b o with w | w
   ·exact .inr ⟨b,e1,w,q.bO sub⟩
   ·subst e1
    exact .inl ((q.bO sub).dv w)
 |hd w a d=>obtain ⟨x,e,f,q⟩:=h;exact ⟨x,e,f,q.bO sub⟩
theorem Ow.sub {i:Nat}{b:Addr}(z:Ow O0 (owS ow i none) b):Ow O0 ow b:=by
 rcases z with z | ⟨j,e⟩
 ·exact .inl z
 ·by_cases q:j=i
  ·subst q;rw [gn] at e;cases e
  ·rw [fJ q] at e;exact .inr ⟨j,e⟩
theorem mU {α:Type}{l:List α}{i:Nat}{x:α}(e:l[i]? = some x):i<l.length:=(List.getElem?_eq_some_iff.mp e).1
theorem Rel.set {i:Nat}{v:V}{d:D}(R:Rel G O0 M0 H0 ow σ H m)(h:DV G (Ow O0 ow) H v d):
  Rel G O0 M0 H0 (owS ow i none) (σ.set i (some v)) H (m.set i (.fz d)):=by
 have sub:∀b,Ow O0 (owS ow i none) b->Ow O0 ow b\/H b=none:=λb z=>.inl z.sub
 refine ⟨by simp [R.len],R.keep,R.m0,λb z=>R.mutk b z.sub,λj a e=>?_,λj k a e1 e2=>?_,λj hj=>?_,λj s e=>?_⟩
 ·by_cases q:j=i
  ·subst q;rw [gn] at e;cases e
  ·rw [fJ q] at e;exact R.no0 j a e
 ·by_cases q:j=i
  ·subst q;rw [gn] at e1;cases e1
  ·by_cases q':k=i
   ·subst q';rw [gn] at e2;cases e2
   ·rw [fJ q] at e1;rw [fJ q'] at e2;exact R.inj j k a e1 e2
 ·by_cases q:j=i
  ·subst q;exact gn
  ·rw [fJ q];exact R.out j (by simpa using hj)
 ·by_cases q:j=i
  ·subst q
   have hj:j<m.length:=by simpa using mU e
   rw [List.getElem?_set_self hj] at e
   cases e
   rw [gn,List.getElem?_set_self (by rw [R.len];exact hj)]
   exact ⟨rfl,v,rfl,h.bO sub⟩
  ·rw [List.getElem?_set_ne (Ne.symm q)] at e
   rw [fJ q,List.getElem?_set_ne (Ne.symm q)]
   exact (R.slot j s e).bO sub λ_ _ b _=>Classical.em _
theorem Go.set {i:Nat}:Go O0 ow H (owS ow i none) H:=
 ⟨λ_ _ e _=>e,λj a e=>.inl (by
  by_cases q:j=i
  ·subst q;rw [gn] at e;cases e
  ·rw [fJ q] at e;exact .inr ⟨j,e⟩),λ_ n=>n⟩
theorem Rel.CG (R:Rel G O0 M0 H0 ow σ H m){p:Addr}(n:H p=none):H0 p=none:=by
 cases q:H0 p with
 |none=>rfl
 |some o=>
  by_cases z:M0 p
  ·exact absurd n (R.m0 p z)
  ·rw [R.keep p o q z] at n;cases n
theorem Rel.Br (R:Rel G O0 M0 H0 ow σ H m){p:Addr}(n:H p=none):¬Ow O0 ow p:=λz=>by
 have:=R.mutk p z
 rw [n] at this
 rcases this with ⟨_,e⟩ | ⟨_,e⟩ | ⟨_,e⟩ | ⟨_,e⟩<;>cases e
theorem Ow.new {i:Nat}{b p:Addr}(z:Ow O0 (owS ow i (some p)) b):Ow O0 ow b\/b=p:=by
 rcases z with z | ⟨j,e⟩
 ·exact .inl (.inl z)
 ·by_cases q:j=i
  ·subst q;rw [gn] at e;cases e;exact .inr rfl
  ·rw [fJ q] at e;exact .inl (.inr ⟨j,e⟩)
theorem Rel.own {i:Nat}{p:Addr}{d:D}(R:Rel G O0 M0 H0 ow σ H m)(g:aM H H')(n:H p=none)(n0:H0 p=none)(h:OV G (Op (Ow O0 ow) p) H' p d)(hi:i<m.length):
  Rel G O0 M0 H0 (owS ow i (some p)) (σ.set i (some (.ref p))) H' (m.set i (.ow d)):=by
 have np:=R.Br n
 have sub:∀b,Ow O0 (owS ow i (some p)) b->Ow O0 ow b\/H b=none:=λb z=>z.new.elim .inl λe=>.inr (by rw [e];exact n)
 refine ⟨by simp [R.len],(R.mono g).keep,(R.mono g).m0,λb z=>?_,λj a e=>?_,λj k a e1 e2=>?_,λj hj=>?_,λj s e=>?_⟩
 ·rcases z.new with z | z
  ·exact (R.mono g).mutk b z
  ·rw [z];exact h.mut
 ·by_cases q:j=i
  ·subst q;rw [gn] at e;cases e;exact λz=>np (.inl z)
  ·rw [fJ q] at e;exact R.no0 j a e
 ·by_cases q:j=i
  ·subst q
   rw [gn] at e1
   cases e1
   by_cases q':k=j
   ·exact q'.symm
   ·rw [fJ q'] at e2;exact absurd (.inr ⟨k,e2⟩) np
  ·rw [fJ q] at e1
   by_cases q':k=i
   ·subst q';rw [gn] at e2;cases e2;exact absurd (.inr ⟨j,e1⟩) np
   ·rw [fJ q'] at e2;exact R.inj j k a e1 e2
 ·have hj':m.length<=j:=by simpa using hj
  rw [fJ (by omega)]
  exact R.out j hj'
 ·by_cases q:j=i
  ·subst q
   rw [List.getElem?_set_self hi] at e
   cases e
   rw [gn,List.getElem?_set_self (by rw [R.len];exact hi)]
   exact ⟨p,rfl,n0,rfl,h.bO λb z=>.inl (z.new.elim .inl .inr)⟩
  ·rw [List.getElem?_set_ne (Ne.symm q)] at e
   rw [fJ q,List.getElem?_set_ne (Ne.symm q)]
   exact ((R.slot j s e).bO sub λ_ _ b _=>Classical.em _).mono g
theorem Go.own {i:Nat}{p:Addr}(g:aM H H')(n:H p=none):Go O0 ow H (owS ow i (some p)) H':=
 ⟨.of g,λj a e=>by
  by_cases q:j=i
  ·subst q;rw [gn] at e;cases e;exact .inr n
  ·rw [fJ q] at e;exact .inl (.inr ⟨j,e⟩),(Go.refl (O0:=O0) (ow:=ow) g).dom⟩
theorem Bu {i:Nat}{s:Sl}(nb:∀(j:Nat) (d:D),m[j]?≠some (Sl.bw d))(hs:∀d,s≠.bw d):∀(j:Nat) (d:D),(m.set i s)[j]?≠some (Sl.bw d):=λj d e=>by
 by_cases q:j=i
 ·subst q
  have hj:j<m.length:=by simpa using mU e
  rw [List.getElem?_set_self hj] at e
  exact hs d (Option.some.inj e)
 ·rw [List.getElem?_set_ne (Ne.symm q)] at e
  exact nb j d e
theorem cZ.mono (R:cZ G O0 M0 H0 ow σ H m)(g:aM H H'):cZ G O0 M0 H0 ow σ H' m:=⟨R.toRel.mono g,R.nb⟩
theorem cZ.set {i:Nat}{v:V}{d:D}(R:cZ G O0 M0 H0 ow σ H m)(h:DV G (Ow O0 ow) H v d):cZ G O0 M0 H0 (owS ow i none) (σ.set i (some v)) H (m.set i (.fz d)):=
 ⟨R.toRel.set h,Bu R.nb λ_ z=>by cases z⟩
theorem cZ.own {i:Nat}{p:Addr}{d:D}(R:cZ G O0 M0 H0 ow σ H m)(g:aM H H')(n:H p=none)(n0:H0 p=none)(h:OV G (Op (Ow O0 ow) p) H' p d)(hi:i<m.length):
  cZ G O0 M0 H0 (owS ow i (some p)) (σ.set i (some (.ref p))) H' (m.set i (.ow d)):=⟨R.toRel.own g n n0 h hi,Bu R.nb λ_ z=>by cases z⟩
noncomputable def Sl.let:Sl->Sl
 | .ow d=>.fz d
 |s=>s
noncomputable def Me.let (m:Me):Me:=m.map Sl.let
theorem cZ.let (R:cZ G O0 M0 H0 ow σ H m):∃ow',cZ G O0 M0 H0 ow' σ H m.let/\Go O0 ow H ow' H:=by
 let ow':Os:=λi=>match m[i]? with
  |some (.io _)=>ow i
  |some (.hd _ _ _)=>ow i
  |_=>none
 have le:∀i a,ow' i=some a->ow i=some a/\∀d,m[i]?≠some (.ow d):=λi a e=>by
  simp only [ow'] at e
  split at e
  ·rename_i d q;exact ⟨e,λd z=>by rw [q] at z;cases z⟩
  ·rename_i w b d q;exact ⟨e,λd z=>by rw [q] at z;cases z⟩
  ·cases e
 have sub:∀b,Ow O0 ow' b->Ow O0 ow b\/H b=none:=λb z=>.inl (z.elim .inl λ⟨i,e⟩=>.inr ⟨i,(le i b e).1⟩)
 refine ⟨ow',⟨⟨by simp [Me.let,R.len],R.keep,R.m0,λb z=>?_,λi a e=>R.no0 i a (le i a e).1,λi j a e1 e2=>R.inj i j a (le i a e1).1 (le j a e2).1,λi hi=>?_,λi s e=>?_⟩,λj d e=>?_⟩,λb o e n=>e,λi a e=>.inl (.inr ⟨i,(le i a e).1⟩),λ_ n=>n⟩
 ·exact R.mutk b (z.elim .inl λ⟨i,e⟩=>.inr ⟨i,(le i b e).1⟩)
 ·have hi':m.length<=i:=by simpa [Me.let] using hi
  simp only [ow']
  rw [List.getElem?_eq_none hi']
 ·unfold Me.let at e
  rw [List.getElem?_map] at e
  cases q:m[i]? with
  |none=>rw [q] at e;cases e
  |some s0=>
   rw [q] at e
   cases e
   have z:=R.slot i s0 q
   cases s0 with
   |un=>exact (show ow' i=none by simp only [ow',q])
   |fz d=>obtain ⟨_,x,e,h⟩:=z;exact ⟨(show ow' i=none by simp only [ow',q]),x,e,h.bO sub⟩
   |ow d=>
    obtain ⟨a,e1,e2,e3,h⟩:=z
    refine ⟨(show ow' i=none by simp only [ow',q]),.ref a,e3,(h.bO sub).dv λw=>?_⟩
    rcases w with w | ⟨j,w⟩
    ·exact R.no0 i a e1 w
    ·obtain ⟨w1,w2⟩:=le j a w
     have:=R.inj i j a e1 w1
     subst this
     exact w2 d q
   |io d=>
    obtain ⟨a,e1,e2,e3,h⟩:=z
    exact ⟨a,(show ow' i=some a by simp only [ow',q];exact e1),e2,e3,h.bO sub⟩
   |bw d=>exact (R.nb i d q).elim
   |hd w a d=>
    obtain ⟨e1,e2,e3,h⟩:=z
    exact ⟨(show ow' i=some a by simp only [ow',q];exact e1),e2,e3,h.bO sub⟩
 ·unfold Me.let at e
  rw [List.getElem?_map] at e
  cases q:m[j]? with
  |none=>rw [q] at e;cases e
  |some s0=>
   rw [q] at e
   cases s0 with
   |bw d'=>exact R.nb j d' q
   |_=>cases e
end
def Pu (G:Gx)(E:XK){α:Type}(r:Res α)(H:Hp)(k:α->Prop):Prop:=match r with
 | .ok a=>k a
 | .exc c=>∀C H',G.mg c=some (.ref C)->aM H H'->E (.ref C) none H'
 | .stuck=>False
theorem Pu.bind {G:Gx}{E:XK}{α β:Type}{r:Res α}{f:α->Res β}{H:Hp}{k:β->Prop}(h:Pu G E (r.bind f) H k):Pu G E r H λa=>Pu G E (f a) H k:=by
 cases r with
 |ok a=>exact h
 |exc c=>exact h
 |stuck=>exact h
theorem Pu.imp {G:Gx}{E:XK}{α:Type}{r:Res α}{H H':Hp}{k k':α->Prop}(h:Pu G E r H k)(g:aM H H')(hk:∀a,k a->k' a):Pu G E r H' k':=by
 cases r with
 |ok a=>exact hk a h
 |exc c=>exact λC H1 e g1=>h C H1 e (g.trans g1)
 |stuck=>exact h
theorem Pu.ofO {G:Gx}{E:XK}{α:Type}{r:Option α}{H:Hp}{k:α->Prop}(h:Pu G E (ofO r) H k):∃a,r=some a/\k a:=by
 cases r with
 |some a=>exact ⟨a,rfl,h⟩
 |none=>exact h.elim
def tE (G:Gx)(E:XK)(f:Me->Res D):TE:=λσ H Q=>∃O0 M0 H0 ow m,Rel G O0 M0 H0 ow σ H m/\Pu G E (f m) H λd=>∀v H',aM H H'->DV G (Ow O0 ow) H' v d->Q v H'
def tB (G:Gx)(E:XK)(f:Me->Res D):TE:=λσ H Q=>∃O0 M0 H0 ow m,Rel G O0 M0 H0 ow σ H m/\Pu G E (f m) H λd=>∀v H',aM H H'->DW G (Ow O0 ow) H' v d->Q v H'
def tN (G:Gx)(E:XK)(f:Me->Res D):TE:=λσ H Q=>∃O0 M0 H0 ow m,Rel G O0 M0 H0 ow σ H m/\Pu G E (f m) H λd=>∀p H',aM H H'->H p=none->OV G (Op (Ow O0 ow) p) H' p d->Q (.ref p) H'
def tT (G:Gx)(E:XK)(f:Me->Res Bool):TT:=λσ H Q=>∃O0 M0 H0 ow m,Rel G O0 M0 H0 ow σ H m/\Pu G E (f m) H λb=>∀H',aM H H'->Q b H'
def tAE (G:Gx)(E:XK)(f:Me->Res (List D)):TA:=λσ H Q=>∃O0 M0 H0 ow m,Rel G O0 M0 H0 ow σ H m/\Pu G E (f m) H λds=>∀vs H',aM H H'->DVs G (Ow O0 ow) H' vs ds->Q vs H'
def tAB (G:Gx)(E:XK)(f:Me->Res (List D)):TA:=λσ H Q=>∃O0 M0 H0 ow m,Rel G O0 M0 H0 ow σ H m/\Pu G E (f m) H λds=>∀vs H',aM H H'->DWs G (Ow O0 ow) H' vs ds->Q vs H'
abbrev FE (X:Cx)(E:XK)(e:Expr)(f:Me->Res D):Prop:=PE X e (tE (gx X) E f)
abbrev FB (X:Cx)(E:XK)(e:Expr)(f:Me->Res D):Prop:=PE X e (tB (gx X) E f)
abbrev FN (X:Cx)(E:XK)(e:Expr)(f:Me->Res D):Prop:=PE X e (tN (gx X) E f)
abbrev FT (X:Cx)(E:XK)(e:Expr)(f:Me->Res Bool):Prop:=PT X e (tT (gx X) E f)
abbrev FW (X:Cx)(E:XK)(e:Expr)(f:Me->Res Bool):Prop:=PW X e (tT (gx X) E f)
abbrev FAE (X:Cx)(E:XK)(es:List Expr)(f:Me->Res (List D)):Prop:=PA X es (tAE (gx X) E f)
abbrev FAB (X:Cx)(E:XK)(es:List Expr)(f:Me->Res (List D)):Prop:=PA X es (tAB (gx X) E f)
theorem FZ {X:Cx}{e:Expr}{T T':TT}(h:PT X e T)(k:∀σ H Q,T' σ H Q->T σ H Q):PT X e T':=λpins s σ H Q I q=>h pins s σ H Q I (k σ H Q q)
theorem Nu {X:Cx}{e:Expr}{T T':TT}(h:PW X e T)(k:∀σ H Q,T' σ H Q->T σ H Q):PW X e T':=λwh pins s σ H Q I q=>h wh pins s σ H Q I (k σ H Q q)
theorem kO {X:Cx}{es:List Expr}{T T':TA}(h:PA X es T)(k:∀σ H Q,T' σ H Q->T σ H Q):PA X es T':=λpos pins s σ H Q I q=>h pos pins s σ H Q I (k σ H Q q)
section
variable {X:Cx}{E:XK}{e a b c:Expr}{es:List Expr}{f fa fb fc:Me->Res D}{fs:Me->Res (List D)}{ft fu:Me->Res Bool}{pos:Pos}
theorem ao (h:FE X E e f):FB X E e f:=bI h λ_ _ _ hE=>xq5 hE λO0 M0 H0 ow m R q=>⟨O0,M0,H0,ow,m,R,q.imp (aM.refl _) λ_ k v H' g d=>k v H' g (.inl d)⟩
theorem ie (h:FN X E e f):FE X E e f:=bI h λ_ _ _ hE=>xq5 hE λO0 M0 H0 ow m R q=>⟨O0,M0,H0,ow,m,R,q.imp (aM.refl _) λ_ k p H' g n o=>
 k _ H' g ((o.bO λb z=>.inl (.inl z)).dv (R.Br n))⟩
noncomputable def aG (i:Nat):Me->Res D:=λm=>match m[i]? with
 |some (.fz d)=>.ok d
 |_=>.stuck
noncomputable def ak (i:Nat):Me->Res D:=λm=>match m[i]? with
 |some (.fz d)=>.ok d
 |some (.ow d)=>.ok d
 |some (.io d)=>.ok d
 |some (.bw d)=>.ok d
 |_=>.stuck
theorem aF (i:Nat){x:Str}(hN:X.N[i]? = some x:=by rfl)(hv:Vis X.env.scope x:=by first | exact Or.inl rfl | exact Or.inr (Or.inl rfl) | exact Or.inr (Or.inr rfl))(hd:(x == ("__debug__" : Str))=false:=by decide)
  (hcd:(x == ("__classdict__" : Str))=false:=by decide):FE X E (.Name x pos) (aG i):=bI (jx hN hv hd hcd) λσ H Q hE=>xq5 hE λO0 M0 H0 ow m R q=>by
 unfold aG at q
 cases e:m[i]? with
 |none=>rw [e] at q;exact q.elim
 |some s=>
  rw [e] at q
  cases s with
  |fz d=>
   obtain ⟨_,x,h1,h2⟩:=R.slot i _ e
   exact ⟨x,h1,q x H (aM.refl _) h2⟩
  |_=>exact q.elim
theorem aq (i:Nat){x:Str}(hN:X.N[i]? = some x:=by rfl)(hv:Vis X.env.scope x:=by first | exact Or.inl rfl | exact Or.inr (Or.inl rfl) | exact Or.inr (Or.inr rfl))(hd:(x == ("__debug__" : Str))=false:=by decide)
  (hcd:(x == ("__classdict__" : Str))=false:=by decide):FB X E (.Name x pos) (ak i):=bI (jx hN hv hd hcd) λσ H Q hE=>xq5 hE λO0 M0 H0 ow m R q=>by
 unfold ak at q
 cases e:m[i]? with
 |none=>rw [e] at q;exact q.elim
 |some s=>
  rw [e] at q
  cases s with
  |fz d=>
   obtain ⟨_,x,h1,h2⟩:=R.slot i _ e
   exact ⟨x,h1,q x H (aM.refl _) (.inl h2)⟩
  |bw d=>
   obtain ⟨_,x,h1,h2⟩:=R.slot i _ e
   exact ⟨x,h1,q x H (aM.refl _) h2⟩
  |ow d=>
   obtain ⟨a,h1,h2,h3,h4⟩:=R.slot i _ e
   exact ⟨_,h3,q _ H (aM.refl _) (.inr ⟨a,rfl,.inr ⟨i,h1⟩,h4⟩)⟩
  |io d=>
   obtain ⟨a,h1,h2,h3,h4⟩:=R.slot i _ e
   exact ⟨_,h3,q _ H (aM.refl _) (.inr ⟨a,rfl,.inr ⟨i,h1⟩,h4⟩)⟩
  |un=>exact q.elim
  |hd _ _ _=>exact q.elim
noncomputable def fC (d:D):Me->Res D:=λ_=>.ok d
theorem XX {d:D}{v:V}(h:PE X e (tC v))(hd:∀O H,DV (gx X) O H v d):FE X E e (fC d):=bI h λσ H Q hE=>xq5 hE λO0 M0 H0 ow m R q=>q v H (aM.refl _) (hd _ _)
theorem az {i j pos}:FE X E (.Constant (.int i) j pos) (fC (.int i)):=XX aay λ_ _=>.int i
theorem zU {b j pos}:FE X E (.Constant (.bool b) j pos) (fC (.bl b)):=XX aaH λ_ _=>.bl b
theorem bT {x j pos}:FE X E (.Constant (.str x) j pos) (fC (.str x)):=XX ZX λ_ _=>.str x
theorem WW {x:Str}{v:V}{u:Value}{d:D}(hg:Gl X x)(hm:X.mg x=some u)(r:RelV v u)(hd:∀O H,DV (gx X) O H v d)(hdb:(x == ("__debug__" : Str))=false:=by decide):FE X E (.Name x pos) (fC d):=XX (Vh hg hm r hdb) hd
def rG (G:Gx)(g:D->D->Option D):R2:=λx y H Q=>∃O d e r,(∀b,O b->fL (H b))/\DW G O H x d/\DW G O H y e/\g d e=some r/\∀v H',aM H H'->DV G O H' v r->Q v H'
def rGB (G:Gx)(g:D->D->Option Bool):R2:=λx y H Q=>∃O d e r,(∀b,O b->fL (H b))/\DW G O H x d/\DW G O H y e/\g d e=some r/\Q (.bl r) H
def rG1 (G:Gx)(g:D->Option D):V->Hp->VK->Prop:=λx H Q=>∃O d r,(∀b,O b->fL (H b))/\DW G O H x d/\g d=some r/\∀v H',aM H H'->DV G O H' v r->Q v H'
def rGC (G:Gx)(g:List D->Option D):List V->Hp->VK->Prop:=λxs H Q=>∃O ds r,(∀b,O b->fL (H b))/\DWs G O H xs ds/\g ds=some r/\∀v H',aM H H'->DV G O H' v r->Q v H'
def Vc (G:Gx)(g:List D->Option D):List V->Hp->VK->Prop:=λxs H Q=>∃O ds r,(∀b,O b->fL (H b))/\DWs G O H xs ds/\g ds=some r/\∀p H',aM H H'->H p=none->OV G (Op O p) H' p r->Q (.ref p) H'
def rGM (G:Gx)(g:D->List D->Option D):V->List V->Hp->VK->Prop:=λx xs H Q=>∃O d ds r,(∀b,O b->fL (H b))/\DW G O H x d/\DWs G O H xs ds/\g d ds=some r/\∀v H',aM H H'->DV G O H' v r->Q v H'
noncomputable def aA (g:D->D->Option D)(fa fb:Me->Res D):Me->Res D:=λm=>(fa m).bind λx=>(fb m).bind λy=>ofO (g x y)
noncomputable def mK (g:D->D->Option Bool)(fa fb:Me->Res D):Me->Res D:=λm=>(fa m).bind λx=>(fb m).bind λy=>ofO ((g x y).map D.bl)
noncomputable def aR (g:D->D->Option Bool)(fa fb:Me->Res D):Me->Res Bool:=λm=>(fa m).bind λx=>(fb m).bind λy=>ofO (g x y)
noncomputable def fUn (g:D->Option D)(fa:Me->Res D):Me->Res D:=λm=>(fa m).bind λx=>ofO (g x)
theorem two {G:Gx}{σ:L2.St}{H:Hp}{Q:VK}{r:R2}{O0 M0:Zaa}{H0:Hp}{ow:Os}{m:Me}{β:Type}{g:D->D->Res β}{K:β->Hp->Prop}(R:Rel G O0 M0 H0 ow σ H m)(h:Pu G E ((fa m).bind λx=>(fb m).bind λy=>g x y) H λz=>K z H)
  (hm:∀z H',K z H->aM H H'->K z H')
  (k:∀x y d e H',aM H H'->DW G (Ow O0 ow) H' x d->DW G (Ow O0 ow) H' y e->Pu G E (g d e) H' (λz=>K z H')->Rel G O0 M0 H0 ow σ H' m->r x y H' Q):tOp r (tB G E fa) (tB G E fb) σ H Q:=by
 refine ⟨O0,M0,H0,ow,m,R,h.bind.imp (aM.refl _) λd q x H1 g1 hx=>⟨O0,M0,H0,ow,m,R.mono g1,q.bind.imp g1 λe q2 y H2 g2 hy=>?_⟩⟩
 exact k x y d e H2 (g1.trans g2) (hx.mono g2) hy (q2.imp (g1.trans g2) λz kz=>hm z _ kz (g1.trans g2)) (R.mono (g1.trans g2))
theorem aH {g:D->D->Option D}{op:Operator}(ho:OpR X (binaryOp op) (rG (gx X) g))(ha:FB X E a fa)(hb:FB X E b fb):FE X E (.BinOp a op b pos) (aA g fa fb):=
 bI (abn ho ha hb) λσ H Q hE=>xq5 hE λO0 M0 H0 ow m R q=>two R (K:=λz H=>∀v H',aM H H'->DV (gx X) (Ow O0 ow) H' v z->Q v H') q (λ_ _ k g v H' g' d=>k v H' (g.trans g') d) λx y d e H' g hx hy q' R'=>by
  obtain ⟨r,hr,k⟩:=q'.ofO
  exact ⟨_,d,e,r,R'.mutk,hx,hy,hr,k⟩
theorem aaO {g:D->D->Option D}(ho:IxR X (rG (gx X) g))(ha:FB X E a fa)(hb:FB X E b fb)(hs:Fo b):FE X E (.Subscript a b pos) (aA g fa fb):=
 bI (abW ho ha hb hs) λσ H Q hE=>xq5 hE λO0 M0 H0 ow m R q=>two R (K:=λz H=>∀v H',aM H H'->DV (gx X) (Ow O0 ow) H' v z->Q v H') q (λ_ _ k g v H' g' d=>k v H' (g.trans g') d) λx y d e H' g hx hy q' R'=>by
  obtain ⟨r,hr,k⟩:=q'.ofO
  exact ⟨_,d,e,r,R'.mutk,hx,hy,hr,k⟩
theorem omap {α β:Type}{o:Option α}{f:α->β}{r:β}(h:o.map f=some r):∃a,o=some a/\f a=r:=by
 cases o with
 |none=>cases h
 |some a=>exact ⟨a,rfl,Option.some.inj h⟩
theorem qm {g:D->D->Option Bool}{op:CmpOp}(ho:OpR X (compareOp op) (rGB (gx X) g))(ha:FB X E a fa)(hb:FB X E b fb)(hm:behindInMarks op b=false):FE X E (.Compare a [op] [b] pos) (mK g fa fb):=
 bI (Ww ho ha hb hm) λσ H Q hE=>xq5 hE λO0 M0 H0 ow m R q=>two R (K:=λz H=>∀v H',aM H H'->DV (gx X) (Ow O0 ow) H' v z->Q v H') q (λ_ _ k g v H' g' d=>k v H' (g.trans g') d) λx y d e H' g hx hy q' R'=>by
  obtain ⟨r,hr,k⟩:=q'.ofO
  obtain ⟨c,hc,rfl⟩:=omap hr
  exact ⟨_,d,e,c,R'.mutk,hx,hy,hc,k _ _ (aM.refl _) (.bl c)⟩
theorem cA {g:D->D->Option Bool}{op:CmpOp}(ho:OpR X (compareOp op) (rGB (gx X) g))(ha:FB X E a fa)(hb:FB X E b fb)(hm:behindInMarks op b=false):FT X E (.Compare a [op] [b] pos) (aR g fa fb):=
 FZ (W6 ho ha hb hm) λσ H Q hE=>xq5 hE λO0 M0 H0 ow m R q=>two R (K:=λz H=>∀H',aM H H'->Q z H') q (λ_ _ k g H' g'=>k H' (g.trans g')) λx y d e H' g hx hy q' R'=>by
  obtain ⟨c,hc,k⟩:=q'.ofO
  exact ⟨_,d,e,c,R'.mutk,hx,hy,hc,c,rfl,k _ (aM.refl _)⟩
theorem Hn {g:D->Option D}{op:UnaryOp}(ho:UnR X (unaryOp op) (rG1 (gx X) g))(ha:FB X E a fa):FE X E (.UnaryOp op a pos) (fUn g fa):=
 bI (aa7 ho ha) λσ H Q hE=>xq5 hE λO0 M0 H0 ow m R q=>⟨O0,M0,H0,ow,m,R,q.bind.imp (aM.refl _) λd q x H1 g1 hx=>by
  obtain ⟨r,hr,k⟩:=q.ofO
  exact ⟨_,d,r,(R.mono g1).mutk,hx,hr,λv H' g d=>k v H' (g1.trans g) d⟩⟩
noncomputable def fTv (fa:Me->Res D):Me->Res Bool:=λm=>(fa m).bind λx=>match x with
 | .bl b=>.ok b
 |_=>.stuck
theorem qY (h:FE X E e f)(he:∀whole,isTrue e X.env whole=(do let v ← whole;standAt e.pos;holding [v] (truthy v)):=by intro _;rfl):FT X E e (fTv f):=
 FZ (Z2 h he) λσ H Q hE=>xq5 hE λO0 M0 H0 ow m R q=>⟨O0,M0,H0,ow,m,R,q.bind.imp (aM.refl _) λd q v H' g hv=>by
  cases d with
  |bl b=>cases hv;exact ⟨b,rfl,q H' g⟩
  |_=>exact q.elim⟩
noncomputable def qK (ft:Me->Res Bool):Me->Res Bool:=λm=>(ft m).bind λc=>.ok (!c)
noncomputable def qJ (ft fu:Me->Res Bool):Me->Res Bool:=λm=>(ft m).bind λc=>if c then fu m else .ok false
noncomputable def rM (ft fu:Me->Res Bool):Me->Res Bool:=λm=>(ft m).bind λc=>if c then .ok true else fu m
theorem uH (h:FT X E a ft):FT X E (.UnaryOp .Not a pos) (qK ft):=FZ (aaz h) λσ H Q hE=>xq5 hE λO0 M0 H0 ow m R q=>⟨O0,M0,H0,ow,m,R,q.bind.imp (aM.refl _) λb q H' g=>q H' g⟩
theorem Oj (h:FT X E a ft):FW X E (.BoolOp .And [a] pos) ft:=Vt h
theorem Af (h:FT X E a ft):FW X E (.BoolOp .Or [a] pos) ft:=aaj h
theorem Ri (ha:FT X E a ft)(hb:FW X E (.BoolOp .And (b::es) pos) fu):FW X E (.BoolOp .And (a::b::es) pos) (qJ ft fu):=
 Nu (Za ha hb) λσ H Q hE=>xq5 hE λO0 M0 H0 ow m R q=>⟨O0,M0,H0,ow,m,R,q.bind.imp (aM.refl _) λb q H' g=>by
  cases b with
  |true=>rw [if_pos rfl] at q ⊢;exact ⟨O0,M0,H0,ow,m,R.mono g,q.imp g λ_ k H1 g1=>k H1 (g.trans g1)⟩
  |false=>rw [if_neg Bool.false_ne_true] at q ⊢;exact q H' g⟩
theorem Di (ha:FT X E a ft)(hb:FW X E (.BoolOp .Or (b::es) pos) fu):FW X E (.BoolOp .Or (a::b::es) pos) (rM ft fu):=
 Nu (abr ha hb) λσ H Q hE=>xq5 hE λO0 M0 H0 ow m R q=>⟨O0,M0,H0,ow,m,R,q.bind.imp (aM.refl _) λb q H' g=>by
  cases b with
  |false=>rw [if_neg Bool.false_ne_true] at q ⊢;exact ⟨O0,M0,H0,ow,m,R.mono g,q.imp g λ_ k H1 g1=>k H1 (g.trans g1)⟩
  |true=>rw [if_pos rfl] at q ⊢;exact q H' g⟩
theorem Ke (h:FW X E e ft):FT X E e ft:=L2.PW.pt h
noncomputable def Vx (fa:Me->Res D):Me->Res D:=λm=>(fTv fa m).bind λc=>.ok (.bl !c)
noncomputable def Hm (fa fb:Me->Res D):Me->Res D:=λm=>(fTv fa m).bind λc=>if c then fb m else .ok (.bl false)
theorem T6 {G:Gx}{O:Zaa}{m:Me}{H:Hp}{k:Bool->Prop}(h:Pu G E (fTv fa m) H k):Pu G E (fa m) H λd=>∃b,d=.bl b/\k b:=by
 refine h.bind.imp (aM.refl _) λd q=>?_
 cases d with
 |bl b=>exact ⟨b,rfl,q⟩
 |_=>exact q.elim
theorem Ep {op}(h:FE X E a fa):FE X E (.BoolOp op [a] pos) fa:=Yz h
theorem Fj (ha:FE X E a fa)(hb:FE X E (.BoolOp .And (b::es) pos) fb):FE X E (.BoolOp .And (a::b::es) pos) (Hm fa fb):=
 bI (ZV ha hb) λσ H Q hE=>xq5 hE λO0 M0 H0 ow m R q=>⟨O0,M0,H0,ow,m,R,(T6 (O:=O0) q.bind).imp (aM.refl _) λd ⟨b,e,q⟩ v H' g hv=>by
  subst e
  cases hv
  refine ⟨b,rfl,?_⟩
  cases b with
  |true=>rw [if_pos rfl] at q ⊢;exact ⟨O0,M0,H0,ow,m,R.mono g,q.imp g λ_ k v H1 g1=>k v H1 (g.trans g1)⟩
  |false=>rw [if_neg Bool.false_ne_true] at q ⊢;exact q _ H' g (.bl false)⟩
theorem Uk (ha:FE X E a fa):FE X E (.UnaryOp .Not a pos) (Vx fa):=
 bI (ZW ha) λσ H Q hE=>xq5 hE λO0 M0 H0 ow m R q=>⟨O0,M0,H0,ow,m,R,(T6 (O:=O0) q.bind).imp (aM.refl _) λd ⟨b,e,q⟩ v H' g hv=>by
  subst e
  cases hv
  exact ⟨b,rfl,q _ H' g (.bl _)⟩⟩
noncomputable def aB:Me->Res (List D):=λ_=>.ok []
noncomputable def aa (fa:Me->Res D)(fs:Me->Res (List D)):Me->Res (List D):=λm=>(fa m).bind λx=>(fs m).bind λxs=>.ok (x::xs)
theorem aC:FAE X E [] aB:=kO p6 λσ H Q hE=>xq5 hE λO0 M0 H0 ow m R q=>q [] H (aM.refl _) .nil
theorem aV:FAB X E [] aB:=kO p6 λσ H Q hE=>xq5 hE λO0 M0 H0 ow m R q=>q [] H (aM.refl _) .nil
theorem aj (ha:FE X E e fa)(hr:FAE X E es fs)(hs:starEach (e::es) X.env=(false,eval e X.env)::starEach es X.env:=by rfl):FAE X E (e::es) (aa fa fs):=
 kO (jd ha hr hs) λσ H Q hE=>xq5 hE λO0 M0 H0 ow m R q=>⟨O0,M0,H0,ow,m,R,q.bind.imp (aM.refl _) λd q v H1 g1 hv=>⟨O0,M0,H0,ow,m,R.mono g1,q.bind.imp g1 λds q vs H2 g2 hvs=>q _ H2 (g1.trans g2) (.cons (hv.mono g2) hvs)⟩⟩
theorem aQ (ha:FB X E e fa)(hr:FAB X E es fs)(hs:starEach (e::es) X.env=(false,eval e X.env)::starEach es X.env:=by rfl):FAB X E (e::es) (aa fa fs):=
 kO (jd ha hr hs) λσ H Q hE=>xq5 hE λO0 M0 H0 ow m R q=>⟨O0,M0,H0,ow,m,R,q.bind.imp (aM.refl _) λd q v H1 g1 hv=>⟨O0,M0,H0,ow,m,R.mono g1,q.bind.imp g1 λds q vs H2 g2 hvs=>q _ H2 (g1.trans g2) (.cons (hv.mono g2) hvs)⟩⟩
noncomputable def bA (fs:Me->Res (List D)):Me->Res D:=λm=>(fs m).bind λds=>if ds.length<=sizeLine then .ok (.tup ds) else .stuck
noncomputable def d8 (fs:Me->Res (List D)):Me->Res D:=λm=>(fs m).bind λds=>if ds.length<=sizeLine then .ok (.lst ds) else .stuck
theorem De {G:Gx}{α:Type}{c:Prop}[Decidable c]{r:α}{H:Hp}{k:α->Prop}(h:Pu G E (if c then .ok r else .stuck) H k):c/\k r:=by
 by_cases z:c
 ·rw [if_pos z] at h;exact ⟨z,h⟩
 ·rw [if_neg z] at h;exact h.elim
theorem bB {x1}(h:FAE X E es fs):FE X E (.Tuple es x1 pos) (bA fs):=bI (MJ h) λσ H Q hE=>xq5 hE λO0 M0 H0 ow m R q=>⟨O0,M0,H0,ow,m,R,q.bind.imp (aM.refl _) λds q vs H1 g1 hv=>by
 obtain ⟨hz,k⟩:=De q
 exact ⟨by rw [bM hv];exact hz,λp H' g e=>k _ H' (g1.trans g) (.tup (SqU.of e) (hv.mono g))⟩⟩
theorem fP (h:FAE X E es fs):FN X E (.List es pos) (d8 fs):=bI (Rm (Yr h)) λσ H Q hE=>xq5 hE λO0 M0 H0 ow m R q=>⟨λvs H1=>aM H H1/\∃ds,DVs (gx X) (Ow O0 ow) H1 vs ds/\ds.length<=sizeLine/\∀p H',aM H H'->H p=none->OV (gx X) (Op (Ow O0 ow) p) H' p (.lst ds)->Q (.ref p) H',⟨O0,M0,H0,ow,m,R,q.bind.imp (aM.refl _) λds q vs H1 g1 hv=>⟨g1,ds,hv,De q⟩⟩,λvs H1 ⟨g1,ds,hv,hz,k⟩=>
 ⟨by rw [bM hv];exact hz,λp hp=>k p _ (g1.trans (bz hp _)) (g1.free hp) ⟨vs,aW,(hv.bO λb z=>z.elim .inl λe=>.inr (by rw [e];exact hp)).mono (bz hp _)⟩⟩⟩
noncomputable def aU (g:List D->Option D)(fs:Me->Res (List D)):Me->Res D:=λm=>(fs m).bind λds=>ofO (g ds)
theorem Mf {g:List D->Option D}{σ:L2.St}{H:Hp}{Q:VK}(h:tE (gx X) E (aU g fs) σ H Q):tCB (rGC (gx X) g) (tAB (gx X) E fs) σ H Q:=by
 obtain ⟨O0,M0,H0,ow,m,R,q⟩:=h
 refine ⟨O0,M0,H0,ow,m,R,q.bind.imp (aM.refl _) λds q vs H1 g1 hv=>?_⟩
 obtain ⟨r,hr,k⟩:=q.ofO
 exact ⟨_,ds,r,(R.mono g1).mutk,hv,hr,λv H' g d=>k v H' (g1.trans g) d⟩
theorem Td {g:List D->Option D}{σ:L2.St}{H:Hp}{Q:VK}(h:tN (gx X) E (aU g fs) σ H Q):tCB (Vc (gx X) g) (tAB (gx X) E fs) σ H Q:=by
 obtain ⟨O0,M0,H0,ow,m,R,q⟩:=h
 refine ⟨O0,M0,H0,ow,m,R,q.bind.imp (aM.refl _) λds q vs H1 g1 hv=>?_⟩
 obtain ⟨r,hr,k⟩:=q.ofO
 exact ⟨_,ds,r,(R.mono g1).mutk,hv,hr,λp H' g n d=>k p H' (g1.trans g) (g1.free n) d⟩
section
variable {x:Str}{p:Pos}{id T:String}{g:List D->Option D}
theorem cu (hc:iW X (.builtin id) (rGC (gx X) g))(hg:Gl X x)(hm:X.mg x=none)(hv:bootBuiltins x=some (.builtin id))(ha:FAB X E (e::es) fs)(hn:x≠"__name__":=by decide)(hdb:(x == ("__debug__" : Str))=false:=by decide)
  (he:starEach (e::es) X.env=(false,eval e X.env)::starEach es X.env:=by rfl) (hpl:(backTo pos (starEach es X.env)).any (·.1)=false:=by rfl):FE X E (.Call (.Name x p) (e::es) [] pos) (aU g fs):=
 bI (Hv hc hg hm hv ha hn hdb he hpl) λ_ _ _ h=>Mf h
theorem ir (hc:iW X (.type T) (rGC (gx X) g))(hg:Gl X x)(hm:X.mg x=none)(hv:bootBuiltins x=some (.type T))(ha:FAB X E (e::es) fs)(hn:x≠"__name__":=by decide)(hdb:(x == ("__debug__" : Str))=false:=by decide)
  (he:starEach (e::es) X.env=(false,eval e X.env)::starEach es X.env:=by rfl) (hpl:(backTo pos (starEach es X.env)).any (·.1)=false:=by rfl):FE X E (.Call (.Name x p) (e::es) [] pos) (aU g fs):=
 bI (wG hc hg hm hv ha hn hdb he hpl) λ_ _ _ h=>Mf h
theorem mQ (hc:iW X (.type T) (Vc (gx X) g))(hg:Gl X x)(hm:X.mg x=none)(hv:bootBuiltins x=some (.type T))(ha:FAB X E (e::es) fs)(hn:x≠"__name__":=by decide)(hdb:(x == ("__debug__" : Str))=false:=by decide)
  (he:starEach (e::es) X.env=(false,eval e X.env)::starEach es X.env:=by rfl) (hpl:(backTo pos (starEach es X.env)).any (·.1)=false:=by rfl):FN X E (.Call (.Name x p) (e::es) [] pos) (aU g fs):=
 bI (wG hc hg hm hv ha hn hdb he hpl) λ_ _ _ h=>Td h
end
noncomputable def tyD:String->D->Bool
 | "str",.str _=>true
 | "list",.lst _=>true
 | "dict",.dct _ _=>true
 | "dict",.dcu _ _=>true
 |_,_=>false
theorem abz {G:Gx}{O:Zaa}{H:Hp}{v:V}{d:D}{T:String}(h:DW G O H v d)(t:tyD T d=true):tyV G.K T v H:=by
 unfold tyD at t
 split at t
 ·cases jG h;rfl
 ·obtain ⟨a,xs,rfl,hx,_⟩:=jw h;exact .inl ⟨rfl,xs,hx⟩
 ·obtain ⟨a,kvs,vs,rfl,hx,_⟩:=zL h;exact .inr (.inr (.inl ⟨rfl,.inl ⟨kvs,hx⟩⟩))
 ·obtain ⟨a,kvs,vs,rfl,hx,_⟩:=U9 h;exact .inr (.inr (.inl ⟨rfl,.inr ⟨_,kvs,.inl hx⟩⟩))
 ·cases t
noncomputable def Nf (T:String)(g:D->List D->Option D)(fo:Me->Res D)(fs:Me->Res (List D)):Me->Res D:=λm=>(fo m).bind λd=>if tyD T d=true then (fs m).bind λds=>ofO (g d ds) else .stuck
theorem wL {G:Gx}{α:Type}{c:Prop}[Decidable c]{r:Res α}{H:Hp}{k:α->Prop}(h:Pu G E (if c then r else .stuck) H k):c/\Pu G E r H k:=by
 by_cases z:c
 ·rw [if_pos z] at h;exact ⟨z,h⟩
 ·rw [if_neg z] at h;exact h.elim
section
variable {o:Expr}{name:Str}{apos cpos:Pos}{T id:String}{g:D->List D->Option D}
theorem abq (pa:PlainAttrs T)(slot:Slot T name id)(hty:typeOf (.builtin id)=pure (.type "method_descriptor"))(hm:MtR X id (rGM (gx X) g))(ho:FB X E o fa)(ha:FAB X E (e::es) fs)
  (hbase:attributeBase o name X.env (eval o X.env)=eval o X.env:=by rfl)
  (hfew:((backTo cpos (starEach (e::es) X.env)).all (λx=>!x.1) && (backToKw cpos (keywordEach [] X.env)).all (λx=>x.1.isSome)
   && decide ((e::es).length+([]:List Keyword).length+(if ([]:List Keyword).isEmpty then 0 else 1)<30))=true:=by rfl)
  (hline:(apos.endLine == cpos.line)=true:=by rfl) (hs:starEach (e::es) X.env=(false,eval e X.env)::starEach es X.env:=by rfl) (hplain:(backTo cpos (starEach es X.env)).any (·.1)=false:=by rfl):
  FE X E (.Call (.Attribute o name apos) (e::es) [] cpos) (Nf T g fa fs):=
 bI (Li pa slot hty hm ho ha hbase hfew hline hs hplain) λσ H Q hE=>xq5 hE λO0 M0 H0 ow m R q=>⟨O0,M0,H0,ow,m,R,q.bind.imp (aM.refl _) λd q v H1 g1 hv=>by
  obtain ⟨t,q⟩:=wL q
  refine ⟨abz hv t,O0,M0,H0,ow,m,R.mono g1,q.bind.imp g1 λds q vs H2 g2 hvs=>?_⟩
  obtain ⟨r,hr,k⟩:=q.ofO
  exact ⟨_,d,ds,r,(R.mono (g1.trans g2)).mutk,hv.mono g2,hvs,hr,λv H' g d=>k v H' ((g1.trans g2).trans g) d⟩⟩
end
end
inductive Fl where
 |nx | bk | ct | rt (fr:Bool) (d:D)
abbrev Zba:=D->Me->Option Me
abbrev Zaf:=Me->Res Bool
abbrev Zae:=Me->Res D
abbrev Zad:=Me->Res (List D)
abbrev Zac:=List D->Res (Bool×D)
abbrev Zab:=Me->Res (Fl×Me)
mutual
noncomputable def mj:D->Bool
 | .non | .bl _ | .int _ | .str _=>true
 | .tup ds=>jC ds
 |_=>false
noncomputable def jC:List D->Bool
 |[]=>true
 |d::ds=>mj d && jC ds
end
section
variable {G:Gx}{O O':Zaa}{H:Hp}
mutual
theorem DV.mj:∀{v:V} {d:D},DV G O H v d->mj d=true->DV G O' H v d
 |_,_,.non,_=>.non
 |_,_,.bl b,_=>.bl b
 |_,_,.int i,_=>.int i
 |_,_,.str x,_=>.str x
 |_,_,.tup h hs,e=>.tup h (DVs.mj hs e)
 |_,_,.adr _,e=>by cases e
 |_,_,.exc _ _,e=>by cases e
 |_,_,.lst _ _,e=>by cases e
 |_,_,.dct _ _ _ _ _,e=>by cases e
 |_,_,.dcu _ _ _ _ _,e=>by cases e
 |_,_,.dcf _ _ _ _,e=>by cases e
 |_,_,.ins _ _ _ _ _ _,e=>by cases e
theorem DVs.mj:∀{vs:List V} {ds:List D},DVs G O H vs ds->jC ds=true->DVs G O' H vs ds
 |_,_,.nil,_=>.nil
 |_,_,.cons h hs,e=>by
  have e:=Bool.and_eq_true_iff.mp e
  exact .cons (DV.mj h e.1) (DVs.mj hs e.2)
end
end
inductive vX (G:Gx)(H0 H':Hp):List Addr->List V->List D->Prop where
 |nil:vX G H0 H' [] [] []
 |flat {v:V} {d:D} {vs:List V} {ds:List D} {qs:List Addr}:DV G (λ_=>False) H' v d->mj d=true->vX G H0 H' qs vs ds->vX G H0 H' qs (v::vs) (d::ds)
 |new {q:Addr} {xs:List V} {es:List D} {vs:List V} {ds:List D} {qs:List Addr}:H0 q=none->H' q=some (.lst xs)->DVs G (λ_=>False) H' xs es->jC es=true->q∉qs->vX G H0 H' qs vs ds->vX G H0 H' (q::qs) (.ref q::vs) (.lst es::ds)
def Fr (G:Gx)(O:Zaa)(H0:Hp)(v:V)(H':Hp)(d:D):Prop:=(∃p,v=.ref p/\H0 p=none/\OV G (Op O p) H' p d)\/∃p xs ds qs,d=.tup ds/\v=.ref p/\SqU G.K H' p xs/\vX G H0 H' qs xs ds
def Ss (G:Gx)(E:XK)(O0 M0:Zaa)(H0:Hp)(ow:Os)(H:Hp)(W:Ends)(r:Res (Fl×Me)):Prop:=match r with
 | .ok (.nx,m')=>∀ow' σ' H',cZ G O0 M0 H0 ow' σ' H' m'->Go O0 ow H ow' H'->W.nx σ' H'
 | .ok (.bk,m')=>∀ow' σ' H',cZ G O0 M0 H0 ow' σ' H' m'->Go O0 ow H ow' H'->W.bk σ' H'
 | .ok (.ct,m')=>∀ow' σ' H',cZ G O0 M0 H0 ow' σ' H' m'->Go O0 ow H ow' H'->W.ct σ' H'
 | .ok (.rt fr d,m')=>∀v ow' σ' H',cZ G O0 M0 H0 ow' σ' H' m'->Go O0 ow H ow' H'->DV G (Ow O0 ow') H' v d->(fr=true->Fr G (Ow O0 ow') H0 v H' d)->W.rt v H'
 | .exc c=>∀C H',G.mg c=some (.ref C)->Kp M0 H0 H'->E (.ref C) none H'
 | .stuck=>False
def tS (G:Gx)(E:XK)(g:Zab):TS:=λW σ H=>∃O0 M0 H0 ow m,cZ G O0 M0 H0 ow σ H m/\Ss G E O0 M0 H0 ow H W (g m)
abbrev FS (X:Cx)(E:XK)(st:Stmt)(g:Zab):Prop:=PS X st (tS (gx X) E g)
abbrev FSs (X:Cx)(E:XK)(st:List Stmt)(g:Zab):Prop:=PSs X st (tS (gx X) E g)
theorem cL {X:Cx}{st:Stmt}{T T':TS}(h:PS X st T)(k:∀W σ H,T' W σ H->T W σ H):PS X st T':=λpins s σ H W I q=>h pins s σ H W I (k W σ H q)
theorem rC {X:Cx}{st:List Stmt}{T T':TS}(h:PSs X st T)(k:∀W σ H,T' W σ H->T W σ H):PSs X st T':=λpins s σ H W I q=>h pins s σ H W I (k W σ H q)
section
variable {G:Gx}{E:XK}{O0 M0:Zaa}{H0 H H':Hp}{ow ow':Os}{σ:L2.St}{m:Me}{W:Ends}{r:Res (Fl×Me)}
theorem Ss.pu {α:Type}{x:Res α}{k:α->Res (Fl×Me)}(R:Rel G O0 M0 H0 ow σ H m)(h:Ss G E O0 M0 H0 ow H W (x.bind k)):Pu G E x H λa=>Ss G E O0 M0 H0 ow H W (k a):=by
 cases x with
 |ok a=>exact h
 |exc c=>exact λC H' e g=>h C H' e λb o e n=>g b o (R.keep b o e n)
 |stuck=>exact h
theorem Ss.go (h:Ss G E O0 M0 H0 ow H W r)(g:Go O0 ow H ow' H'):Ss G E O0 M0 H0 ow' H' W r:=by
 cases r with
 |ok a=>
  obtain ⟨f,m'⟩:=a
  cases f with
  |nx=>exact λow1 σ1 H1 R g1=>h ow1 σ1 H1 R (g.trans g1)
  |bk=>exact λow1 σ1 H1 R g1=>h ow1 σ1 H1 R (g.trans g1)
  |ct=>exact λow1 σ1 H1 R g1=>h ow1 σ1 H1 R (g.trans g1)
  |rt fr d=>exact λv ow1 σ1 H1 R g1=>h v ow1 σ1 H1 R (g.trans g1)
 |exc c=>exact h
 |stuck=>exact h
theorem Ss.ofO {α:Type}{x:Option α}{k:α->Res (Fl×Me)}(h:Ss G E O0 M0 H0 ow H W ((ofO x).bind k)):∃a,x=some a/\Ss G E O0 M0 H0 ow H W (k a):=by
 cases x with
 |some a=>exact ⟨a,rfl,h⟩
 |none=>exact h.elim
end
noncomputable def gNx:Zab:=λm=>.ok (.nx,m)
noncomputable def aJ (g k:Zab):Zab:=λm=>match g m with
 | .ok (.nx,m')=>k m'
 |r=>r
noncomputable def aX (i:Nat)(f:Zae):Zab:=λm=>(f m).bind λd=>.ok (.nx,m.set i (.fz d))
noncomputable def eX (i:Nat)(f:Zae):Zab:=λm=>(f m).bind λd=>if i<m.length then .ok (.nx,m.set i (.ow d)) else .stuck
noncomputable def gEx (f:Zae):Zab:=λm=>(f m).bind λ_=>.ok (.nx,m)
noncomputable def bD (f:Zae):Zab:=λm=>(f m.let).bind λd=>.ok (.rt false d,m.let)
noncomputable def jP (f:Zae):Zab:=λm=>(f m.let).bind λd=>.ok (.rt true d,m.let)
noncomputable def nP (i:Nat):Zab:=λm=>match m[i]? with
 |some (.ow d)=>.ok (.rt true d,m.let)
 |some (.fz d)=>.ok (.rt false d,m.let)
 |_=>.stuck
noncomputable def gIf (t:Zaf)(g k:Zab):Zab:=λm=>(t m).bind λc=>if c then g m else k m
noncomputable def S8 (i:Nat)(k:Zab):Zab:=λm=>match m[i]? with
 |some (.ow d)=>k (m.set i (.fz d))
 |_=>k m
section
variable {X:Cx}{E:XK}{e c:Expr}{es:List Expr}{st:Stmt}{rest sa sb:List Stmt}{f:Zae}{ft:Zaf}{g k ga gb:Zab}{pos pos':Pos}{i:Nat}{x:Str}
theorem bU:FSs X E [] gNx:=rC VD λW σ H hE=>xq5 hE λO0 M0 H0 ow m R q=>q ow σ H R (Go.refl (aM.refl _))
theorem ZR {G:Gx}{W:Ends}{σ:L2.St}{H:Hp}(h:tS G E (aJ g k) W σ H):aaU (tS G E g) (tS G E k) W σ H:=by
 obtain ⟨O0,M0,H0,ow,m,R,q⟩:=h
 refine ⟨O0,M0,H0,ow,m,R,?_⟩
 unfold aJ at q
 cases z:g m with
 |ok a=>
  obtain ⟨f,m'⟩:=a
  rw [z] at q
  cases f with
  |nx=>exact λow' σ' H' R' g'=>⟨O0,M0,H0,ow',m',R',Ss.go q g'⟩
  |bk=>exact q
  |ct=>exact q
  |rt fr d=>exact q
 |exc c=>rw [z] at q;exact q
 |stuck=>rw [z] at q;exact q
theorem aD (h1:FS X E st g)(h2:FSs X E rest k):FSs X E (st::rest) (aJ g k):=rC (Ak h1 h2) λW σ H h=>ZR h
theorem aL (h1:FS X E st g):FSs X E [st] g:=We h1
theorem XQ (i:Nat)(h:FSs X E rest k):FSs X E rest (S8 i k):=rC h λW σ H hE=>xq5 hE λO0 M0 H0 ow m R q=>by
 unfold S8 at q
 cases z:m[i]? with
 |none=>rw [z] at q;exact ⟨O0,M0,H0,ow,m,R,q⟩
 |some s=>
  rw [z] at q
  cases s with
  |ow d=>
   obtain ⟨a,h1,h2,h3,h4⟩:=R.slot i _ z
   have na:¬Ow O0 (owS ow i none) a:=λw=>by
    rcases w with w | ⟨j,w⟩
    ·exact R.no0 i a h1 w
    ·by_cases e:j=i
     ·subst e;rw [gn] at w;cases w
     ·rw [fJ e] at w;exact e (R.inj j i a w h1)
   have sub:∀b,Ow O0 (owS ow i none) b->Ow O0 ow b\/H b=none:=λb z=>.inl z.sub
   have hi:=mU z
   have R2:cZ (gx X) O0 M0 H0 (owS ow i none) σ H (m.set i (.fz d)):=by
    refine ⟨⟨by simp [R.len],R.keep,R.m0,λb z=>R.mutk b z.sub,λj b e=>?_,λj k b e1 e2=>?_,λj hj=>?_,λj s e=>?_⟩,Bu R.nb λ_ z=>by cases z⟩
    ·by_cases q:j=i
     ·subst q;rw [gn] at e;cases e
     ·rw [fJ q] at e;exact R.no0 j b e
    ·by_cases q:j=i
     ·subst q;rw [gn] at e1;cases e1
     ·by_cases q':k=i
      ·subst q';rw [gn] at e2;cases e2
      ·rw [fJ q] at e1;rw [fJ q'] at e2;exact R.inj j k b e1 e2
    ·by_cases q:j=i
     ·subst q;exact gn
     ·rw [fJ q];exact R.out j (by simpa using hj)
    ·by_cases q:j=i
     ·subst q
      rw [List.getElem?_set_self hi] at e
      cases e
      rw [gn]
      exact ⟨rfl,.ref a,h3,(h4.bO sub).dv na⟩
     ·rw [List.getElem?_set_ne (Ne.symm q)] at e
      rw [fJ q]
      exact (R.slot j s e).bO sub λ_ _ b _=>Classical.em _
   exact ⟨O0,M0,H0,_,_,R2,Ss.go q Go.set⟩
  |_=>exact ⟨O0,M0,H0,ow,m,R,q⟩
theorem TY {G:Gx}{W:Ends}{σ:L2.St}{H:Hp}(h:tS G E (aX i f) W σ H):Rh (tE G E f) (Ad i) W σ H:=by
 obtain ⟨O0,M0,H0,ow,m,R,q⟩:=h
 refine ⟨O0,M0,H0,ow,m,R.toRel,(Ss.pu R.toRel q).imp (aM.refl _) λd q v H' g' hv=>?_⟩
 exact q _ _ _ ((R.mono g').set hv) ((Go.refl g').trans Go.set)
theorem UT {G:Gx}{W:Ends}{σ:L2.St}{H:Hp}(h:tS G E (eX i f) W σ H):Rh (tN G E f) (Ad i) W σ H:=by
 obtain ⟨O0,M0,H0,ow,m,R,q⟩:=h
 refine ⟨O0,M0,H0,ow,m,R.toRel,(Ss.pu R.toRel q).imp (aM.refl _) λd q p H' g' n hv=>?_⟩
 by_cases hi:i<m.length
 ·rw [if_pos hi] at q
  exact q _ _ _ (R.own g' n (R.toRel.CG n) hv hi) (Go.own g' n)
 ·rw [if_neg hi] at q
  exact q.elim
theorem aaq (hN:X.N.Nodup)(hi:X.N[i]? = some x)(hx:Loc X.env.scope x)(he:FE X E e f)(hs:swapsWith e (some (.Name x pos')) pos.line X.env=pure false:=by rfl)
  (hf:X.fn x=true\/X.env.scope.names.lookup x=some .local:=by first | exact .inl rfl | exact .inr rfl | assumption):FS X E (.Assign [.Name x pos'] e pos) (aX i f):=cL (xG hN hi hx he hs hf) λ_ _ _ h=>TY h
theorem RZ (hN:X.N.Nodup)(hi:X.N[i]? = some x)(hx:Loc X.env.scope x)(he:FN X E e f)(hs:swapsWith e (some (.Name x pos')) pos.line X.env=pure false:=by rfl)
  (hf:X.fn x=true\/X.env.scope.names.lookup x=some .local:=by first | exact .inl rfl | exact .inr rfl | assumption):FS X E (.Assign [.Name x pos'] e pos) (eX i f):=cL (xG hN hi hx he hs hf) λ_ _ _ h=>UT h
theorem Nr (he:FE X E e f)(hs:swapsWith e none pos.line X.env=pure false:=by rfl):FS X E (.Expr e pos) (gEx f):=cL (vL he hs) λW σ H hE=>xq5 hE λO0 M0 H0 ow m R q=>
 ⟨O0,M0,H0,ow,m,R.toRel,(Ss.pu R.toRel q).imp (aM.refl _) λd q v H' g' hv=>q _ _ _ (R.mono g') (Go.refl g')⟩
theorem bK (he:FE X E e f):FS X E (.Return (some e) pos) (bD f):=cL (DX he) λW σ H hE=>xq5 hE λO0 M0 H0 ow m R q=>by
 obtain ⟨ow',R',g1⟩:=R.let
 exact ⟨O0,M0,H0,ow',m.let,R'.toRel,(Ss.pu R'.toRel (Ss.go q g1)).imp (aM.refl _) λd q v H' g' hv=>q v ow' σ H' (R'.mono g') (Go.refl g') hv (λz=>by cases z)⟩
theorem nT (he:FN X E e f):FS X E (.Return (some e) pos) (jP f):=cL (DX he) λW σ H hE=>xq5 hE λO0 M0 H0 ow m R q=>by
 obtain ⟨ow',R',g1⟩:=R.let
 exact ⟨O0,M0,H0,ow',m.let,R'.toRel,(Ss.pu R'.toRel (Ss.go q g1)).imp (aM.refl _) λd q p H' g' n hv=>
  q _ ow' σ H' (R'.mono g') (Go.refl g') ((hv.bO λb z=>.inl (.inl z)).dv (R'.toRel.Br n)) λ_=>.inl ⟨p,rfl,R'.toRel.CG n,hv⟩⟩
theorem rY (i:Nat)(hN:X.N[i]? = some x:=by rfl)(hv:Vis X.env.scope x:=by first | exact Or.inl rfl | exact Or.inr (Or.inl rfl) | exact Or.inr (Or.inr rfl))(hd:(x == ("__debug__" : Str))=false:=by decide)
  (hcd:(x == ("__classdict__" : Str))=false:=by decide):FS X E (.Return (some (.Name x pos')) pos) (nP i):=cL (DX (jx hN hv hd hcd)) λW σ H hE=>xq5 hE λO0 M0 H0 ow m R q=>by
 obtain ⟨ow',R',g1⟩:=R.let
 unfold nP at q
 cases z:m[i]? with
 |none=>rw [z] at q;exact q.elim
 |some s=>
  rw [z] at q
  have zl:m.let[i]? = some s.let:=by unfold Me.let;rw [List.getElem?_map,z];rfl
  cases s with
  |fz d=>
   obtain ⟨_,v,e,hv⟩:=R'.slot i _ zl
   exact ⟨v,e,q v ow' σ H R' g1 hv λz=>by cases z⟩
  |ow d=>
   obtain ⟨_,v,e,hv⟩:=R'.slot i _ zl
   obtain ⟨a,h1,h2,h3,h4⟩:=R.slot i _ z
   rw [h3] at e
   cases e
   refine ⟨_,h3,q _ ow' σ H R' g1 hv λ_=>.inl ⟨a,rfl,h2,h4.bO λb w=>.inl ?_⟩⟩
   rcases w with w | w
   ·rcases w with w | ⟨j,w⟩
    ·exact .inl w
    ·rcases g1.new j b w with w' | w'
     ·exact w'
     ·have:=R'.mutk b (.inr ⟨j,w⟩)
      rw [w'] at this
      rcases this with ⟨_,e⟩ | ⟨_,e⟩ | ⟨_,e⟩ | ⟨_,e⟩<;>cases e
   ·rw [w];exact .inr ⟨i,h1⟩
  |_=>exact q.elim
theorem eE (hc:FT X E c ft)(ha:FSs X E sa ga)(hb:FSs X E sb gb):FS X E (.If c sa sb pos) (gIf ft ga gb):=cL (abv hc ha hb) λW σ H hE=>xq5 hE λO0 M0 H0 ow m R q=>
 ⟨O0,M0,H0,ow,m,R.toRel,(Ss.pu R.toRel q).imp (aM.refl _) λb q H' g'=>by
  cases b with
  |true=>rw [if_pos rfl] at q ⊢;exact ⟨O0,M0,H0,ow,m,R.mono g',Ss.go q (Go.refl g')⟩
  |false=>rw [if_neg Bool.false_ne_true] at q ⊢;exact ⟨O0,M0,H0,ow,m,R.mono g',Ss.go q (Go.refl g')⟩⟩
noncomputable def wh (t:Zaf)(b:Zab):Nat->Me->Option (Res (Fl×Me))
 |0,_=>none
 |n+1,m=>match t m with
  | .ok true=>match b m with
   | .ok (.nx,m')=>wh t b n m'
   | .ok (.ct,m')=>wh t b n m'
   | .ok (.bk,m')=>some (.ok (.nx,m'))
   | .ok (.rt fr d,m')=>some (.ok (.rt fr d,m'))
   | .exc c=>some (.exc c)
   | .stuck=>some .stuck
  | .ok false=>some (.ok (.nx,m))
  | .exc c=>some (.exc c)
  | .stuck=>some .stuck
theorem M3 {t:Zaf}{b:Zab}:∀{n:Nat} {m:Me} {r:Res (Fl×Me)},wh t b n m=some r->wh t b (n+1) m=some r
 |0,_,_,h=>by cases h
 |n+1,m,r,h=>by
  have ih:=@M3 t b n
  unfold wh at h ⊢
  split
  ·rename_i e
   rw [e] at h
   split
   ·rename_i m' e2;rw [e2] at h;exact ih h
   ·rename_i m' e2;rw [e2] at h;exact ih h
   ·rename_i m' e2;rw [e2] at h;exact h
   ·rename_i fr d m' e2;rw [e2] at h;exact h
   ·rename_i c e2;rw [e2] at h;exact h
   ·rename_i e2;rw [e2] at h;exact h
  ·rename_i e;rw [e] at h;exact h
  ·rename_i e;rw [e] at h;exact h
  ·rename_i e;rw [e] at h;exact h
theorem Ka {t:Zaf}{b:Zab}{n:Nat}{m:Me}{r:Res (Fl×Me)}(h:wh t b n m=some r):∀k,wh t b (n+k) m=some r
 |0=>h
 |k+1=>M3 (Ka h k)
open Classical in
def m5 (t:Zaf)(b:Zab):Zab:=λm=>
 if h:∃n r,wh t b n m=some r then Classical.choose (Classical.choose_spec h) else .stuck
theorem Pn {t:Zaf}{b:Zab}{m:Me}(h:m5 t b m≠.stuck):∃n,wh t b n m=some (m5 t b m):=by
 unfold m5 at h ⊢
 split at h
 ·rename_i q
  rw [dif_pos q]
  exact ⟨_,Classical.choose_spec (Classical.choose_spec q)⟩
 ·exact absurd rfl h
theorem rZ {t:Zaf}{b:Zab}{m:Me}{r:Res (Fl×Me)}(n:Nat)(h:wh t b n m=some r):m5 t b m=r:=by
 unfold m5
 have q:∃n r,wh t b n m=some r:=⟨n,r,h⟩
 rw [dif_pos q]
 have z:=Classical.choose_spec (Classical.choose_spec q)
 have a:=Ka z n
 have b':=Ka h (Classical.choose q)
 rw [Nat.add_comm] at b'
 rw [a] at b'
 exact Option.some.inj b'
theorem vJ {body:List Stmt}(hp:PassesOwn (model X.prog X.w) X.A X.env X.xe)(hc:FT X E c ft)(hb:FSs X E body g):FS X E (.While c body [] pos) (m5 ft g):=cL (Ui hp hc hb) λW σ H hE=>xq5 hE λO0 M0 H0 ow m R q=>by
 obtain ⟨n,hn⟩:=Pn (t:=ft) (b:=g) (m:=m) (λz=>by rw [z] at q;exact q)
 generalize m5 ft g m=r at *
 refine ⟨λn σ' H'=>∃ow' m',cZ (gx X) O0 M0 H0 ow' σ' H' m'/\Go O0 ow H ow' H'/\wh ft g n m'=some r,⟨n,ow,m,R,Go.refl (aM.refl _),hn⟩,?_⟩
 rintro n σ1 H1 ⟨ow1,m1,R1,g1,h1⟩
 cases n with
 |zero=>cases h1
 |succ n=>
  refine ⟨O0,M0,H0,ow1,m1,R1.toRel,?_⟩
  unfold wh at h1
  cases e:ft m1 with
  |exc c=>
   rw [e] at h1
   cases h1
   exact λC H' e g'=>q C H' e λb o e n=>g' b o (R1.keep b o e n)
  |stuck=>rw [e] at h1;cases h1;exact q.elim
  |ok t=>
   rw [e] at h1
   intro H2 g2
   have R2:=R1.mono g2
   have G2:=g1.trans (Go.refl g2)
   cases t with
   |false=>
    cases h1
    rw [if_neg Bool.false_ne_true]
    exact q _ _ _ R2 G2
   |true=>
    rw [if_pos rfl]
    have h1:(match g m1 with
     | .ok (.nx,m')=>wh ft g n m'
     | .ok (.ct,m')=>wh ft g n m'
     | .ok (.bk,m')=>some (.ok (.nx,m'))
     | .ok (.rt fr d,m')=>some (.ok (.rt fr d,m'))
     | .exc c=>some (.exc c)
     | .stuck=>some .stuck)=some r:=h1
    refine ⟨λσ' H'=>∃ow' m',cZ (gx X) O0 M0 H0 ow' σ' H' m'/\Go O0 ow H ow' H'/\wh ft g n m'=some r,λσ' H' z=>⟨n,Nat.lt_succ_self _,z⟩,O0,M0,H0,ow1,m1,R2,?_⟩
    cases e2:g m1 with
    |exc c=>rw [e2] at h1;cases h1;exact q
    |stuck=>rw [e2] at h1;cases h1;exact q
    |ok a=>
     obtain ⟨f2,m2⟩:=a
     rw [e2] at h1
     cases f2 with
     |nx=>exact λow' σ' H' R' g'=>⟨ow',m2,R',G2.trans g',h1⟩
     |ct=>exact λow' σ' H' R' g'=>⟨ow',m2,R',G2.trans g',h1⟩
     |bk=>cases h1;exact λow' σ' H' R' g'=>q ow' σ' H' R' (G2.trans g')
     |rt fr d=>cases h1;exact λv ow' σ' H' R' g'=>q v ow' σ' H' R' (G2.trans g')
end
def NbP (m m':Me):Prop:=(∀(j:Nat) (d:D),m[j]?≠some (Sl.bw d))->∀(j:Nat) (d:D),m'[j]?≠some (Sl.bw d)
def tG (G:Gx)(k:Nat)(h:Zba):TG:=λv σ H Q=>∃O0 M0 H0 ow m d m',Rel G O0 M0 H0 ow σ H m/\DV G (Ow O0 ow) H v d/\h d m=some m'/\
 ∀ow' σ',Rel G O0 M0 H0 ow' σ' H m'->Go O0 ow H ow' H->NbP m m'->σ'.drop k=σ.drop k->Q σ' H
def tGs (G:Gx)(k:Nat)(h:List D->Me->Option Me):TGs:=λvs σ H Q=>∃O0 M0 H0 ow m ds m',Rel G O0 M0 H0 ow σ H m/\DVs G (Ow O0 ow) H vs ds/\h ds m=some m'/\
 ∀ow' σ',Rel G O0 M0 H0 ow' σ' H m'->Go O0 ow H ow' H->NbP m m'->σ'.drop k=σ.drop k->Q σ' H
abbrev FG (X:Cx)(k:Nat)(tg:Expr)(h:Zba):Prop:=PG X tg (tG (gx X) k h)
abbrev FGs (X:Cx)(k:Nat)(tgs:List Expr)(h:List D->Me->Option Me):Prop:=PGs X tgs (tGs (gx X) k h)
theorem Ny {X:Cx}{e:Expr}{T T':TG}(h:PG X e T)(k:∀v σ H Q,T' v σ H Q->T v σ H Q):PG X e T':=λpins s σ H v u Q I r q=>h pins s σ H v u Q I r (k v σ H Q q)
theorem Hi {X:Cx}{es:List Expr}{T T':TGs}(h:PGs X es T)(k:∀v σ H Q,T' v σ H Q->T v σ H Q):PGs X es T':=λpins s σ H v u Q I r q=>h pins s σ H v u Q I r (k v σ H Q q)
noncomputable def hName (i:Nat):Zba:=λd m=>some (m.set i (.fz d))
noncomputable def ik:List D->Me->Option Me
 |[],m=>some m
 |_,_=>none
noncomputable def bu (h:Zba)(hs:List D->Me->Option Me):List D->Me->Option Me
 |d::ds,m=>(h d m).bind λm'=>hs ds m'
 |_,_=>none
noncomputable def ig (n:Nat)(hs:List D->Me->Option Me):Zba
 | .tup ds,m=>if ds.length=n then hs ds m else none
 |_,_=>none
section
variable {X:Cx}{pos:Pos}{k:Nat}{e:Expr}{es:List Expr}{h:Zba}{hs:List D->Me->Option Me}
theorem Wh {i:Nat}{x:Str}(hN:X.N.Nodup)(hi:X.N[i]? = some x)(hx:Loc X.env.scope x)(hk:i<k:=by decide)(hf:X.fn x=true\/X.env.scope.names.lookup x=some .local:=by first | exact .inl rfl | exact .inr rfl | assumption):FG X k (.Name x pos) (hName i):=
 Ny (WN hN hi hx hf) λv σ H Q hE=>xq7 hE λO0 M0 H0 ow m d m' R hv e q=>by
  cases e
  refine q _ _ (R.set hv) Go.set (λnb=>Bu nb λ_ z=>by cases z) ?_
  rw [List.drop_set,if_pos (by omega)]
theorem iy:FGs X k [] ik:=Hi Vj λvs σ H Q hE=>xq7 hE λO0 M0 H0 ow m ds m' R hv e q=>by
 cases hv with
 |nil=>cases e;exact ⟨rfl,q _ _ R (Go.refl (aM.refl _)) id rfl⟩
 |cons a t=>cases e
theorem bH (h1:FG X k e h)(h2:FGs X k es hs)(hst:(assignEach (e::es) X.env).map (·.2)=assign e X.env::(assignEach es X.env).map (·.2):=by rfl):FGs X k (e::es) (bu h hs):=
 Hi (Tn h1 h2 hst) λvs σ H Q hE=>xq7 hE λO0 M0 H0 ow m ds m' R hv e q=>by
  cases hv with
  |nil=>cases e
  | @cons v vs' d ds' a t=>
   have e':(h d m).bind (λm'=>hs ds' m')=some m':=e
   cases e1:h d m with
   |none=>rw [e1] at e';cases e'
   |some m1=>
    rw [e1] at e'
    exact ⟨v,vs',rfl,O0,M0,H0,ow,m,d,m1,R,a,e1,λow' σ' R' g' nb hd=>⟨O0,M0,H0,ow',m1,ds',m',R',t.go R.mutk g'.ev,e',λow2 σ2 R2 g2 nb2 hd2=>q ow2 σ2 R2 (g'.trans g2) (λz=>nb2 (nb z)) (hd2.trans hd)⟩⟩
theorem jU {j n:Nat}(hc:X.calm=true)(h:FGs X k es hs)(hn:(assignEach es X.env).length=n:=by rfl)(hst:(assignEach es X.env).findIdx? (·.1)=none:=by rfl):FG X k (.Tuple es j pos) (ig n hs):=
 Ny (YF hc h hn hst) λv σ H Q hE=>xq7 hE λO0 M0 H0 ow m d m' R hv e q=>by
  cases d with
  |tup ds=>
   obtain ⟨a,xs,rfl,hx,hd⟩:=uD (.inl hv)
   have e':(if ds.length=n then hs ds m else none)=some m':=e
   by_cases z:ds.length=n
   ·rw [if_pos z] at e'
    exact ⟨a,xs,rfl,hx,by rw [bM hd];exact z,O0,M0,H0,ow,m,ds,m',R,hd,e',q⟩
   ·rw [if_neg z] at e';cases e'
  |_=>cases e
end
noncomputable def Ue (f:Zae)(h:Zba):Zab:=λm=>(f m).bind λd=>(ofO (h d m)).bind λm'=>.ok (.nx,m')
theorem Zw {X:Cx}{E:XK}{tg e:Expr}{f:Zae}{k:Nat}{h:Zba}{pos:Pos}(he:FE X E e f)(hg:FG X k tg h)(hs:swapsWithSole [tg] e pos.line X.env=pure false:=by rfl)(hw:swappedStores [tg] e X.env=pure none:=by rfl)
  (h1:(assignEach [tg] X.env).map (·.2)=[assign tg X.env]:=by rfl):FS X E (.Assign [tg] e pos) (Ue f h):=cL (Gu he hg hs hw h1) λW σ H hE=>xq5 hE λO0 M0 H0 ow m R q=>
 ⟨O0,M0,H0,ow,m,R.toRel,(Ss.pu R.toRel q).imp (aM.refl _) λd q v H' g' hv=>by
  obtain ⟨m',e,q⟩:=Ss.ofO q
  exact ⟨O0,M0,H0,ow,m,d,m',(R.mono g').toRel,hv,e,λow' σ' R' g2 nb _=>q _ _ _ ⟨R',nb R.nb⟩ ((Go.refl g').trans g2)⟩⟩
def yu (G:Gx)(J:It)(ds:List D)(P:(Zaa)->Hp->Prop):Prop:=∀O H,P O H->
 (∀i,i<ds.length->J.go i H)/\(∀i x H',i<ds.length->J.yld i H x H'->aM H H'/\∃d,ds[i]? = some d/\DV G O H' x d)/\J.stop ds.length H
def tI (G:Gx)(E:XK)(f:Zad):TI:=λσ H R=>∃O0 M0 H0 ow m,Rel G O0 M0 H0 ow σ H m/\Pu G E (f m) H λds=>∀J H',aM H H'->yu G J ds (λO H2=>Ev (Ow O0 ow) H' O H2)->R J H'
def tIw (G:Gx)(E:XK)(f:Zad):TI:=λσ H R=>∃O0 M0 H0 ow m,Rel G O0 M0 H0 ow σ H m/\Pu G E (f m) H λds=>∀J H',aM H H'->yu G J ds (λO H2=>(∀b,O b->Ow O0 ow b\/H' b=none)/\aM H' H2)->R J H'
abbrev FI (X:Cx)(E:XK)(tg e:Expr)(f:Zad):Prop:=PI X tg e (tI (gx X) E f)
abbrev FIw (X:Cx)(E:XK)(tg e:Expr)(f:Zad):Prop:=PI X tg e (tIw (gx X) E f)
theorem mH {X:Cx}{tg e:Expr}{T T':TI}(h:PI X tg e T)(k:∀σ H R,T' σ H R->T σ H R):PI X tg e T':=λpins s σ H R I q=>h pins s σ H R I (k σ H R q)
noncomputable def jH (f:Zae):Zad:=λm=>(f m).bind λd=>match d with
 | .lst ds=>.ok ds
 |_=>.stuck
noncomputable def uE (f:Zae):Zad:=λm=>(f m).bind λd=>match d with
 | .tup ds=>.ok ds
 |_=>.stuck
noncomputable def pQ (f:Zad):Zad:=λm=>(f m).bind λd=>match d with
 |[.int j]=>if -(2 ^ 62)<=j/\j<2 ^ 62 then .ok ((List.range j.toNat).map λ(i:Nat)=>D.int i) else .stuck
 |_=>.stuck
noncomputable def La (f:Zad):Zad:=λm=>(f m).bind λd=>match d with
 |[.int i,.int j]=>if -(2 ^ 62)<=i/\i<2 ^ 62/\-(2 ^ 62)<=j/\j<2 ^ 62 then .ok ((List.range (j-i).toNat).map λ(k:Nat)=>D.int (i+k)) else .stuck
 |_=>.stuck
theorem Wu {G:Gx}{O:Zaa}{H:Hp}{a:Addr}{xs:List V}{ds:List D}(m:∀b,O b->fL (H b))(hl:LstAt G.K O H a xs)(hd:DVs G O H xs ds):yu G (Itl G.K a) ds (λO' H2=>Ev O H O' H2):=by
 intro O' H2 ev
 have hq:SqL G.K H2 a xs:=(vH ev.2 hl).sq
 have hd2:=hd.go m ev
 have hlen:=bM hd
 refine ⟨λi hi=>⟨xs,xs[i]'(by omega),hq,by simp⟩,λi x H' hi y=>?_,xs,hq,by omega⟩
 obtain ⟨e,y⟩:=y
 subst e
 obtain ⟨d,h1,h2⟩:=qb hd2 (y xs hq)
 exact ⟨aM.refl _,d,h1,h2⟩
theorem QK {G:Gx}{O:Zaa}{H:Hp}{a:Addr}{xs:List V}{ds:List D}(m:∀b,O b->fL (H b))(hl:SqL G.K H a xs)(hd:DVs G O H xs ds):yu G (Itl G.K a) ds (λO' H2=>(∀b,O' b->O b\/H b=none)/\aM H H2):=by
 intro O' H2 ⟨sub,g⟩
 have hq:SqL G.K H2 a xs:=Jd hl g
 have hd2:=hd.go m ⟨sub,.of g⟩
 have hlen:=bM hd
 refine ⟨λi hi=>⟨xs,xs[i]'(by omega),hq,by simp⟩,λi x H' hi y=>?_,xs,hq,by omega⟩
 obtain ⟨e,y⟩:=y
 subst e
 obtain ⟨d,h1,h2⟩:=qb hd2 (y xs hq)
 exact ⟨aM.refl _,d,h1,h2⟩
theorem ZD {G:Gx}{O:Zaa}{H:Hp}{a:Addr}{xs:List V}{ds:List D}(m:∀b,O b->fL (H b))(hl:SqT G.K H a xs)(hd:DVs G O H xs ds):yu G (Itt G.K a) ds (λO' H2=>Ev O H O' H2):=by
 intro O' H2 ev
 have hq:SqT G.K H2 a xs:=Kf m ev.2 hl
 have hd2:=hd.go m ev
 have hlen:=bM hd
 refine ⟨λi hi=>⟨xs,xs[i]'(by omega),hq,by simp⟩,λi x H' hi y=>?_,xs,hq,by omega⟩
 obtain ⟨e,y⟩:=y
 subst e
 obtain ⟨d,h1,h2⟩:=qb hd2 (y xs hq)
 exact ⟨aM.refl _,d,h1,h2⟩
theorem yu.weak {G:Gx}{J:It}{ds:List D}{O:Zaa}{H:Hp}(h:yu G J ds (λO' H2=>Ev O H O' H2)):yu G J ds (λO' H2=>(∀b,O' b->O b\/H b=none)/\aM H H2):=
 λO' H2 ⟨s,g⟩=>h O' H2 ⟨s,.of g⟩
theorem Hs {G:Gx}{lo:Int}{n:Nat}{P:(Zaa)->Hp->Prop}:yu G (Itr lo n) ((List.range n).map λ(k:Nat)=>D.int (lo+k)) P:=by
 intro O H _
 refine ⟨λi hi=>(show i<n by simpa using hi),λi x H' hi y=>?_,by show n<=_;simp⟩
 obtain ⟨e,y⟩:=y
 subst e y
 have hi':i<n:=by simpa using hi
 exact ⟨aM.refl _,_,by simp [List.getElem?_map,List.getElem?_range hi'],.int _⟩
section
variable {X:Cx}{E:XK}{tg e a b:Expr}{f:Zae}{fs:Zad}{p pos:Pos}
theorem sy (h:FE X E e f):FI X E tg e (jH f):=mH (Mu h) λσ H R hE=>xq5 hE λO0 M0 H0 ow m Re q=>⟨O0,M0,H0,ow,m,Re,q.bind.imp (aM.refl _) λd q v H' g hv=>by
 cases d with
 |lst ds=>
  cases hv with
  |lst hl hd=>exact ⟨_,rfl,⟨_,hl.sq⟩,q _ H' g (Wu (Re.mono g).mutk hl hd)⟩
 |_=>exact q.elim⟩
theorem xf (h:FE X E e f):FI X E tg e (uE f):=mH (Ze h) λσ H R hE=>xq5 hE λO0 M0 H0 ow m Re q=>⟨O0,M0,H0,ow,m,Re,q.bind.imp (aM.refl _) λd q v H' g hv=>by
 cases d with
 |tup ds=>
  cases hv with
  |tup hl hd=>exact ⟨_,rfl,⟨_,hl.sq⟩,q _ H' g (ZD (Re.mono g).mutk hl.sq hd)⟩
 |_=>exact q.elim⟩
theorem qP (h:FB X E e f):FIw X E tg e (jH f):=mH (Mu h) λσ H R hE=>xq5 hE λO0 M0 H0 ow m Re q=>⟨O0,M0,H0,ow,m,Re,q.bind.imp (aM.refl _) λd q v H' g hv=>by
 cases d with
 |lst ds=>
  obtain ⟨a,xs,rfl,hl,hd⟩:=jw hv
  exact ⟨a,rfl,⟨_,hl⟩,q _ H' g (QK (Re.mono g).mutk hl hd)⟩
 |_=>exact q.elim⟩
theorem qx {fl:Zad}(h:FI X E tg e fl):FIw X E tg e fl:=mH h λσ H R hE=>xq5 hE λO0 M0 H0 ow m Re q=>⟨O0,M0,H0,ow,m,Re,q.imp (aM.refl _) λds q J H' g hi=>q J H' g hi.weak⟩
theorem gK (hg:Gl X "range")(hm:X.mg "range" = none)(ha:FAB X E [a] fs)(hs:starEach [a] X.env=[(false,eval a X.env)]:=by rfl):FI X E tg (.Call (.Name "range" p) [a] [] pos) (pQ fs):=
 mH (Px hg hm ha hs) λσ H R hE=>xq5 hE λO0 M0 H0 ow m Re q=>⟨O0,M0,H0,ow,m,Re,q.bind.imp (aM.refl _) λds q vs H' g hv=>by
  cases hv with
  |nil=>exact q.elim
  | @cons v vs d ds h1 h2=>
   cases h2 with
   |cons _ _=>cases d<;>exact q.elim
   |nil=>
    cases d with
    |int j=>
     cases cI h1
     obtain ⟨⟨z1,z2⟩,k⟩:=De q
     refine ⟨j,rfl,z1,z2,k _ H' g ?_⟩
     have:=Hs (G:=gx X) (lo:=0) (n:=j.toNat) (P:=λO H2=>Ev (Ow O0 ow) H' O H2)
     simpa using this
    |_=>exact q.elim⟩
theorem Ql (hg:Gl X "range")(hm:X.mg "range" = none)(ha:FAB X E [a,b] fs)(hs:starEach [a,b] X.env=[(false,eval a X.env),(false,eval b X.env)]:=by rfl)(hs2:starEach [b] X.env=[(false,eval b X.env)]:=by rfl):FI X E tg (.Call (.Name "range" p) [a,b] [] pos) (La fs):=
 mH (Ph hg hm ha hs hs2) λσ H R hE=>xq5 hE λO0 M0 H0 ow m Re q=>⟨O0,M0,H0,ow,m,Re,q.bind.imp (aM.refl _) λds q vs H' g hv=>by
  split at q
  ·cases hv with
   |cons h1 t=>cases t with
    |cons h2 t=>
     cases t
     cases cI h1
     cases cI h2
     obtain ⟨⟨z1,z2,z3,z4⟩,k⟩:=De q
     exact ⟨_,_,rfl,⟨z1,z2,z3,z4⟩,k _ H' g Hs⟩
  ·exact q.elim⟩
end
noncomputable def bJ (h:Zba)(g:Zab):List D->Zab
 |[],m=>.ok (.nx,m)
 |d::ds,m=>match h d m with
  |none=>.stuck
  |some m1=>match g m1 with
   | .ok (.nx,m2)=>bJ h g ds m2
   | .ok (.ct,m2)=>bJ h g ds m2
   | .ok (.bk,m2)=>.ok (.nx,m2)
   | .ok (.rt fr v,m2)=>.ok (.rt fr v,m2)
   | .exc c=>.exc c
   | .stuck=>.stuck
noncomputable def gZ (fi:Zad)(h:Zba)(g:Zab):Zab:=λm=>(fi m).bind λds=>bJ h g ds m
theorem aag {X:Cx}{E:XK}{tg iter:Expr}{body:List Stmt}{fi:Zad}{k:Nat}{h:Zba}{g:Zab}{pos:Pos}(hp:PassesOwn (model X.prog X.w) X.A X.env X.xe)(hc:X.calm=true)(hi:FI X E tg iter fi)(hg:FG X k tg h)(hb:FSs X E body g)
  (hs:∀x,foldedSetIterable iter X.env x=pure x:=by intro _;rfl):FS X E (.For tg iter body [] pos) (gZ fi h g):=cL (aac hp hc hi hg hb hs) λW σ H hE=>xq5 hE λO0 M0 H0 ow m R q=>
 ⟨O0,M0,H0,ow,m,R.toRel,(Ss.pu R.toRel q).imp (aM.refl _) λds q J H1 g1 it=>by
  have R1:=R.mono g1
  have q1:=Ss.go q (Go.refl g1)
  generalize hr:bJ h g ds m=r at *
  refine ⟨λi n σ' H'=>∃ow' m',cZ (gx X) O0 M0 H0 ow' σ' H' m'/\Go O0 ow H1 ow' H'/\n=ds.length-i/\i<=ds.length/\bJ h g (ds.drop i) m'=r,⟨_,ow,m,R1,Go.refl (aM.refl _),rfl,Nat.zero_le _,hr⟩,?_⟩
  rintro i n σ2 H2 ⟨ow2,m2,R2,g2,rfl,hi,e2⟩
  obtain ⟨i1,i2,i3⟩:=it _ H2 g2.ev
  by_cases hlt:i<ds.length
  ·refine .inr ⟨i1 i hlt,λσ' H'=>∃ow' m',cZ (gx X) O0 M0 H0 ow' σ' H' m'/\Go O0 ow H1 ow' H'/\bJ h g (ds.drop (i+1)) m'=r,λσ' H' ⟨ow',m',R',g',e'⟩=>⟨ds.length-(i+1),by omega,ow',m',R',g',rfl,hlt,e'⟩,λx H3 y=>?_⟩
   obtain ⟨s3,d,hd,dv⟩:=i2 i x H3 hlt y
   have ed:ds.drop i=d::ds.drop (i+1):=by
    rw [List.drop_eq_getElem_cons hlt]
    rw [List.getElem?_eq_getElem hlt] at hd
    cases hd
    rfl
   rw [ed] at e2
   unfold bJ at e2
   cases eh:h d m2 with
   |none=>rw [eh] at e2;subst e2;exact q1.elim
   |some m3=>
    rw [eh] at e2
    refine ⟨O0,M0,H0,ow2,m2,d,m3,(R2.mono s3).toRel,dv,eh,λow' σ' R' g' nb _=>?_⟩
    have G3:=(g2.trans (Go.refl s3)).trans g'
    refine ⟨O0,M0,H0,ow',m3,⟨R',nb R2.nb⟩,?_⟩
    cases eg:g m3 with
    |exc c=>simp only [eg] at e2;subst e2;exact q1
    |stuck=>simp only [eg] at e2;subst e2;exact q1
    |ok a=>
     obtain ⟨f4,m4⟩:=a
     simp only [eg] at e2
     cases f4 with
     |nx=>exact λow4 σ4 H4 R4 g4=>⟨ow4,m4,R4,G3.trans g4,e2⟩
     |ct=>exact λow4 σ4 H4 R4 g4=>⟨ow4,m4,R4,G3.trans g4,e2⟩
     |bk=>subst e2;exact λow4 σ4 H4 R4 g4=>q1 ow4 σ4 H4 R4 (G3.trans g4)
     |rt fr v=>subst e2;exact λv ow4 σ4 H4 R4 g4=>q1 v ow4 σ4 H4 R4 (G3.trans g4)
  ·have e:i=ds.length:=by omega
   subst e
   rw [List.drop_length] at e2
   unfold bJ at e2
   subst e2
   exact .inl ⟨i3,q1 ow2 σ2 H2 R2 g2⟩⟩
noncomputable def Sl.bor:Sl->Sl
 | .ow d=>.bw d
 | .io d=>.bw d
 | .hd _ _ _=>.un
 |s=>s
noncomputable def cMe (k:Nat)(cap:List Nat)(m:Me):Me:=List.replicate k .un++cap.map λj=>(m.getD j .un).bor
noncomputable def dJ (h:Zba)(ft:Zaf)(fe:Zae)(m0:Me):List D->Res (List D)
 |[]=>.ok []
 |d::ds=>match h d m0 with
  |none=>.stuck
  |some m1=>match ft m1 with
   | .ok true=>match fe m1 with
    | .ok y=>match dJ h ft fe m0 ds with
     | .ok ys=>.ok (y::ys)
     |_=>.stuck
    |_=>.stuck
   | .ok false=>dJ h ft fe m0 ds
   |_=>.stuck
noncomputable def du (k:Nat)(cap:List Nat)(fi:Zad)(h:Zba)(ft:Zaf)(fe:Zae):Zae:=λm=>(fi m).bind λds=>
 if ds.length<=sizeLine then match dJ h ft fe (cMe k cap m) ds with
  | .ok ys=>.ok (.lst ys)
  |_=>.stuck
 else .stuck
abbrev Uq (X:Cx)(E:XK)(ifs:List Expr)(f:Zaf):Prop:=Ov X ifs (tT (gx X) E f)
noncomputable def gQ:Zaf:=λ_=>.ok true
theorem fD {X:Cx}{E:XK}:Uq X E [] gQ:=λpins s σ H Q I hE=>xq5 hE λO0 M0 H0 ow m R q=>V3 pins s σ H Q I (q H (aM.refl _))
theorem Uz {X:Cx}{E:XK}{c:Expr}{f:Zaf}(h:FT X E c f):Uq X E [c] f:=Vn h
section
variable {X:Cx}{E:XK}{k:Nat}{cap:List Nat}{fi:Zad}{h:Zba}{ft:Zaf}{fe:Zae}
theorem Uc {G:Gx}{O0 M0:Zaa}{H0 H H2:Hp}{ow:Os}{σ:L2.St}{m:Me}{l:Addr}{zs:List V}(R:Rel G O0 M0 H0 ow σ H m)(g:aM H H2)(hl:H l=none)(hz:H2 l=some (.lst zs)):
  Rel G (Op (Ow O0 ow) l) (λ_=>False) (λ_=>none) (λ_=>none) (cSt k cap σ) H2 (cMe k cap m):=by
 have sub:∀b,Ow (Op (Ow O0 ow) l) (λ_=>none) b->Ow O0 ow b\/H b=none:=λb z=>by
  rw [vU] at z
  exact z.elim .inl λe=>.inr (by rw [e];exact hl)
 have sup:∀b,Ow O0 ow b->Ow (Op (Ow O0 ow) l) (λ_=>none) b:=λb z=>.inl (.inl z)
 refine ⟨by simp [cSt,cMe],λb o e _=>(by cases e),λb z=>z.elim,λb z=>?_,λi a e=>(by cases e),λi j a e=>(by cases e),λ_ _=>rfl,λi s e=>?_⟩
 ·rw [vU] at z
  rcases z with z | z
  ·exact wI g (R.mutk b z)
  ·rw [z,hz];exact .inl ⟨zs,rfl⟩
 ·unfold cMe at e
  by_cases hi:i<k
  ·rw [List.getElem?_append_left (by simpa using hi),List.getElem?_replicate,if_pos hi] at e
   cases e
   rfl
  ·rw [List.getElem?_append_right (by simp;omega),List.length_replicate,List.getElem?_map] at e
   have eσ:(cSt k cap σ)[i]? = (cap[i-k]?).map λj=>(σ[j]?).join:=by
    unfold cSt
    rw [List.getElem?_append_right (by simp;omega),List.length_replicate,List.getElem?_map]
   cases ec:cap[i-k]? with
   |none=>rw [ec] at e;cases e
   |some j=>
    rw [ec] at e eσ
    rw [eσ]
    cases ej:m[j]? with
    |none=>
     have:m.getD j .un=.un:=by simp [List.getD,ej]
     rw [Option.map_some,this] at e
     cases e
     rfl
    |some s0=>
     have:m.getD j .un=s0:=by simp [List.getD,ej]
     rw [Option.map_some,this] at e
     cases e
     have z:=R.slot j s0 ej
     cases s0 with
     |un=>rfl
     |fz d=>
      obtain ⟨_,x,e1,hv⟩:=z
      exact ⟨rfl,x,by rw [Option.map_some,e1];rfl,(hv.bO sub).mono g⟩
     |ow d=>
      obtain ⟨a,h1,h2,h3,h4⟩:=z
      exact ⟨rfl,.ref a,by rw [Option.map_some,h3];rfl,.inr ⟨a,rfl,sup a (.inr ⟨j,h1⟩),(h4.bO sub).mono g⟩⟩
     |io d=>
      obtain ⟨a,h1,h2,h3,h4⟩:=z
      exact ⟨rfl,.ref a,by rw [Option.map_some,h3];rfl,.inr ⟨a,rfl,sup a (.inr ⟨j,h1⟩),(h4.bO sub).mono g⟩⟩
     |bw d=>
      obtain ⟨_,x,e1,hv⟩:=z
      refine ⟨rfl,x,by rw [Option.map_some,e1];rfl,?_⟩
      rcases hv with hv | ⟨a,e2,o,hv⟩
      ·exact .inl ((hv.bO sub).mono g)
      ·exact .inr ⟨a,e2,sup a o,(hv.bO sub).mono g⟩
     |hd w a d=>rfl
theorem GD {σ:L2.St}{H:Hp}{Q:VK}(hq:tN (gx X) E (du k cap fi h ft fe) σ H Q):Ly k cap (tIw (gx X) E fi) (tG (gx X) k h) (tT (gx X) E0 ft) (tE (gx X) E0 fe) σ H Q:=by
 obtain ⟨O0,M0,H0,ow,m,R,q⟩:=hq
 refine ⟨O0,M0,H0,ow,m,R,q.bind.imp (aM.refl _) λds q J H1 g1 it l hl=>?_⟩
 obtain ⟨hz,q⟩:=wL q
 cases hc:dJ h ft fe (cMe k cap m) ds with
 |exc c=>rw [hc] at q;exact q.elim
 |stuck=>rw [hc] at q;exact q.elim
 |ok ys=>
  rw [hc] at q
  have hlH:H l=none:=g1.free hl
  have mk1:∀b,Op (Ow O0 ow) l b->Ow O0 ow b\/H1 b=none:=λb z=>z.elim .inl λe=>.inr (by rw [e];exact hl)
  refine ⟨λi n zs H'=>n=ds.length-i/\i<=ds.length/\zs.length<=i/\aM H1 H'/\H' l=some (.lst zs)/\∃es rest,DVs (gx X) (Op (Ow O0 ow) l) H' zs es/\dJ h ft fe (cMe k cap m) (ds.drop i)=.ok rest/\es++rest=ys,
   ⟨ds.length,by simp,Nat.zero_le _,Nat.le_refl _,bz hl _,aW,[],ys,.nil,hc,rfl⟩,?_⟩
  rintro i n zs H' ⟨rfl,hi,hzi,g2,hH,es,rest,hes,hcr,hys⟩
  obtain ⟨i1,i2,i3⟩:=it (Op (Ow O0 ow) l) H' ⟨mk1,g2⟩
  by_cases hlt:i<ds.length
  ·refine .inr ⟨i1 i hlt,λx H2 y=>?_⟩
   obtain ⟨g3,d,hd,dv⟩:=i2 i x H2 hlt y
   have ed:ds.drop i=d::ds.drop (i+1):=by
    rw [List.drop_eq_getElem_cons hlt]
    rw [List.getElem?_eq_getElem hlt] at hd
    cases hd
    rfl
   rw [ed] at hcr
   unfold dJ at hcr
   cases eh:h d (cMe k cap m) with
   |none=>rw [eh] at hcr;cases hcr
   |some m1=>
    rw [eh] at hcr
    have G2:aM H H2:=(g1.trans g2).trans g3
    have R2:=Uc (k:=k) (cap:=cap) (l:=l) (zs:=zs) R G2 hlH (g3 _ _ hH)
    refine ⟨_,_,_,_,_,d,m1,R2,by rw [vU];exact dv,eh,λow' σ' R' g' nb hdr=>⟨hdr,_,_,_,ow',m1,R',?_⟩⟩
    simp only [] at hcr
    cases et:ft m1 with
    |exc c=>rw [et] at hcr;cases hcr
    |stuck=>rw [et] at hcr;cases hcr
    |ok t=>
     rw [et] at hcr
     intro H3 g4
     cases t with
     |false=>
      rw [if_neg Bool.false_ne_true]
      exact ⟨ds.length-(i+1),by omega,rfl,hlt,by omega,(g2.trans g3).trans g4,g4 _ _ (g3 _ _ hH),es,rest,hes.mono (g3.trans g4),hcr,hys⟩
     |true=>
      rw [if_pos rfl]
      refine ⟨_,_,_,ow',m1,R'.mono g4,?_⟩
      simp only [] at hcr
      cases ee:fe m1 with
      |exc c=>rw [ee] at hcr;cases hcr
      |stuck=>rw [ee] at hcr;cases hcr
      |ok y'=>
       rw [ee] at hcr
       intro v H5 g5 hv
       simp only [] at hcr
       cases er:dJ h ft fe (cMe k cap m) (ds.drop (i+1)) with
       |exc c=>rw [er] at hcr;cases hcr
       |stuck=>rw [er] at hcr;cases hcr
       |ok rest'=>
        rw [er] at hcr
        cases hcr
        have G5:aM H' H5:=(g3.trans g4).trans g5
        have mk5:∀b,Op (Ow O0 ow) l b->fL (H5 b):=λb z=>by
         rcases z with z | z
         ·exact wI (((g1.trans g2).trans G5)) (R.mutk b z)
         ·rw [z,G5 _ _ hH];exact .inl ⟨zs,rfl⟩
        have kp5:Kp (Op (Ow O0 ow) l) H5 (upd H5 l (.lst (zs++[v]))):=λb o e n=>by
         rw [cH (show b≠l from λz=>n (.inr z))]
         exact e
        refine ⟨G5 _ _ hH,by omega,ds.length-(i+1),by omega,rfl,hlt,by rw [List.length_append,List.length_singleton];omega,?_,aW,es++[y'],rest',?_,er,by rw [List.append_assoc];exact hys⟩
        ·exact K9 ((Yc (g2.trans G5)).trans U6) hl
        ·exact jB ((hes.mono G5).kp mk5 kp5) (.cons ((hv.bO λb z=>.inl (.inl z)).kp mk5 kp5) .nil)
  ·have e:i=ds.length:=by omega
   subst e
   rw [List.drop_length] at hcr
   cases hcr
   rw [List.append_nil] at hys
   subst hys
   exact .inl ⟨i3,q l H' (g1.trans g2) hlH ⟨zs,hH,hes⟩⟩
section
variable {tg iter elt:Expr}{ifs:List Expr}{scope:Scope}{pos:Pos}
theorem iz (sc:Scope)(N' caps:List Str)(k:Nat)(cap:List Nat)(hcalm:X.calm=true)(S:CSc sc scope caps)(hcap:Paired (λj x=>X.N[j]? = some x) cap caps)
  (hi:FIw X E tg iter fi) (hg:∀cl C sE HE fp pins,FG (cX X N' scope cl C sE HE fp pins) k tg h) (ht:∀cl C sE HE fp pins,Uq (cX X N' scope cl C sE HE fp pins) E0 ifs ft) (he:∀cl C sE HE fp pins,FE (cX X N' scope cl C sE HE fp pins) E0 elt fe)
  (hsc:X.env.scope=sc:=by rfl) (hN:N'.drop k=caps:=by rfl) (hk:k<=N'.length:=by decide) (hs:∀x,foldedSetIterable iter X.env x=pure x:=by intro _;rfl):
  FN X E (.ListComp elt [⟨tg,iter,ifs,0⟩] scope pos) (du k cap fi h ft fe):=bI (Wi sc N' caps k cap hcalm S hcap hi hg ht he hsc hN hk hs) λ_ _ _ q=>GD q
variable {i:Nat}{y:Str}{py spos:Pos}
theorem JD (sc:Scope)(N' caps:List Str)(k:Nat)(cap:List Nat)(hnd:X.N.Nodup)(hi':X.N[i]? = some y)(hy:Loc X.env.scope y)(hcalm:X.calm=true)(S:CSc sc scope caps)(hcap:Paired (λj x=>X.N[j]? = some x) cap caps)
  (hi:FIw X E tg iter fi) (hg:∀cl C sE HE fp pins,FG (cX X N' scope cl C sE HE fp pins) k tg h) (ht:∀cl C sE HE fp pins,Uq (cX X N' scope cl C sE HE fp pins) E0 ifs ft) (he:∀cl C sE HE fp pins,FE (cX X N' scope cl C sE HE fp pins) E0 elt fe)
  (hsw:swapsWith (.ListComp elt [⟨tg,iter,ifs,0⟩] scope pos) (some (.Name y py)) spos.line X.env=pure true:=by rfl)
  (hsc:X.env.scope=sc:=by rfl) (hN:N'.drop k=caps:=by rfl) (hk:k<=N'.length:=by decide) (hs:∀x,foldedSetIterable iter X.env x=pure x:=by intro _;rfl)
  (hf:X.fn y=true\/X.env.scope.names.lookup y=some .local:=by first | exact .inl rfl | exact .inr rfl | assumption):
  FS X E (.Assign [.Name y py] (.ListComp elt [⟨tg,iter,ifs,0⟩] scope pos) spos) (aX i (du k cap fi h ft fe)):=
 cL (Av sc N' caps k cap hnd hi' hy hcalm S hcap hi hg ht he hsw hsc hN hk hs hf) λW σ H q=>by
  refine GD (h:=h) (ft:=ft) (fe:=fe) (Q:=λx H1=>Ad i x σ H1 W.nx) ?_
  obtain ⟨O0,M0,H0,ow,m,R,q⟩:=TY q
  exact ⟨O0,M0,H0,ow,m,R,q.imp (aM.refl _) λ_ k p H' g n o=>k _ H' g ((o.bO λb z=>.inl (.inl z)).dv (R.Br n))⟩
theorem Jo (sc:Scope)(N' caps:List Str)(k:Nat)(cap:List Nat)(hnd:X.N.Nodup)(hi':X.N[i]? = some y)(hy:Loc X.env.scope y)(hcalm:X.calm=true)(S:CSc sc scope caps)(hcap:Paired (λj x=>X.N[j]? = some x) cap caps)
  (hi:FIw X E tg iter fi) (hg:∀cl C sE HE fp pins,FG (cX X N' scope cl C sE HE fp pins) k tg h) (ht:∀cl C sE HE fp pins,Uq (cX X N' scope cl C sE HE fp pins) E0 ifs ft) (he:∀cl C sE HE fp pins,FE (cX X N' scope cl C sE HE fp pins) E0 elt fe)
  (hsw:swapsWith (.ListComp elt [⟨tg,iter,ifs,0⟩] scope pos) (some (.Name y py)) spos.line X.env=pure true:=by rfl)
  (hsc:X.env.scope=sc:=by rfl) (hN:N'.drop k=caps:=by rfl) (hk:k<=N'.length:=by decide) (hs:∀x,foldedSetIterable iter X.env x=pure x:=by intro _;rfl)
  (hf:X.fn y=true\/X.env.scope.names.lookup y=some .local:=by first | exact .inl rfl | exact .inr rfl | assumption):
  FS X E (.Assign [.Name y py] (.ListComp elt [⟨tg,iter,ifs,0⟩] scope pos) spos) (eX i (du k cap fi h ft fe)):=
 cL (Av sc N' caps k cap hnd hi' hy hcalm S hcap hi hg ht he hsw hsc hN hk hs hf) λW σ H q=>GD (Q:=λx H1=>Ad i x σ H1 W.nx) (UT q)
end
end
def spF (G:Gx)(Φ:Zac):Sp:=λvs H Q E=>∃O ds,(∀b,O b->fL (H b))/\DVs G O H vs ds/\Pu G E (Φ ds) H λr=>∀v H',aM H H'->DV G O H' v r.2->(r.1=true->Fr G O H v H' r.2)->Q v H'
noncomputable def bj (N n:Nat)(g:Zab):Zac:=λds=>if ds.length=n then match g (ds.map Sl.fz++List.replicate (N-n) Sl.un) with
  | .ok (.rt fr d,_)=>.ok (fr,d)
  | .ok (.nx,_)=>.ok (false,.non)
  | .exc c=>.exc c
  |_=>.stuck
 else .stuck
abbrev FF (P:Program)(w:World)(K:W.Frag)(mg:Zp)(base:Heap)(k:Nat)(x:Str)(ps:List Str)(Φ:Zac):Prop:=Hd.Fn P w K mg base k x ps (spF ⟨K,mg⟩ Φ)
theorem O6 {G:Gx}{O:Zaa}{H:Hp}{N:List Str}{vs:List V}{ds:List D}{n:Nat}(hm:∀b,O b->fL (H b))(hd:DVs G O H vs ds)(hn:ds.length=n):
  cZ G O (λ_=>False) H (λ_=>none) (L2.start N vs) H (ds.map Sl.fz++List.replicate (N.length-n) Sl.un):=by
 have hl:=bM hd
 refine ⟨⟨by simp [L2.start,hl,hn],λb o e _=>e,λb z=>z.elim,λb z=>by rw [vU] at z;exact hm b z,λi a e=>(by cases e),λi j a e=>(by cases e),λ_ _=>rfl,λi s e=>?_⟩,λj d e=>?_⟩
 ·by_cases hi:i<ds.length
  ·rw [List.getElem?_append_left (by simpa using hi),List.getElem?_map] at e
   cases ed:ds[i]? with
   |none=>rw [ed] at e;cases e
   |some d=>
    rw [ed] at e
    cases e
    obtain ⟨x,hx,dx⟩:=ud hd ed
    refine ⟨rfl,x,?_,by rw [vU];exact dx⟩
    unfold L2.start
    rw [List.getElem?_append_left (by simpa [hl] using hi),List.getElem?_map,hx]
    rfl
  ·rw [List.getElem?_append_right (by simp;omega),List.getElem?_replicate] at e
   split at e
   ·cases e;rfl
   ·cases e
 ·by_cases hi:j<ds.length
  ·rw [List.getElem?_append_left (by simpa using hi),List.getElem?_map] at e
   cases ed:ds[j]? with
   |none=>rw [ed] at e;cases e
   |some d=>rw [ed] at e;cases e
  ·rw [List.getElem?_append_right (by simp;omega),List.getElem?_replicate] at e
   split at e<;>cases e
section
variable {P:Program}{w:World}{K:W.Frag}{mg:Zp}{base:Heap}
theorem bC {x qual:Str}{st:Stmt}{f:Addr}{fd:FuncData}{N ps:List Str}{k:Nat}{g:Zab}(Fu:Fun K x qual st f fd)(S:aY N ps (aN st))
  (hbody:∀(cdv:Value) (A:Around) (outer:List Env) (s:Shared) (H:Hp) (E:XK),gR k (A.deeper (envOfC qual (aN st) s.heap.objs.size f cdv))->
   FSs (Aq (CX1 P w) P w K mg base N qual (aN st) f cdv A outer s H E) E (jz st) g):o7 P w K mg base (CX1 P w) (k+1) f fd ps (spF ⟨K,mg⟩ (bj N.length ps.length g)):=by
 refine Mr Fu S (λvs H Q E h=>?_) (λcdv A outer s H vs Q E hr h=>?_)
 ·obtain ⟨O,ds,_,hd,q⟩:=h
  rw [bM hd]
  unfold bj at q
  exact (wL q).1
 ·obtain ⟨O,ds,hm,hd,q⟩:=h
  unfold bj at q
  obtain ⟨hn,q⟩:=wL q
  refine ⟨_,hbody cdv A outer s H E hr,O,λ_=>False,H,λ_=>none,_,O6 hm hd hn,?_⟩
  have sm:∀{ow' σ' H' m'},cZ (⟨K,mg⟩:Gx) O (λ_=>False) H ow' σ' H' m'->aM H H':=λR b o e=>R.keep b o e id
  cases z:g (ds.map Sl.fz++List.replicate (N.length-ps.length) Sl.un) with
  |exc c=>rw [z] at q;exact λC H' e kp=>q C H' e λb o e=>kp b o e id
  |stuck=>rw [z] at q;exact q.elim
  |ok a=>
   obtain ⟨fl,m'⟩:=a
   rw [z] at q
   cases fl with
   |bk=>exact q.elim
   |ct=>exact q.elim
   |nx=>exact λow' σ' H' R' _=>q _ H' (sm R') .non λz=>by cases z
   |rt fr d=>
    intro v ow' σ' H' R' _ hv hf
    refine q v H' (sm R') (hv.bO λb z=>.inl (.inl z)) λz=>?_
    rcases hf z with ⟨p,e1,e2,e3⟩ | t
    ·exact .inl ⟨p,e1,e2,e3.bO λb z=>.inl (z.elim (λy=>.inl (.inl y)) .inr)⟩
    ·exact .inr t
theorem abu {k:Nat}{f:Addr}{fd:FuncData}{ps:List Str}:o7 P w K mg base (CX1 P w) k f fd ps (spF ⟨K,mg⟩ λ_=>.stuck):=
 ⟨λ_ _ _ _ ⟨_,_,_,_,q⟩=>q.elim,λ_ _ _ _ _ _ _ _ _ _ _ _ _ ⟨_,_,_,_,q⟩=>q.elim⟩
end
noncomputable def fFn (Φ:Zac)(fs:Zad):Zae:=λm=>(fs m).bind λds=>(Φ ds).bind λr=>.ok r.2
section
variable {X:Cx}{E:XK}{j k:Nat}{x:Str}{ps:List Str}{Φ:Zac}{p pos:Pos}{e:Expr}{es:List Expr}{fs:Zad}
theorem aZ (Fh:FF X.prog X.w X.K X.mg X.base k x ps Φ)(hr:gR j X.A)(hx:Passes (CX1 X.prog X.w) X E)(ha:FAE X E (e::es) fs)(hk:k<=j:=by decide)(hg:Gl X x:=by rfl)
  (hdb:(x == ("__debug__" : Str))=false:=by decide) (he:starEach (e::es) X.env=(false,eval e X.env)::starEach es X.env:=by rfl) (hpl:(backTo pos (starEach es X.env)).any (·.1)=false:=by rfl):
  FE X E (.Call (.Name x p) (e::es) [] pos) (fFn Φ fs):=by
 obtain ⟨f,fd,G,b,kp,m⟩:=Fh.ex
 refine bI (Ey G (hr.mono hk) hg m kp b .nil hx ha hdb he hpl) λσ H Q hE=>xq5 hE λO0 M0 H0 ow m R q=>⟨O0,M0,H0,ow,m,R,q.bind.imp (aM.refl _) λds q vs H1 g1 hv=>?_⟩
 show spF _ _ (vs++[]) _ _ _
 rw [List.append_nil]
 exact ⟨_,ds,(R.mono g1).mutk,hv,q.bind.imp g1 λr q v H' g2 hv' _=>q v H' (g1.trans g2) hv'⟩
end
def Bg (i:Int):Prop:=i.natAbs<lmM
instance (i:Int):Decidable (Bg i):=inferInstanceAs (Decidable (_<_))
def Bq (i:Int):Prop:=i.natAbs<lmD
instance (i:Int):Decidable (Bq i):=inferInstanceAs (Decidable (_<_))
theorem aaL {i:Int}(h:i.natAbs<2 ^ 60000):Bg i:=by unfold Bg;rw [S5];exact h
theorem gP {i:Int}(h:i.natAbs<2 ^ 8900):Bq i:=by unfold Bq;rw [J7];exact h
@[simp] theorem acZ {i:Int}(h:Bq i):Bg i:=by
 unfold Bq at h
 rw [J7] at h
 exact aaL (Nat.lt_of_lt_of_le h (Nat.pow_le_pow_right (by decide) (by decide)))
noncomputable def dvI (i j:Int):Int:=if 0<j then i / j else i.fdiv j
noncomputable def mdI (i j:Int):Int:=if 0<j then i % j else i.fmod j
noncomputable def bY:D->D->Option D
 | .int i,.int j=>some (.int (i+j))
 | .str a,.str b=>if a.length+b.length<=sizeLine then some (.str (a++b)) else none
 | .lst a,.lst b=>if a.length+b.length<=sizeLine then some (.lst (a++b)) else none
 | .tup a,.tup b=>if a.length+b.length<=sizeLine then some (.tup (a++b)) else none
 |_,_=>none
noncomputable def dB:D->D->Option D
 | .int i,.int j=>some (.int (i-j))
 |_,_=>none
noncomputable def f9:D->D->Option D
 | .int i,.int j=>if Bg i/\Bg j then some (.int (i*j)) else none
 |_,_=>none
noncomputable def dC:D->D->Option D
 | .int i,.int j=>if j≠0/\Bq j then some (.int (dvI i j)) else none
 |_,_=>none
noncomputable def bF:D->D->Option D
 | .int i,.int j=>if j≠0 then some (.int (mdI i j)) else none
 |_,_=>none
noncomputable def uO:D->Option D
 | .int i=>some (.int (-i))
 |_=>none
section
variable {X:Cx}
theorem oif {c:Prop}[Decidable c]{α:Type}{a r:α}(h:(if c then some a else none)=some r):c/\a=r:=by
 by_cases z:c
 ·rw [if_pos z] at h;exact ⟨z,Option.some.inj h⟩
 ·rw [if_neg z] at h;cases h
theorem Lr {pins:Zl}{σ:L2.St}{H:Hp}{s:Shared}{Q:VK}{O:Zaa}{i:Str}{t:Tok}{tk:Nat}(I:Inv X pins σ H s)(q:∀v H',aM H H'->DV (gx X) O H' v (.str i)->Q v H'):EP X pins σ Q (.str i t) { s with toks:=tk }:=
 ⟨.str i,H,I.tok _,⟨t,rfl⟩,q _ _ (aM.refl _) (.str i)⟩
theorem Xc {pins:Zl}{σ:L2.St}{H:Hp}{s:Shared}{Q:VK}{O:Zaa}{xs:List V}{ds:List D}{its:List Value}{h':Heap}{tk:Nat}(I:Inv X pins σ H s)(m:∀b,O b->fL (H b))(hd:DVs (gx X) O H xs ds)(r:Vals xs its)(hz:xs.length<=sizeLine)
  (kp:∀b o,s.heap.get? b=some o->h'.get? b=some o) (e:∃n,h'.get? s.heap.objs.size=some { cls:=.type "list",data:=.seq its.toArray n }) (q:∀p H',aM H H'->H p=none->OV (gx X) (Op O p) H' p (.lst ds)->Q (.ref p) H'):EP X pins σ Q (.ref s.heap.objs.size) { s with heap:=h',toks:=tk }:=by
 have hf:H s.heap.objs.size=none:=I.hok.fresh (Nat.le_refl _)
 obtain ⟨n,e⟩:=e
 refine ⟨.ref s.heap.objs.size,upd H s.heap.objs.size (.lst xs),I.laid kp (Nat.le_refl _) ⟨hz,its,n,r,e⟩,rfl,q _ _ (bz hf _) hf ⟨xs,aW,?_⟩⟩
 exact (hd.bO λb z=>z.elim .inl λe=>.inr (by rw [e];exact hf)).mono (bz hf _)
theorem Sv {G:Gx}{O:Zaa}{H:Hp}{r:D}{Q:VK}(m:∀b,O b->fL (H b))(q:∀v H',aM H H'->DV G O H' v r->Q v H'):∀p H',aM H H'->H p=none->OV G (Op O p) H' p r->Q (.ref p) H':=λp H' g n o=>
 q _ H' g ((o.bO λb z=>.inl (.inl z)).dv λz=>by
  have:=m p z
  rw [n] at this
  rcases this with ⟨_,e⟩ | ⟨_,e⟩ | ⟨_,e⟩ | ⟨_,e⟩<;>cases e)
def abS (G:Gx):R2:=λx y H Q=>∃O ds es,(∀b,O b->fL (H b))/\DW G O H x (.lst ds)/\DW G O H y (.lst es)/\ds.length+es.length<=sizeLine/\∀p H',aM H H'->H p=none->OV G (Op O p) H' p (.lst (ds++es))->Q (.ref p) H'
theorem Vw:OpR X (binaryOp .Add) (abS (gx X)):=by
 intro pins s σ H x y v u Q I rx ry h
 obtain ⟨O,ds,es,m,hx,hy,hz,q⟩:=h
 obtain ⟨a,xs,rfl,ha,hd⟩:=jw hx
 obtain ⟨b,ys,rfl,hb,he⟩:=jw hy
 cases rx
 cases ry
 obtain ⟨its,r1,p1,_⟩:=I.list ha
 obtain ⟨its2,r2,p2,_⟩:=I.list hb
 have l1:=bM hd
 have l2:=bM he
 have k1:=r1.length
 have k2:=r2.length
 obtain ⟨⟨cls,dd,data,sl⟩,ho,hc,n,hdt⟩:=id p1.isList
 obtain ⟨⟨cls2,dd2,data2,sl2⟩,ho2,hc2,n2,hd2⟩:=id p2.isList
 simp only at hc hdt hc2 hd2
 subst hc hdt hc2 hd2
 refine concat_meets ⟨_,ho,rfl⟩ ⟨_,ho2,rfl⟩ noFill_list_add seq_list_add PySem.F.slot_list_add PySem.F.entry_list_add (PySem.F.args_list_add_2 _ _) (list_addW a b its.toArray its2.toArray n n2 dd dd2 sl sl2 (by simp;omega)) ⟨ho,ho2,?_⟩
 rw [show its.toArray++its2.toArray=(its++its2).toArray by simp]
 exact Xc (tk:=s.toks) I m (jB hd he) (r1.append r2) (by rw [List.length_append];omega) (λb o e=>Heap.get?_push_of_some _ e) ⟨0,Heap.get?_push_size _ rfl⟩ q
theorem Uj:OpR X (binaryOp .Add) (λx y H Q=>∃O ds es,DW (gx X) O H x (.tup ds)/\DW (gx X) O H y (.tup es)/\ds.length+es.length<=sizeLine/\∀v H',aM H H'->DV (gx X) O H' v (.tup (ds++es))->Q v H'):=by
 intro pins s σ H x y v u Q I rx ry h
 obtain ⟨O,ds,es,hx,hy,hz,q⟩:=h
 obtain ⟨a,xs,rfl,ha,hd⟩:=yU hx
 obtain ⟨b,ys,rfl,hb,he⟩:=yU hy
 have l1:=bM hd
 have l2:=bM he
 by_cases hx0:xs=[]
 ·subst hx0
  cases hd
  cases rx
  cases ry
  obtain ⟨its,r1,p1,_⟩:=I.tuple ha.sq
  obtain ⟨its2,r2,p2,_⟩:=I.tuple hb.sq
  cases r1
  obtain ⟨⟨cls,dd,data,sl⟩,ho,hc,n,hdt⟩:=id p1
  obtain ⟨⟨cls2,dd2,data2,sl2⟩,ho2,hc2,n2,hd2⟩:=id p2
  simp only at hc hdt hc2 hd2
  subst hc hdt hc2 hd2
  exact concat_meets ⟨_,ho,rfl⟩ ⟨_,ho2,rfl⟩ noFill_tuple_add seq_tuple_add PySem.F.slot_tuple_add PySem.F.entry_tuple_add (PySem.F.args_tuple_add_2 _ _)
   (tuple_addW0 a b ([]:List Value).toArray its2.toArray n n2 dd dd2 sl sl2 (by rfl)) ⟨ho,ho2,⟨.ref b,H,I,rfl,q _ _ (aM.refl _) (.tup hb he)⟩⟩
 ·refine V7 pins s σ H _ _ v u Q I rx ry ⟨a,b,xs,ys,rfl,rfl,ha.sq,hb.sq,hx0,by omega,λz=>?_,λz p hp=>?_⟩
  ·subst z
   cases he
   exact q _ _ (aM.refl _) (by rw [List.append_nil];exact .tup ha hd)
  ·exact q _ _ (bz hp _) (.tup (SqU.of aW) ((jB hd he).mono (bz hp _)))
theorem bR:OpR X (binaryOp .Add) (rG (gx X) bY):=by
 intro pins s σ H x y v u Q I rx ry h
 obtain ⟨O,d,e,r,m,hx,hy,hr,q⟩:=h
 match d,e,hr with
 | .int i,.int j,hr=>
  cases hr
  exact Zi pins s σ H x y v u Q I rx ry ⟨i,j,cI hx,cI hy,q _ _ (aM.refl _) (.int _)⟩
 | .str i,.str j,hr=>
  obtain ⟨z,rfl⟩:=oif hr
  exact Ky pins s σ H x y v u Q I rx ry ⟨i,j,jG hx,jG hy,z,q _ _ (aM.refl _) (.str _)⟩
 | .lst ds,.lst es,hr=>
  obtain ⟨z,rfl⟩:=oif hr
  exact Vw pins s σ H x y v u Q I rx ry ⟨O,ds,es,m,hx,hy,z,Sv m q⟩
 | .tup ds,.tup es,hr=>
  obtain ⟨z,rfl⟩:=oif hr
  exact Uj pins s σ H x y v u Q I rx ry ⟨O,ds,es,hx,hy,z,q⟩
theorem dD:OpR X (binaryOp .Sub) (rG (gx X) dB):=by
 intro pins s σ H x y v u Q I rx ry h
 obtain ⟨O,d,e,r,m,hx,hy,hr,q⟩:=h
 match d,e,hr with
 | .int i,.int j,hr=>
  cases hr
  exact YD pins s σ H x y v u Q I rx ry ⟨i,j,cI hx,cI hy,q _ _ (aM.refl _) (.int _)⟩
theorem dm:OpR X (binaryOp .Mult) (rG (gx X) f9):=by
 intro pins s σ H x y v u Q I rx ry h
 obtain ⟨O,d,e,r,m,hx,hy,hr,q⟩:=h
 match d,e,hr with
 | .int i,.int j,hr=>
  obtain ⟨z,rfl⟩:=oif hr
  exact WR pins s σ H x y v u Q I rx ry ⟨i,j,cI hx,cI hy,z,q _ _ (aM.refl _) (.int _)⟩
theorem cV:OpR X (binaryOp .FloorDiv) (rG (gx X) dC):=by
 intro pins s σ H x y v u Q I rx ry h
 obtain ⟨O,d,e,r,m,hx,hy,hr,q⟩:=h
 match d,e,hr with
 | .int i,.int j,hr=>
  obtain ⟨z,rfl⟩:=oif hr
  refine Rj pins s σ H x y v u Q I rx ry ⟨i,j,cI hx,cI hy,z,?_⟩
  have e:i.fdiv j=dvI i j:=by
   unfold dvI
   split
   ·rw [Int.fdiv_eq_ediv_of_nonneg i (by omega)]
   ·rfl
  show Q (.int (i.fdiv j)) H
  rw [e]
  exact q _ _ (aM.refl _) (.int _)
theorem bx:OpR X (binaryOp .Mod) (rG (gx X) bF):=by
 intro pins s σ H x y v u Q I rx ry h
 obtain ⟨O,d,e,r,m,hx,hy,hr,q⟩:=h
 match d,e,hr with
 | .int i,.int j,hr=>
  obtain ⟨z,rfl⟩:=oif hr
  refine Xj pins s σ H x y v u Q I rx ry ⟨i,j,cI hx,cI hy,z,?_⟩
  have e:i.fmod j=mdI i j:=by
   unfold mdI
   split
   ·rw [Int.fmod_eq_emod_of_nonneg i (by omega)]
   ·rfl
  show Q (.int (i.fmod j)) H
  rw [e]
  exact q _ _ (aM.refl _) (.int _)
theorem vV:UnR X (unaryOp .USub) (rG1 (gx X) uO):=by
 intro pins s σ H x v Q I rx h
 obtain ⟨O,d,r,m,hx,hr,q⟩:=h
 match d,hr with
 | .int i,hr=>
  cases hr
  exact Y6 pins s σ H x v Q I rx ⟨i,cI hx,q _ _ (aM.refl _) (.int _)⟩
mutual
noncomputable def toPy:D->Option PyData
 | .non=>some .none
 | .bl b=>some (.bool b)
 | .int i=>some (.int i)
 | .str x=>some (.str x)
 | .tup xs=>(tR xs).map .tuple
 | .lst xs=>(tR xs).map .list
 | .exc _=>none
 | .dct _ _=>none
 | .dcu _ _=>none
 | .adr _=>none
 | .ins _ _ _=>none
 | .dcf _ _=>none
noncomputable def tR:List D->Option (List PyData)
 |[]=>some []
 |d::ds=>(toPy d).bind λp=>(tR ds).map λps=>p::ps
end
mutual
theorem K7 {G:Gx}{O:Zaa}{H:Hp}:∀{v:V} {d:D} {p:PyData},DV G O H v d->toPy d=some p->Hd.DV G.K H v p
 |_,_,_,.non,e=>by cases e;exact .non
 |_,_,_,.bl b,e=>by cases e;exact .bl b
 |_,_,_,.int i,e=>by cases e;exact .int i
 |_,_,_,.str x,e=>by cases e;exact .str x
 |_,_,_,.exc _ _,e=>by cases e
 |_,_,_,.tup h hs,e=>by
  obtain ⟨ps,e1,rfl⟩:=omap (by simpa [toPy] using e)
  exact .tup h.sq (zy hs e1)
 |_,_,_,.lst h hs,e=>by
  obtain ⟨ps,e1,rfl⟩:=omap (by simpa [toPy] using e)
  exact .lst h.sq (zy hs e1)
 |_,_,_,.dct _ _ _ _ _,e=>by cases e
 |_,_,_,.dcu _ _ _ _ _,e=>by cases e
 |_,_,_,.adr _,e=>by cases e
 |_,_,_,.ins _ _ _ _ _ _,e=>by cases e
 |_,_,_,.dcf _ _ _ _,e=>by cases e
theorem zy {G:Gx}{O:Zaa}{H:Hp}:∀{vs:List V} {ds:List D} {ps:List PyData},DVs G O H vs ds->tR ds=some ps->Hd.DVs G.K H vs ps
 |_,_,_,.nil,e=>by cases e;exact .nil
 |_,_,_,.cons (d:=d) (ds:=ds) h hs,e=>by
  unfold tR at e
  cases e1:toPy d with
  |none=>rw [e1] at e;cases e
  |some p=>
   rw [e1] at e
   obtain ⟨ps,e2,rfl⟩:=omap e
   exact .cons (K7 h e1) (zy hs e2)
end
theorem yG {G:Gx}{O:Zaa}{H:Hp}{v:V}{d:D}{p:PyData}(h:DW G O H v d)(e:toPy d=some p):Hd.DV G.K H v p:=K7 h.any e
noncomputable def qj (d e:D):Option Bool:=match toPy d,toPy e with
 |some p,some q=>if SeqAt.shaped p=true/\SeqAt.shaped q=true then some (PyData.eqv p q) else none
 |_,_=>none
noncomputable def gEq:D->D->Option Bool
 | .int i,.int j=>some (decide (i=j))
 | .str i,.str j=>some (decide (i=j))
 | .bl i,.bl j=>some (decide (i=j))
 | .non,.non=>some true
 |d,e=>qj d e
noncomputable def gNe (d e:D):Option Bool:=(gEq d e).map (!·)
theorem Cv {d e:D}{b:Bool}(h:qj d e=some b):∃p q,toPy d=some p/\toPy e=some q/\SeqAt.shaped p=true/\SeqAt.shaped q=true/\PyData.eqv p q=b:=by
 unfold qj at h
 cases e1:toPy d with
 |none=>rw [e1] at h;cases h
 |some p=>
  cases e2:toPy e with
  |none=>rw [e1,e2] at h;cases h
  |some q=>
   rw [e1,e2] at h
   obtain ⟨⟨z1,z2⟩,rfl⟩:=oif h
   exact ⟨p,q,rfl,rfl,z1,z2,rfl⟩
theorem Cq {d e:D}{b:Bool}(h:gEq d e=some b):(∃i j,d=.int i/\e=.int j/\b=decide (i=j))\/(∃i j,d=.str i/\e=.str j/\b=decide (i=j))\/(∃i j,d=.bl i/\e=.bl j/\b=decide (i=j))\/(d=.non/\e=.non/\b=true)\/qj d e=some b:=by
 unfold gEq at h
 split at h
 ·cases h;exact .inl ⟨_,_,rfl,rfl,rfl⟩
 ·cases h;exact .inr (.inl ⟨_,_,rfl,rfl,rfl⟩)
 ·cases h;exact .inr (.inr (.inl ⟨_,_,rfl,rfl,rfl⟩))
 ·cases h;exact .inr (.inr (.inr (.inl ⟨rfl,rfl,rfl⟩)))
 ·exact .inr (.inr (.inr (.inr h)))
theorem eF (hu:X.A.units+64<cLine):OpR X (compareOp .Eq) (rGB (gx X) gEq):=by
 intro pins s σ H x y v u Q I rx ry h
 obtain ⟨O,d,e,r,m,hx,hy,hr,q⟩:=h
 rcases Cq hr with ⟨i,j,rfl,rfl,rfl⟩ | ⟨i,j,rfl,rfl,rfl⟩ | ⟨i,j,rfl,rfl,rfl⟩ | ⟨rfl,rfl,rfl⟩ | h
 ·cases cI hx;cases cI hy
  exact Lk pins s σ H _ _ v u Q I rx ry ⟨rfl,by simpa using q⟩
 ·cases jG hx;cases jG hy
  exact Lk pins s σ H _ _ v u Q I rx ry ⟨rfl,by simpa using q⟩
 ·cases Lh hx;cases Lh hy
  exact Lk pins s σ H _ _ v u Q I rx ry ⟨rfl,by simpa using q⟩
 ·cases Gq hx;cases Gq hy
  exact Lk pins s σ H _ _ v u Q I rx ry ⟨rfl,by simpa using q⟩
 ·obtain ⟨p,p',e1,e2,z1,z2,rfl⟩:=Cv h
  exact YT hu pins s σ H x y v u Q I rx ry ⟨p,p',yG hx e1,yG hy e2,z1,z2,q⟩
theorem rO (hu:X.A.units+64<cLine):OpR X (compareOp .NotEq) (rGB (gx X) gNe):=by
 intro pins s σ H x y v u Q I rx ry h
 obtain ⟨O,d,e,r,m,hx,hy,hr,q⟩:=h
 obtain ⟨c,hc,rfl⟩:=omap hr
 rcases Cq hc with ⟨i,j,rfl,rfl,rfl⟩ | ⟨i,j,rfl,rfl,rfl⟩ | ⟨i,j,rfl,rfl,rfl⟩ | ⟨rfl,rfl,rfl⟩ | h
 ·cases cI hx;cases cI hy
  exact K3 pins s σ H _ _ v u Q I rx ry ⟨rfl,by simpa using q⟩
 ·cases jG hx;cases jG hy
  exact K3 pins s σ H _ _ v u Q I rx ry ⟨rfl,by simpa using q⟩
 ·cases Lh hx;cases Lh hy
  exact K3 pins s σ H _ _ v u Q I rx ry ⟨rfl,by simpa using q⟩
 ·cases Gq hx;cases Gq hy
  exact K3 pins s σ H _ _ v u Q I rx ry ⟨rfl,by simpa using q⟩
 ·obtain ⟨p,p',e1,e2,z1,z2,rfl⟩:=Cv h
  exact ZG hu pins s σ H x y v u Q I rx ry ⟨p,p',yG hx e1,yG hy e2,z1,z2,q⟩
noncomputable def zX:List D->Option (List Int)
 |[]=>some []
 | .int i::ds=>(zX ds).map (i::·)
 |_::_=>none
theorem yM {G:Gx}{O:Zaa}{H:Hp}:∀{vs:List V} {ds:List D} {ns:List Int},DVs G O H vs ds->zX ds=some ns->vs=ns.map V.int
 |_,_,_,.nil,e=>by cases e;rfl
 |_,_,_,.cons (d:=d) h hs,e=>by
  cases d with
  |int i=>
   obtain ⟨ns,e1,rfl⟩:=omap (by simpa [zX] using e)
   cases h
   rw [yM hs e1]
   rfl
  |_=>cases e
noncomputable def gLt:D->D->Option Bool
 | .int i,.int j=>some (decide (i<j))
 | .tup a,.tup b=>match zX a,zX b with
  |some ns,some ms=>some (HT.lexLt ns ms)
  |_,_=>none
 |_,_=>none
noncomputable def gGt:D->D->Option Bool
 | .int i,.int j=>some (decide (j<i))
 |_,_=>none
noncomputable def gGe:D->D->Option Bool
 | .int i,.int j=>some (decide (j<=i))
 |_,_=>none
theorem Gb (hu:X.A.units+64<cLine):OpR X (compareOp .Lt) (rGB (gx X) gLt):=by
 intro pins s σ H x y v u Q I rx ry h
 obtain ⟨O,d,e,r,m,hx,hy,hr,q⟩:=h
 match d,e,hr with
 | .int i,.int j,hr=>cases hr;exact abV pins s σ H x y v u Q I rx ry ⟨i,j,cI hx,cI hy,q⟩
 | .tup a,.tup b,hr=>
  unfold gLt at hr
  cases e1:zX a with
  |none=>simp only [e1] at hr;cases hr
  |some ns=>
   cases e2:zX b with
   |none=>simp only [e1,e2] at hr;cases hr
   |some ms=>
    simp only [e1,e2] at hr
    cases hr
    obtain ⟨p,xs,rfl,hp,hd⟩:=uD hx
    obtain ⟨p',ys,rfl,hp',hd'⟩:=uD hy
    exact Y8 (by omega) pins s σ H _ _ v u Q I rx ry ⟨p,p',ns,ms,rfl,rfl,by rw [← yM hd e1];exact hp,by rw [← yM hd' e2];exact hp',q⟩
theorem Gn:OpR X (compareOp .Gt) (rGB (gx X) gGt):=by
 intro pins s σ H x y v u Q I rx ry h
 obtain ⟨O,d,e,r,m,hx,hy,hr,q⟩:=h
 match d,e,hr with
 | .int i,.int j,hr=>cases hr;exact abt pins s σ H x y v u Q I rx ry ⟨i,j,cI hx,cI hy,q⟩
theorem Kw:OpR X (compareOp .GtE) (rGB (gx X) gGe):=by
 intro pins s σ H x y v u Q I rx ry h
 obtain ⟨O,d,e,r,m,hx,hy,hr,q⟩:=h
 match d,e,hr with
 | .int i,.int j,hr=>cases hr;exact abC pins s σ H x y v u Q I rx ry ⟨i,j,cI hx,cI hy,q⟩
end
section
variable {X:Cx}{E:XK}{e a b:Expr}{es:List Expr}{f fa:Zae}{fs:Zad}{pos p:Pos}
noncomputable def gIx:D->D->Option D
 | .lst ds,.int i=>atI ds i
 | .tup ds,.int i=>atI ds i
 | .str z,.int i=>if z.length<=sizeLine then (atI z.cps.toList i).map λc=>.str ⟨#[c]⟩ else none
 |_,_=>none
theorem Og {G:Gx}{O:Zaa}{H:Hp}{xs:List V}{ds:List D}{i:Int}{d:D}(h:DVs G O H xs ds)(e:atI ds i=some d):∃x,atI xs i=some x/\DV G O H x d:=by
 unfold atI at e ⊢
 rw [bM h]
 cases q:ixN ds.length i with
 |none=>rw [q] at e;cases e
 |some j=>rw [q] at e;exact ud h e
theorem ace:IxR X (rG (gx X) gIx):=by
 intro value slice pins s σ H x y v u Q I rx ry h hs
 obtain ⟨O,d,e,r,m,hx,hy,hr,q⟩:=h
 match d,e,hr with
 | .lst ds,.int i,hr=>
  cases cI hy
  obtain ⟨p,xs,rfl,hp,hd⟩:=jw hx
  obtain ⟨z,hz,dz⟩:=Og hd hr
  exact V8 value slice pins s σ H _ _ v u Q I rx ry ⟨p,xs,i,z,rfl,rfl,hp,hz,q _ _ (aM.refl _) dz⟩ hs
 | .tup ds,.int i,hr=>
  cases cI hy
  obtain ⟨p,xs,rfl,hp,hd⟩:=uD hx
  obtain ⟨z,hz,dz⟩:=Og hd hr
  exact Y9 value slice pins s σ H _ _ v u Q I rx ry ⟨p,xs,i,z,rfl,rfl,hp,hz,q _ _ (aM.refl _) dz⟩ hs
 | .str z,.int i,hr=>
  cases cI hy
  cases jG hx
  have hr':(if z.length<=sizeLine then (atI z.cps.toList i).map λc=>D.str ⟨#[c]⟩ else none)=some r:=hr
  by_cases hz:z.length<=sizeLine
  ·rw [if_pos hz] at hr'
   obtain ⟨c,hc,rfl⟩:=omap hr'
   exact Zg value slice pins s σ H _ _ v u Q I rx ry ⟨z,i,c,rfl,rfl,hz,hc,q _ _ (aM.refl _) (.str _)⟩ hs
  ·rw [if_neg hz] at hr';cases hr'
def tO (G:Gx)(E:XK)(f:Me->Res (Option Int)):TO:=λσ H Q=>∃O0 M0 H0 ow m,Rel G O0 M0 H0 ow σ H m/\Pu G E (f m) H λo=>∀H',aM H H'->Q o H'
abbrev FO (X:Cx)(E:XK)(e:Option Expr)(f:Me->Res (Option Int)):Prop:=PO X e (tO (gx X) E f)
theorem KQ {e:Option Expr}{T T':TO}(h:PO X e T)(k:∀σ H Q,T' σ H Q->T σ H Q):PO X e T':=λpins s σ H Q I q=>h pins s σ H Q I (k σ H Q q)
noncomputable def fO0:Me->Res (Option Int):=λ_=>.ok none
noncomputable def fO1 (f:Zae):Me->Res (Option Int):=λm=>(f m).bind λd=>match d with
 | .int i=>.ok (some i)
 |_=>.stuck
theorem Et:FO X E none fO0:=KQ Vs λσ H Q hE=>xq5 hE λO0 M0 H0 ow m R q=>q H (aM.refl _)
theorem vZ (h:FB X E e f):FO X E (some e) (fO1 f):=KQ (Wv h) λσ H Q hE=>xq5 hE λO0 M0 H0 ow m R q=>⟨O0,M0,H0,ow,m,R,q.bind.imp (aM.refl _) λd q v H' g hv=>by
 cases d with
 |int i=>cases cI hv;exact ⟨i,rfl,q H' g⟩
 |_=>exact q.elim⟩
noncomputable def cut {α:Type}(xs:List α)(lo hi:Option Int):List α:=(xs.drop (HT.sIx xs.length 0 lo)).take (HT.sIx xs.length xs.length hi-HT.sIx xs.length 0 lo)
noncomputable def gSl:D->Option Int->Option Int->Option D
 | .lst ds,lo,hi=>some (.lst (cut ds lo hi))
 | .tup ds,lo,hi=>if HT.sIx ds.length 0 lo=0/\HT.sIx ds.length ds.length hi=ds.length then none else some (.tup (cut ds lo hi))
 | .str z,lo,hi=>if z.length<=sizeLine then some (.str (Txt.slice z lo hi)) else none
 |_,_,_=>none
def rSl (G:Gx):V->Option Int->Option Int->Hp->VK->Prop:=λx lo hi H Q=>∃O d r,(∀b,O b->fL (H b))/\DW G O H x d/\gSl d lo hi=some r/\∀v H',aM H H'->DV G O H' v r->Q v H'
noncomputable def acU:D->Option Int->Option Int->Option D
 | .lst ds,lo,hi=>some (.lst (cut ds lo hi))
 |_,_,_=>none
def acT (G:Gx):V->Option Int->Option Int->Hp->VK->Prop:=λx lo hi H Q=>∃O d r,(∀b,O b->fL (H b))/\DW G O H x d/\acU d lo hi=some r/\∀p H',aM H H'->H p=none->OV G (Op O p) H' p r->Q (.ref p) H'
theorem MT {G:Gx}{O:Zaa}{H:Hp}{xs:List V}{ds:List D}{lo hi:Option Int}(h:DVs G O H xs ds):DVs G O H (Ja xs lo hi) (cut ds lo hi):=by
 unfold Ja cut
 rw [bM h]
 exact By _ (Ii _ h)
theorem aaY:SlR X (acT (gx X)):=by
 intro pins s σ H x v vl vu lo hi sl Q I rx hs pl pu h
 obtain ⟨O,d,r,m,hx,hr,q⟩:=h
 match d,hr with
 | .lst ds,hr=>
  cases hr
  obtain ⟨p,xs,rfl,hp,hd⟩:=jw hx
  exact Wd pins s σ H _ v vl vu lo hi sl Q I rx hs pl pu ⟨p,xs,rfl,hp,λp hp'=>q p _ (bz hp' _) hp' ⟨_,aW,((MT hd).bO λb z=>z.elim .inl λe=>.inr (by rw [e];exact hp')).mono (bz hp' _)⟩⟩
theorem Ru {u:Value}{o:Option Int}(h:IsPart u o):∃l:Option (Int×Tok),u=partValue l/\l.map (·.1)=o:=by
 cases h with
 |none=>exact ⟨none,rfl,rfl⟩
 |int i t=>exact ⟨some (i,t),rfl,rfl⟩
theorem acI:SlR X (rSl (gx X)):=by
 intro pins s σ H x v vl vu lo hi sl Q I rx hs pl pu h
 obtain ⟨O,d,r,m,hx,hr,q⟩:=h
 match d,hr with
 | .lst ds,hr=>exact aaY pins s σ H x v vl vu lo hi sl Q I rx hs pl pu ⟨O,.lst ds,r,m,hx,hr,Sv m q⟩
 | .tup ds,hr=>
  obtain ⟨p,xs,rfl,hp,hd⟩:=uD hx
  have hr':(if HT.sIx ds.length 0 lo=0/\HT.sIx ds.length ds.length hi=ds.length then none else some (D.tup (cut ds lo hi)))=some r:=hr
  by_cases z:HT.sIx ds.length 0 lo=0/\HT.sIx ds.length ds.length hi=ds.length
  ·rw [if_pos z] at hr';cases hr'
  ·rw [if_neg z] at hr'
   cases hr'
   exact ZM pins s σ H _ v vl vu lo hi sl Q I rx hs pl pu ⟨p,xs,rfl,hp,by rw [bM hd];exact z,λp hp'=>q _ _ (bz hp' _) (.tup (SqU.of aW) ((MT hd).mono (bz hp' _)))⟩
 | .str z,hr=>
  cases jG hx
  obtain ⟨t,rfl⟩:=rx
  obtain ⟨hz,rfl⟩:=oif hr
  obtain ⟨l,rfl,rfl⟩:=Ru pl
  obtain ⟨u,rfl,rfl⟩:=Ru pu
  refine ⟨"str",_,PySem.F.slot_str_getitem.lookup,typeIs_str _ _ _,wpAny_getItem_str_slice (l:=l) (u:=u) (st:=none) hs rfl (post_val_or_str ⟨Nat.le_trans (Txt.slice_le z _ _) hz,λt' k=>Lr (tk:=k) I q⟩)⟩
noncomputable def fSl (f:Zae)(lo hi:Me->Res (Option Int)):Zae:=λm=>(f m).bind λd=>(lo m).bind λl=>(hi m).bind λu=>ofO (gSl d l u)
variable {lo hi:Option Expr}{fl fh:Me->Res (Option Int)}{p2:Pos}
theorem uP (he:FB X E e f)(hl:FO X E lo fl)(hu:FO X E hi fh):FE X E (.Subscript e (.Slice lo hi none p2) pos) (fSl f fl fh):=
 bI (RM acI he hl hu) λσ H Q hE=>xq5 hE λO0 M0 H0 ow m R q=>⟨O0,M0,H0,ow,m,R,q.bind.imp (aM.refl _) λd q v H1 g1 hv=>⟨O0,M0,H0,ow,m,R.mono g1,q.bind.imp g1 λl q H2 g2=>⟨O0,M0,H0,ow,m,R.mono (g1.trans g2),q.bind.imp (g1.trans g2) λu q H3 g3=>by
  obtain ⟨r,hr,k⟩:=q.ofO
  exact ⟨_,d,r,(R.mono ((g1.trans g2).trans g3)).mutk,hv.mono (g2.trans g3),hr,λv H' g d=>k v H' (((g1.trans g2).trans g3).trans g) d⟩⟩⟩⟩
noncomputable def dW:List D->Option D
 |[.lst ds]=>some (.int ds.length)
 |[.tup ds]=>some (.int ds.length)
 |[.str z]=>if z.length<=sizeLine then some (.int z.length) else none
 |[.dct ks _]=>some (.int ks.length)
 |_=>none
theorem sV {G:Gx}{O:Zaa}{H:Hp}{vs:List V}{d:D}(h:DWs G O H vs [d]):∃v,vs=[v]/\DW G O H v d:=by
 cases h with
 |cons a t=>cases t;exact ⟨_,rfl,a⟩
theorem dg:iW X (.builtin "len") (rGC (gx X) dW):=by
 intro pins s σ H xs us Q I r h
 obtain ⟨O,ds,d,m,hx,hr,q⟩:=h
 match ds,hr with
 |[.lst ds],hr=>
  cases hr
  obtain ⟨v,rfl,hv⟩:=sV hx
  obtain ⟨p,xs,rfl,hp,hd⟩:=jw hv
  exact vC pins s σ H _ us Q I r ⟨p,xs,rfl,.inl hp,by rw [bM hd];exact q _ _ (aM.refl _) (.int _)⟩
 |[.tup ds],hr=>
  cases hr
  obtain ⟨v,rfl,hv⟩:=sV hx
  obtain ⟨p,xs,rfl,hp,hd⟩:=uD hv
  exact vC pins s σ H _ us Q I r ⟨p,xs,rfl,.inr hp,by rw [bM hd];exact q _ _ (aM.refl _) (.int _)⟩
 |[.str z],hr=>
  obtain ⟨hz,rfl⟩:=oif hr
  obtain ⟨v,rfl,hv⟩:=sV hx
  cases jG hv
  exact Ez pins s σ H _ us Q I r ⟨z,rfl,hz,q _ _ (aM.refl _) (.int _)⟩
 |[.dct ks vs],hr=>
  cases hr
  obtain ⟨v,rfl,hv⟩:=sV hx
  obtain ⟨p,kvs,ws,rfl,hp,e1,e2,hd⟩:=zL hv
  exact OD pins s σ H _ us Q I r ⟨p,kvs,rfl,hp,by rw [show kvs.length=ks.length by rw [← e1,List.length_map]];exact q _ _ (aM.refl _) (.int _)⟩
noncomputable def PK:List D->Option D
 |[.int i]=>some (.int (if i<0 then -i else i))
 |_=>none
theorem xq:iW X (.builtin "abs") (rGC (gx X) PK):=by
 intro pins s σ H xs us Q I r h
 obtain ⟨O,ds,d,m,hx,hr,q⟩:=h
 match ds,hr with
 |[.int i],hr=>
  cases hr
  obtain ⟨v,rfl,hv⟩:=sV hx
  cases cI hv
  exact T9 pins s σ H _ us Q I r ⟨i,rfl,q _ _ (aM.refl _) (.int _)⟩
noncomputable def fH:List D->Option D
 |[.lst ds]=>some (.tup ds)
 |[.tup ds]=>some (.tup ds)
 |_=>none
theorem gh:iW X (.type "tuple") (rGC (gx X) fH):=by
 intro pins s σ H xs us Q I r h
 obtain ⟨O,ds,d,m,hx,hr,q⟩:=h
 match ds,hr with
 |[.lst ds],hr=>
  cases hr
  obtain ⟨v,rfl,hv⟩:=sV hx
  obtain ⟨p,xs,rfl,hp,hd⟩:=jw hv
  exact tH pins s σ H _ us Q I r ⟨p,xs,rfl,.inl ⟨hp,λl hl=>q _ _ (bz hl _) (.tup (SqU.of aW) (hd.mono (bz hl _)))⟩⟩
 |[.tup ds],hr=>
  cases hr
  obtain ⟨v,rfl,hv⟩:=sV hx
  obtain ⟨p,xs,rfl,hp,hd⟩:=yU hv
  exact tH pins s σ H _ us Q I r ⟨p,xs,rfl,.inr ⟨hp.sq,q _ _ (aM.refl _) (.tup hp hd)⟩⟩
noncomputable def rB:List D->Option D
 |[.lst ds]=>some (.lst ds)
 |[.tup ds]=>some (.lst ds)
 |_=>none
theorem qF:iW X (.type "list") (Vc (gx X) rB):=by
 intro pins s σ H xs us Q I r h
 obtain ⟨O,ds,d,m,hx,hr,q⟩:=h
 have go:∀{p:Addr} {ys:List V} {ds:List D},(SqL X.K H p ys\/SqT X.K H p ys)->DVs (gx X) O H ys ds->(∀p H',aM H H'->H p=none->OV (gx X) (Op O p) H' p (.lst ds)->Q (.ref p) H')->Vals [V.ref p] us->wpAny (model X.prog X.w) X.A (call (.type "list") us) (EP X pins σ Q) X.xe s:=
  λhp hd q r=>Ff pins s σ H _ us Q I r ⟨_,_,rfl,hp,λl hl=>q _ _ (bz hl _) hl ⟨_,aW,(hd.bO λb z=>z.elim .inl λe=>.inr (by rw [e];exact hl)).mono (bz hl _)⟩⟩
 match ds,hr with
 |[.lst ds],hr=>
  cases hr
  obtain ⟨v,rfl,hv⟩:=sV hx
  obtain ⟨p,xs,rfl,hp,hd⟩:=jw hv
  exact go (.inl hp) hd q r
 |[.tup ds],hr=>
  cases hr
  obtain ⟨v,rfl,hv⟩:=sV hx
  obtain ⟨p,xs,rfl,hp,hd⟩:=uD hv
  exact go (.inr hp) hd q r
noncomputable def nO:D->String
 | .non=>"NoneType"
 | .bl _=>"bool"
 | .int _=>"int"
 | .str _=>"str"
 | .tup _=>"tuple"
 | .lst _=>"list"
 | .dct _ _=>"dict"
 | .dcu _ _=>"dict"
 | .exc _=>""
 | .dcf _ _=>""
 | .adr _=>""
 | .ins _ _ _=>""
noncomputable def abL (t T:String):Bool:=t == T || (t == "bool" && T == "int")
noncomputable def kinds:List String:=["NoneType", "bool", "int", "str", "tuple", "list", "dict"]
theorem Xl {K:W.Frag}{t:String}:W.kitOne K (.type t) (.type t)=some true:=by unfold W.kitOne;rw [if_pos (by simp)]
theorem Wj {K:W.Frag}:∀t∈kinds,∀T∈kinds,W.kitOne K (.type t) (.type T)=some (abL t T):=by
 intro t ht T hT
 simp only [kinds,List.mem_cons,List.not_mem_nil,or_false] at ht hT
 rcases ht with rfl | rfl | rfl | rfl | rfl | rfl | rfl<;>rcases hT with rfl | rfl | rfl | rfl | rfl | rfl | rfl<;>first | exact Xl | kernel_rfl
theorem U0 {G:Gx}{O:Zaa}{H:Hp}{v:V}{d:D}(h:DW G O H v d)(n:nO d≠""):nO d∈kinds/\TyK G.K H v (.type (nO d)):=by
 have z:=h.any
 cases z with
 |non=>exact ⟨by simp [nO,kinds],.of .non⟩
 |bl b=>exact ⟨by simp [nO,kinds],.of (.bl b)⟩
 |int b=>exact ⟨by simp [nO,kinds],.of (.int b)⟩
 |str b=>exact ⟨by simp [nO,kinds],.of (.str b)⟩
 |exc _ _=>exact absurd rfl n
 |dcf _ _ _ _=>exact absurd rfl n
 |adr _=>exact absurd rfl n
 |ins _ _ _ _ _ _=>exact absurd rfl n
 |tup hq _=>exact ⟨by simp [nO,kinds],.tup hq.sq⟩
 |lst hq _=>exact ⟨by simp [nO,kinds],.lst hq.sq⟩
 |dct _ e _ _ _=>exact ⟨by simp [nO,kinds],.of (.dK e)⟩
 |dcu _ e _ _ _=>exact ⟨by simp [nO,kinds],.of (.dT e)⟩
noncomputable def Ga (T:String)(f:Zae):Zae:=λm=>(f m).bind λd=>if nO d = "" then .stuck else .ok (.bl (abL (nO d) T))
theorem zA {x y:Str}{py:Pos}{T:String}(ha:FB X E a fa)(hg:Gl X "isinstance")(hm:X.mg "isinstance" = none)(hv:bootBuiltins "isinstance" = some (.builtin "isinstance"))(hgy:Gl X y)(hmy:X.mg y=none)(hvy:bootBuiltins y=some (.type T))(hT:T∈kinds:=by decide)
  (hny:y≠"__name__":=by decide) (hdy:(y == ("__debug__" : Str))=false:=by decide)
  (he:starEach [a,.Name y py] X.env=(false,eval a X.env)::starEach [.Name y py] X.env:=by rfl) (he2:starEach [.Name y py] X.env=(false,eval (.Name y py) X.env)::starEach [] X.env:=by rfl) (hpl:(backTo pos (starEach [.Name y py] X.env)).any (·.1)=false:=by rfl):
  FE X E (.Call (.Name "isinstance" p) [a,.Name y py] [] pos) (Ga T fa):=
 bI (Hv Py hg hm hv (jd ha (jd (Vg (v:=.ty T) hgy hmy hvy rfl hny hdy) p6 he2) he) (by decide) (by decide) he hpl) λσ H Q hE=>xq5 hE λO0 M0 H0 ow m R q=>⟨O0,M0,H0,ow,m,R,q.bind.imp (aM.refl _) λd q v H' g hv=>by
  by_cases n:nO d = ""
  ·rw [if_pos n] at q;exact q.elim
  ·rw [if_neg n] at q
   obtain ⟨k1,k2⟩:=U0 hv n
   exact ⟨v,.ty T,_,_,_,rfl,rfl,k2,Wj _ k1 T hT,q _ _ g (.bl _)⟩⟩
end
section
variable {G:Gx}{O0 M0:Zaa}{H0 H H':Hp}{ow:Os}{σ:L2.St}{m:Me}
theorem cZ.chg {i:Nat}{a:Addr}{d d':D}{s':Sl}(R:cZ G O0 M0 H0 ow σ H m)(ho:ow i=some a)(g:Kp (· = a) H H')(h:OV G (Ow O0 ow) H' a d')
  (hs:(m[i]? = some (.ow d)/\s'=.ow d')\/(m[i]? = some (.io d)/\s'=.io d')):cZ G O0 M0 H0 ow σ H' (m.set i s'):=by
 have oa:Ow O0 ow a:=.inr ⟨i,ho⟩
 have kp:Kp (Ow O0 ow) H H':=λb u e n=>g b u e λz=>n (z ▸ oa)
 have hi:i<m.length:=by rcases hs with ⟨e,_⟩ | ⟨e,_⟩<;>exact mU e
 have ne:∀b o,H b=some o->b≠a->H' b=H b:=λb o e n=>by rw [e];exact g b o e n
 refine ⟨⟨by simp [R.len],λb u e n=>?_,λb z=>?_,λb z=>?_,R.no0,R.inj,λj hj=>R.out j (by simpa using hj),λj s e=>?_⟩,Bu R.nb λ_ z=>by rcases hs with ⟨_,w⟩ | ⟨_,w⟩<;>(rw [w] at z;cases z)⟩
 ·refine g b u (R.keep b u e n) λz=>?_
  subst z
  rcases hs with ⟨q,_⟩ | ⟨q,_⟩
  ·obtain ⟨a',e1,e2,_⟩:=R.slot i _ q
   rw [ho] at e1;cases e1
   rw [e2] at e;cases e
  ·obtain ⟨a',e1,e2,_⟩:=R.slot i _ q
   rw [ho] at e1;cases e1
   exact n e2
 ·by_cases q:b=a
  ·rw [q]
   have:=h.mut
   intro w
   rw [w] at this
   rcases this with ⟨_,e⟩ | ⟨_,e⟩ | ⟨_,e⟩ | ⟨_,e⟩<;>cases e
  ·cases w:H b with
   |none=>exact absurd w (R.m0 b z)
   |some o=>rw [g b o w q];simp
 ·by_cases q:b=a
  ·rw [q];exact h.mut
  ·have:=R.mutk b z
   rcases this with ⟨_,e⟩ | ⟨_,e⟩ | ⟨_,e⟩ | ⟨_,e⟩
   ·rw [ne b _ e q];exact .inl ⟨_,e⟩
   ·rw [ne b _ e q];exact .inr (.inl ⟨_,e⟩)
   ·rw [ne b _ e q];exact .inr (.inr (.inl ⟨_,e⟩))
   ·rw [ne b _ e q];exact .inr (.inr (.inr ⟨_,e⟩))
 ·by_cases q:j=i
  ·subst q
   rw [List.getElem?_set_self hi] at e
   cases e
   rcases hs with ⟨q,rfl⟩ | ⟨q,rfl⟩
   ·obtain ⟨a',e1,e2,e3,_⟩:=R.slot j _ q
    rw [ho] at e1;cases e1
    exact ⟨a,ho,e2,e3,h⟩
   ·obtain ⟨a',e1,e2,e3,_⟩:=R.slot j _ q
    rw [ho] at e1;cases e1
    exact ⟨a,ho,e2,e3,h⟩
  ·rw [List.getElem?_set_ne (Ne.symm q)] at e
   have z:=R.slot j s e
   have other:∀{b:Addr} {d:D},ow j=some b->OV G (Ow O0 ow) H b d->OV G (Ow O0 ow) H' b d:=λ{b d} e1 h1=>by
    have nb:b≠a:=λw=>q (R.inj j i b e1 (w ▸ ho))
    rcases h1.mut with ⟨_,e⟩ | ⟨_,e⟩ | ⟨_,e⟩ | ⟨_,e⟩<;>exact h1.kp R.mutk kp (ne b _ e nb)
   cases s with
   |un=>exact z
   |fz d=>obtain ⟨b,x,e,q⟩:=z;exact ⟨b,x,e,q.kp R.mutk kp⟩
   |ow d=>obtain ⟨b,x,e,f,q'⟩:=z;exact ⟨b,x,e,f,other x q'⟩
   |io d=>obtain ⟨b,x,e,f,q'⟩:=z;exact ⟨b,x,e,f,other x q'⟩
   |bw d=>exact (R.nb j d e).elim
   |hd w b d=>obtain ⟨x,e,f,q'⟩:=z;exact ⟨x,e,f,other x q'⟩
theorem Go.chg {i:Nat}{a:Addr}{d:D}(ho:ow i=some a)(g:Kp (· = a) H H')(h:OV G (Ow O0 ow) H' a d):Go O0 ow H ow H':=
 ⟨λb u e n=>g b u e λz=>n (z ▸ .inr ⟨i,ho⟩),λj b e=>.inl (.inr ⟨j,e⟩),λb n=>by
  by_cases q:b=a
  ·rw [q]
   have:=h.mut
   intro w
   rw [w] at this
   rcases this with ⟨_,e⟩ | ⟨_,e⟩ | ⟨_,e⟩ | ⟨_,e⟩<;>cases e
  ·cases w:H b with
   |none=>exact absurd w n
   |some o=>rw [g b o w q];simp⟩
theorem m8 {a:Addr}{o:HO}:Kp (· = a) H (L2.upd H a o):=λb u e n=>by rw [L2.cH n];exact e
noncomputable def jL (m:Me)(i:Nat):Option (Bool×List D):=match m[i]? with
 |some (.ow (.lst ds))=>some (true,ds)
 |some (.io (.lst ds))=>some (false,ds)
 |_=>none
noncomputable def putL (m:Me)(i:Nat)(k:Bool)(ds:List D):Me:=m.set i (if k then .ow (.lst ds) else .io (.lst ds))
theorem ql (R:Rel G O0 M0 H0 ow σ H m){i:Nat}{k:Bool}{ds:List D}(e:jL m i=some (k,ds)):∃a xs,ow i=some a/\σ[i]? = some (some (.ref a))/\H a=some (.lst xs)/\DVs G (Ow O0 ow) H xs ds/\((m[i]? = some (.ow (.lst ds))/\k=true)\/(m[i]? = some (.io (.lst ds))/\k=false)):=by
 unfold jL at e
 split at e
 ·rename_i q
  cases e
  obtain ⟨a,e1,e2,e3,xs,e4,e5⟩:=R.slot i _ q
  exact ⟨a,xs,e1,e3,e4,e5,.inl ⟨q,rfl⟩⟩
 ·rename_i q
  cases e
  obtain ⟨a,e1,e2,e3,xs,e4,e5⟩:=R.slot i _ q
  exact ⟨a,xs,e1,e3,e4,e5,.inr ⟨q,rfl⟩⟩
 ·cases e
theorem cZ.put {i:Nat}{k:Bool}{a:Addr}{ds es:List D}{ys:List V}(R:cZ G O0 M0 H0 ow σ H m)(ho:ow i=some a)(hm:(m[i]? = some (.ow (.lst ds))/\k=true)\/(m[i]? = some (.io (.lst ds))/\k=false))(hd:DVs G (Ow O0 ow) H ys es):
  cZ G O0 M0 H0 ow σ (L2.upd H a (.lst ys)) (putL m i k es)/\Go O0 ow H ow (L2.upd H a (.lst ys)):=by
 have oa:Ow O0 ow a:=.inr ⟨i,ho⟩
 have kp:Kp (Ow O0 ow) H (L2.upd H a (.lst ys)):=λb u e n=>m8 b u e λz=>n (z ▸ oa)
 have ov:OV G (Ow O0 ow) (L2.upd H a (.lst ys)) a (.lst es):=⟨ys,L2.aW,hd.kp R.mutk kp⟩
 refine ⟨R.chg (d:=.lst ds) (d':=.lst es) ho m8 ov ?_,Go.chg ho m8 ov⟩
 rcases hm with ⟨e,rfl⟩ | ⟨e,rfl⟩
 ·exact .inl ⟨e,rfl⟩
 ·exact .inr ⟨e,rfl⟩
end
section
variable {X:Cx}{E:XK}{e:Expr}{es:List Expr}{f:Zae}{fs:Zad}{pos apos cpos np:Pos}{i j:Nat}{x y:Str}
noncomputable def cR (i:Nat)(f:Zae):Zab:=λm=>(ofO (jL m i)).bind λo=>(f m).bind λd=>if o.2.length<sizeLine then .ok (.nx,putL m i o.1 (o.2++[d])) else .stuck
theorem gG (i:Nat)(he:FE X E e f)(hN:X.N[i]? = some x:=by rfl)(hv:Vis X.env.scope x:=by first | exact Or.inl rfl | exact Or.inr (Or.inl rfl) | exact Or.inr (Or.inr rfl))(hd:(x == ("__debug__" : Str))=false:=by decide)(hcd:(x == ("__classdict__" : Str))=false:=by decide)
  (hbase:attributeBase (.Name x np) "append" X.env (eval (.Name x np) X.env)=eval (.Name x np) X.env:=by rfl)
  (hfew:((backTo cpos (starEach [e] X.env)).all (λx=>!x.1) && (backToKw cpos (keywordEach [] X.env)).all (λx=>x.1.isSome) && decide ([e].length+([]:List Keyword).length+(if ([]:List Keyword).isEmpty then 0 else 1)<30))=true:=by rfl)
  (hline:(apos.endLine == cpos.line)=true:=by rfl) (hs:starEach [e] X.env=(false,eval e X.env)::starEach [] X.env:=by rfl) (hplain:(backTo cpos (starEach [] X.env)).any (·.1)=false:=by rfl)
  (hsw:swapsWith (.Call (.Attribute (.Name x np) "append" apos) [e] [] cpos) none pos.line X.env=pure false:=by rfl):
  FS X E (.Expr (.Call (.Attribute (.Name x np) "append" apos) [e] [] cpos) pos) (cR i f):=
 cL (vL (Li PySem.F.plainAttrs_list PySem.F.slot_list_append PySem.F.type_list_append w5 (jx hN hv hd hcd) (jd he p6 hs) hbase hfew hline hs hplain) hsw) λW σ H hE=>xq5 hE λO0 M0 H0 ow m R q=>by
  obtain ⟨o,ho,q⟩:=Ss.ofO q
  obtain ⟨k,ds⟩:=o
  obtain ⟨a,xs,e1,e2,e3,e4,e5⟩:=ql R.toRel ho
  refine ⟨_,e2,.inl ⟨rfl,xs,SqL.of e3⟩,O0,M0,H0,ow,m,R.toRel,(Ss.pu R.toRel q).imp (aM.refl _) λd q v H1 g1 hv=>?_⟩
  have R1:=R.mono g1
  by_cases hz:ds.length<sizeLine
  ·rw [if_pos hz] at q
   obtain ⟨R2,g2⟩:=R1.put (es:=ds++[d]) (ys:=xs++[v]) e1 e5 (jB (e4.mono g1) (.cons hv .nil))
   exact ⟨a,xs,v,rfl,rfl,g1 _ _ e3,by rw [bM e4];exact hz,q _ _ _ R2 ((Go.refl g1).trans g2)⟩
  ·rw [if_neg hz] at q;exact q.elim
noncomputable def Fw (i:Nat)(f:Zae):Zab:=λm=>(ofO (jL m i)).bind λo=>(f m).bind λd=>match d with
 | .lst es=>if o.2.length+es.length<=sizeLine then .ok (.nx,putL m i o.1 (o.2++es)) else .stuck
 |_=>.stuck
theorem Qt (i:Nat)(he:FN X E e f)(hN:X.N[i]? = some x:=by rfl)(hv:Vis X.env.scope x:=by first | exact Or.inl rfl | exact Or.inr (Or.inl rfl) | exact Or.inr (Or.inr rfl))(hd:(x == ("__debug__" : Str))=false:=by decide)(hcd:(x == ("__classdict__" : Str))=false:=by decide)
  (hbase:attributeBase (.Name x np) "extend" X.env (eval (.Name x np) X.env)=eval (.Name x np) X.env:=by rfl)
  (hfew:((backTo cpos (starEach [e] X.env)).all (λx=>!x.1) && (backToKw cpos (keywordEach [] X.env)).all (λx=>x.1.isSome) && decide ([e].length+([]:List Keyword).length+(if ([]:List Keyword).isEmpty then 0 else 1)<30))=true:=by rfl)
  (hline:(apos.endLine == cpos.line)=true:=by rfl) (hs:starEach [e] X.env=(false,eval e X.env)::starEach [] X.env:=by rfl) (hplain:(backTo cpos (starEach [] X.env)).any (·.1)=false:=by rfl)
  (hsw:swapsWith (.Call (.Attribute (.Name x np) "extend" apos) [e] [] cpos) none pos.line X.env=pure false:=by rfl):
  FS X E (.Expr (.Call (.Attribute (.Name x np) "extend" apos) [e] [] cpos) pos) (Fw i f):=
 cL (vL (Li PySem.F.plainAttrs_list PySem.F.slot_list_extend PySem.F.type_list_extend Qg (jx hN hv hd hcd) (jd he p6 hs) hbase hfew hline hs hplain) hsw) λW σ H hE=>xq5 hE λO0 M0 H0 ow m R q=>by
  obtain ⟨o,ho,q⟩:=Ss.ofO q
  obtain ⟨k,ds⟩:=o
  obtain ⟨a,xs,e1,e2,e3,e4,e5⟩:=ql R.toRel ho
  refine ⟨_,e2,.inl ⟨rfl,xs,SqL.of e3⟩,O0,M0,H0,ow,m,R.toRel,(Ss.pu R.toRel q).imp (aM.refl _) λd q p H1 g1 n hv=>?_⟩
  have R1:=R.mono g1
  cases d with
  |lst es=>
   have q:Ss (gx X) E O0 M0 H0 ow H W (if ds.length+es.length<=sizeLine then .ok (.nx,putL m i k (ds++es)) else .stuck):=q
   obtain ⟨zs,h1,h2⟩:=hv
   by_cases hz:ds.length+es.length<=sizeLine
   ·rw [if_pos hz] at q
    have h2':DVs (gx X) (Ow O0 ow) H1 zs es:=h2.bO λb z=>.inl (.inl z)
    obtain ⟨R2,g2⟩:=R1.put (es:=ds++es) (ys:=xs++zs) e1 e5 (jB (e4.mono g1) h2')
    exact ⟨a,p,xs,zs,rfl,rfl,g1 _ _ e3,h1,by rw [bM e4,bM h2];exact hz,q _ _ _ R2 ((Go.refl g1).trans g2)⟩
   ·rw [if_neg hz] at q;exact q.elim
  |_=>exact q.elim
noncomputable def DR (j i:Nat):Zab:=λm=>(ofO (jL m i)).bind λo=>(ofO (o.2[o.2.length - 1]?)).bind λd=>.ok (.nx,(putL m i o.1 o.2.dropLast).set j (.fz d))
theorem uM {G:Gx}{O:Zaa}{H:Hp}{xs:List V}{ds:List D}(h:DVs G O H xs ds):DVs G O H xs.dropLast ds.dropLast:=by
 rw [List.dropLast_eq_take,List.dropLast_eq_take,bM h]
 exact By _ h
theorem Pa (j i:Nat)(hnd:X.N.Nodup)(hj:X.N[j]? = some y)(hy:Loc X.env.scope y)(hN:X.N[i]? = some x:=by rfl)(hv:Vis X.env.scope x:=by first | exact Or.inl rfl | exact Or.inr (Or.inl rfl) | exact Or.inr (Or.inr rfl))(hd:(x == ("__debug__" : Str))=false:=by decide)(hcd:(x == ("__classdict__" : Str))=false:=by decide)
  (hbase:attributeBase (.Name x np) "pop" X.env (eval (.Name x np) X.env)=eval (.Name x np) X.env:=by rfl) (hline:(apos.endLine == cpos.line)=true:=by rfl) {yp:Pos}
  (hsw:swapsWith (.Call (.Attribute (.Name x np) "pop" apos) [] [] cpos) (some (.Name y yp)) pos.line X.env=pure false:=by rfl) (hf:X.fn y=true\/X.env.scope.names.lookup y=some .local:=by first | exact .inl rfl | exact .inr rfl | assumption):
  FS X E (.Assign [.Name y yp] (.Call (.Attribute (.Name x np) "pop" apos) [] [] cpos) pos) (DR j i):=
 cL (xG hnd hj hy (JB PySem.F.plainAttrs_list PySem.F.slot_list_pop PySem.F.type_list_pop Su (jx hN hv hd hcd) hbase hline) hsw hf) λW σ H hE=>xq5 hE λO0 M0 H0 ow m R q=>by
  obtain ⟨o,ho,q⟩:=Ss.ofO q
  obtain ⟨k,ds⟩:=o
  obtain ⟨d,hd',q⟩:=Ss.ofO q
  obtain ⟨a,xs,e1,e2,e3,e4,e5⟩:=ql R.toRel ho
  obtain ⟨v,hv,dv⟩:=ud e4 hd'
  obtain ⟨R2,g2⟩:=R.put (es:=ds.dropLast) (ys:=xs.dropLast) e1 e5 (uM e4)
  have dv2:=dv.go R.mutk g2.ev
  exact ⟨_,e2,.inl ⟨rfl,xs,SqL.of e3⟩,a,xs,v,rfl,rfl,e3,by rw [bM e4];exact hv,q _ _ _ (R2.set dv2) (g2.trans Go.set)⟩
noncomputable def lU (i:Nat)(fk fv:Zae):Zab:=λm=>(fv m).bind λd=>(ofO (jL m i)).bind λo=>(fk m).bind λk=>match k with
 | .int n=>(ofO (ixN o.2.length n)).bind λj=>.ok (.nx,putL m i o.1 (o.2.set j d))
 |_=>.stuck
end
def Xs (G:Gx)(E:XK){α:Type}(O0 M0:Zaa)(H0:Hp)(ow:Os)(σ:L2.St)(H:Hp)(r:Res (α×Me))(k:α->Hp->Prop):Prop:=match r with
 | .ok (a,m')=>∀H',cZ G O0 M0 H0 ow σ H' m'->Go O0 ow H ow H'->k a H'
 | .exc c=>∀C H',G.mg c=some (.ref C)->Kp M0 H0 H'->E (.ref C) none H'
 | .stuck=>False
def tX (G:Gx)(E:XK)(f:Me->Res (D×Me)):TE:=λσ H Q=>∃O0 M0 H0 ow m,cZ G O0 M0 H0 ow σ H m/\Xs G E O0 M0 H0 ow σ H (f m) λd H'=>∀v,DV G (Ow O0 ow) H' v d->Q v H'
def tXA (G:Gx)(E:XK)(f:Me->Res (List D×Me)):TA:=λσ H Q=>∃O0 M0 H0 ow m,cZ G O0 M0 H0 ow σ H m/\Xs G E O0 M0 H0 ow σ H (f m) λds H'=>∀vs,DVs G (Ow O0 ow) H' vs ds->Q vs H'
abbrev FX (X:Cx)(E:XK)(e:Expr)(f:Me->Res (D×Me)):Prop:=PE X e (tX (gx X) E f)
abbrev FXA (X:Cx)(E:XK)(es:List Expr)(f:Me->Res (List D×Me)):Prop:=PA X es (tXA (gx X) E f)
section
variable {G:Gx}{E:XK}{O0 M0:Zaa}{H0 H H1:Hp}{ow:Os}{σ:L2.St}{m:Me}
theorem Xs.imp {α:Type}{r:Res (α×Me)}{k k':α->Hp->Prop}(h:Xs G E O0 M0 H0 ow σ H r k)(g:Go O0 ow H ow H1)(hk:∀a H' m',cZ G O0 M0 H0 ow σ H' m'->Go O0 ow H1 ow H'->r=.ok (a,m')->k a H'->k' a H'):Xs G E O0 M0 H0 ow σ H1 r k':=by
 cases r with
 |ok a=>obtain ⟨a,m'⟩:=a;exact λH' R g'=>hk a H' m' R g' rfl (h H' R (g.trans g'))
 |exc c=>exact h
 |stuck=>exact h
theorem Xs.bind {α β:Type}{r:Res (α×Me)}{f:α->Me->Res (β×Me)}{k:β->Hp->Prop}(h:Xs G E O0 M0 H0 ow σ H (r.bind λp=>f p.1 p.2) k):
  Xs G E O0 M0 H0 ow σ H r λa H'=>∀m',r=.ok (a,m')->cZ G O0 M0 H0 ow σ H' m'->Xs G E O0 M0 H0 ow σ H' (f a m') k:=by
 cases r with
 |ok a=>
  obtain ⟨a,m1⟩:=a
  intro H' R g m' e R'
  cases e
  have h:Xs G E O0 M0 H0 ow σ H (f a m1) k:=h
  cases z:f a m1 with
  |ok b=>obtain ⟨b,m2⟩:=b;rw [z] at h;exact λH2 R2 g2=>h H2 R2 (g.trans g2)
  |exc c=>rw [z] at h;exact h
  |stuck=>rw [z] at h;exact h
 |exc c=>exact h
 |stuck=>exact h
theorem Xs.pu {α β:Type}{r:Res α}{f:α->Res (β×Me)}{k:β->Hp->Prop}(R:Rel G O0 M0 H0 ow σ H m)(h:Xs G E O0 M0 H0 ow σ H (r.bind f) k):Pu G E r H λa=>Xs G E O0 M0 H0 ow σ H (f a) k:=by
 cases r with
 |ok a=>exact h
 |exc c=>exact λC H' e g=>h C H' e λb o e n=>g b o (R.keep b o e n)
 |stuck=>exact h
end
noncomputable def fX (f:Zae):Me->Res (D×Me):=λm=>(f m).bind λd=>.ok (d,m)
noncomputable def Dh:Me->Res (List D×Me):=λm=>.ok ([],m)
noncomputable def qT (fa:Me->Res (D×Me))(fs:Me->Res (List D×Me)):Me->Res (List D×Me):=λm=>(fa m).bind λp=>(fs p.2).bind λq=>.ok (p.1::q.1,q.2)
noncomputable def Cr (fs:Me->Res (List D×Me)):Me->Res (D×Me):=λm=>(fs m).bind λq=>if q.1.length<=sizeLine then .ok (.tup q.1,q.2) else .stuck
section
variable {X:Cx}{E:XK}{e:Expr}{es:List Expr}{f:Zae}{fa:Me->Res (D×Me)}{fs:Me->Res (List D×Me)}{pos:Pos}{i:Nat}{x:Str}
theorem Ym (h:FE X E e f):FX X E e (fX f):=bI h λσ H Q hE=>xq5 hE λO0 M0 H0 ow m R q=>⟨O0,M0,H0,ow,m,R.toRel,(Xs.pu R.toRel q).imp (aM.refl _) λd q v H' g hv=>q H' (R.mono g) (Go.refl g) v hv⟩
theorem MK:FXA X E [] Dh:=kO p6 λσ H Q hE=>xq5 hE λO0 M0 H0 ow m R q=>q H R (Go.refl (aM.refl _)) [] .nil
theorem vK (ha:FX X E e fa)(hr:FXA X E es fs)(hs:starEach (e::es) X.env=(false,eval e X.env)::starEach es X.env:=by rfl):FXA X E (e::es) (qT fa fs):=
 kO (jd ha hr hs) λσ H Q hE=>xq5 hE λO0 M0 H0 ow m R q=>⟨O0,M0,H0,ow,m,R,(Xs.bind (f:=λd m1=>(fs m1).bind λq=>.ok (d::q.1,q.2)) q).imp (Go.refl (aM.refl _)) λd H1 m1 R1 g1 e1 q v hv=>⟨O0,M0,H0,ow,m1,R1,?_⟩⟩
where finally
 refine (Xs.bind (f:=λds m2=>.ok (d::ds,m2)) (q m1 e1 R1)).imp (Go.refl (aM.refl _)) λds H2 m2 R2 g2 e2 q vs hvs=>?_
 exact q m2 e2 R2 H2 R2 (Go.refl (aM.refl _)) (v::vs) (.cons (hv.go R1.mutk g2.ev) hvs)
theorem Q3 {x1}(h:FXA X E es fs):FX X E (.Tuple es x1 pos) (Cr fs):=bI (MJ h) λσ H Q hE=>xq5 hE λO0 M0 H0 ow m R q=>by
 refine ⟨O0,M0,H0,ow,m,R,(Xs.bind (f:=λds m'=>if ds.length<=sizeLine then .ok (D.tup ds,m') else .stuck) q).imp (Go.refl (aM.refl _)) λds H1 m1 R1 g1 e1 q vs hv=>?_⟩
 have q:=q m1 e1 R1
 by_cases hz:ds.length<=sizeLine
 ·rw [if_pos hz] at q
  exact ⟨by rw [bM hv];exact hz,λp H' g e=>q H' (R1.mono g) (Go.refl g) _ (.tup (SqU.of e) (hv.mono g))⟩
 ·rw [if_neg hz] at q;exact q.elim
noncomputable def Nv (i:Nat)(f:Me->Res (D×Me)):Zab:=λm=>(f m).bind λp=>.ok (.nx,p.2.set i (.fz p.1))
theorem Xs.ss {G:Gx}{O0 M0:Zaa}{H0 H:Hp}{ow:Os}{σ:L2.St}{W:Ends}{r:Res (D×Me)}{k:D->Zab}(h:Ss G E O0 M0 H0 ow H W (r.bind λp=>k p.1 p.2)):
  Xs G E O0 M0 H0 ow σ H r λd H'=>∀m',r=.ok (d,m')->cZ G O0 M0 H0 ow σ H' m'->Ss G E O0 M0 H0 ow H' W (k d m'):=by
 cases r with
 |ok a=>
  obtain ⟨d,m1⟩:=a
  intro H' R g m' e R'
  cases e
  exact Ss.go h g
 |exc c=>exact h
 |stuck=>exact h
theorem W9 {pos':Pos}(hN:X.N.Nodup)(hi:X.N[i]? = some x)(hx:Loc X.env.scope x)(he:FX X E e fa)(hs:swapsWith e (some (.Name x pos')) pos.line X.env=pure false:=by rfl)
  (hf:X.fn x=true\/X.env.scope.names.lookup x=some .local:=by first | exact .inl rfl | exact .inr rfl | assumption):FS X E (.Assign [.Name x pos'] e pos) (Nv i fa):=cL (xG hN hi hx he hs hf) λW σ H hE=>xq5 hE λO0 M0 H0 ow m R q=>by
 refine ⟨O0,M0,H0,ow,m,R,(Xs.ss (k:=λd m'=>.ok (.nx,m'.set i (.fz d))) q).imp (Go.refl (aM.refl _)) λd H1 m1 R1 g1 e1 q v hv=>?_⟩
 exact q m1 e1 R1 _ _ _ (R1.set hv) Go.set
end
section
variable {P:Program}{w:World}{K:W.Frag}{mg:Zp}{base:Heap}
end
noncomputable def Sl.cap:Sl->Sl
 | .ow d=>.io d
 | .hd _ a d=>.hd false a d
 |s=>s
section
variable {G:Gx}{O0 M0:Zaa}{H0 H H':Hp}{ow:Os}{σ:L2.St}{m:Me}
end
section
variable {G:Gx}{O0 M0:Zaa}{H0 H H':Hp}{ow:Os}{σ:L2.St}{m:Me}{k:Nat}{cap:List Nat}
end
section
variable {X:Cx}{E:XK}{k:Nat}{cap:List Nat}{fi:Zad}{h:Zba}{fe:Me->Res (D×Me)}
theorem QM {O0:Zaa}{ow:Os}{l b:Addr}(z:Ow (Op O0 l) ow b):Ow O0 ow b\/b=l:=z.elim (λy=>y.elim (λw=>.inl (.inl w)) .inr) λy=>.inl (.inr y)
end
def tM (G:Gx)(E:XK)(f:Me->Res Unit):TE:=λσ H Q=>∃O0 M0 H0 ow m,Rel G O0 M0 H0 ow σ H m/\Pu G E (f m) H λ_=>∀v H',aM H H'->Q v H'
abbrev FM (X:Cx)(E:XK)(e:Expr)(f:Me->Res Unit):Prop:=PE X e (tM (gx X) E f)
section
variable {X:Cx}{E:XK}{e:Expr}{f:Zae}{fu:Me->Res Unit}{x:Str}{np cpos pos:Pos}{C:Addr}{bmB:List Value}{B newId initId:String}
end
section
variable {X:Cx}{j k:Nat}{x y:Str}{ps:List Str}{Φ:Zac}{p pos cpos pos':Pos}{e:Expr}{es:List Expr}{fs:Zad}{i:Nat}
end
theorem Rel.more {G:Gx}{O0 M0:Zaa}{H0 H H1:Hp}{ow:Os}{σ:L2.St}{m:Me}{l:Addr}(R:Rel G O0 M0 H0 ow σ H m)(g:aM H H1)(hl:H l=none)(ho:fL (H1 l)):Rel G (Op O0 l) M0 H0 ow σ H1 m:=by
 have nl:=R.Br hl
 have sub':∀b,Ow (Op O0 l) ow b->Ow O0 ow b\/H b=none:=λb z=>(QM z).elim .inl λe=>.inr (by rw [e];exact hl)
 have R':=R.mono g
 refine ⟨R.len,R'.keep,R'.m0,λb z=>?_,λi a e z=>?_,R.inj,R.out,λi s e=>?_⟩
 ·rcases QM z with z | z
  ·exact R'.mutk b z
  ·rw [z];exact ho
 ·rcases z with z | z
  ·exact R.no0 i a e z
  ·exact nl (z ▸ .inr ⟨i,e⟩)
 ·exact ((R.slot i s e).bO sub' λ_ _ b _=>Classical.em _).mono g
section
variable {X:Cx}
noncomputable def Dw:List D->Option (List Str)
 |[]=>some []
 | .str x::ds=>(Dw ds).map (x::·)
 |_::_=>none
theorem Lx {G:Gx}{O:Zaa}{H:Hp}:∀{vs:List V} {ds:List D} {zs:List Str},DVs G O H vs ds->Dw ds=some zs->vs=zs.map V.str
 |_,_,_,.nil,e=>by cases e;rfl
 |_,_,_,.cons (d:=d) h hs,e=>by
  cases d with
  |str i=>
   obtain ⟨ns,e1,rfl⟩:=omap (by simpa [Dw] using e)
   cases h
   rw [Lx hs e1]
   rfl
  |_=>cases e
noncomputable def Jf:D->List D->Option D
 | .str z,[.lst es]=>match Dw es with
  |some zs=>if JoinOk z zs=true then some (.str (Txt.join z zs)) else none
  |none=>none
 |_,_=>none
theorem R0:MtR X "str.join" (rGM (gx X) Jf):=by
 intro pins s σ H x vs v us Q I rx rv h
 obtain ⟨O,d,ds,r,m,hx,hy,hr,q⟩:=h
 match d,ds,hr with
 | .str z,[.lst es],hr=>
  cases jG hx
  obtain ⟨y,rfl,hy2⟩:=sV hy
  obtain ⟨p,xs,rfl,hp,hd⟩:=jw hy2
  have hr:(match Dw es with | some zs=>if JoinOk z zs=true then some (D.str (Txt.join z zs)) else none | none=>none)=some r:=hr
  cases e1:Dw es with
  |none=>rw [e1] at hr;cases hr
  |some zs=>
   rw [e1] at hr
   obtain ⟨ok,rfl⟩:=oif hr
   have:=Lx hd e1
   subst this
   exact X3 X.K rfl pins s σ H _ _ v us Q I rx rv ⟨z,p,zs,rfl,rfl,hp,ok,q _ _ (aM.refl _) (.str _)⟩
end
def Nk (K:W.Frag):Sp:=λvs H Q _=>∃(a:Addr) (ns:List Int),vs=[.ref a]/\SqL K H a (ns.map V.int)/\ns.length<=63/\∀H',Q (.bl true) H'
theorem Jc {G:Gx}{O:Zaa}{H:Hp}:∀ns:List Int,DVs G O H (ns.map V.int) (ns.map D.int)
 |[]=>.nil
 |n::ns=>.cons (.int n) (Jc ns)
theorem Vr {P:Program}{w:World}{K:W.Frag}{mg:Zp}{base:Heap}{CX:CXT}{k:Nat}{f:Addr}{fd:FuncData}{ps:List Str}{Φ:Zac}(h:∀ns:List Int,ns.length<=63->∃fr,Φ [.lst (ns.map D.int)]=.ok (fr,.bl true))
  (F:o7 P w K mg base CX k f fd ps (spF ⟨K,mg⟩ Φ)):o7 P w K mg base CX k f fd ps (Nk K):=F.imp λvs H Q E ⟨a,ns,e,hS,hl,q⟩=>by
 subst e
 obtain ⟨fr,e⟩:=h ns hl
 refine ⟨λ_=>False,[.lst (ns.map D.int)],λ_ z=>z.elim,.cons (.lst (hS.elim (λz=>.inl ⟨id,z⟩) .inr) (Jc ns)) .nil,?_⟩
 rw [e]
 intro v H' _ hv _
 cases hv
 exact q H'
section
variable {X:Cx}{E:XK}{e a:Expr}{f fa:Zae}{fu:Me->Res Unit}{x y:Str}{np cpos pos p py:Pos}{i:Nat}
end
section
variable {X:Cx}
noncomputable def Be:List D->Option (List Bool)
 |[]=>some []
 | .bl b::ds=>(Be ds).map (b::·)
 |_::_=>none
theorem HB {G:Gx}{O:Zaa}{H:Hp}:∀{vs:List V} {ds:List D} {bs:List Bool},DVs G O H vs ds->Be ds=some bs->vs=bs.map V.bl
 |_,_,_,.nil,e=>by cases e;rfl
 |_,_,_,.cons (d:=d) h hs,e=>by
  cases d with
  |bl b=>
   obtain ⟨bs,e1,rfl⟩:=omap (by simpa [Be] using e)
   cases h
   rw [HB hs e1]
   rfl
  |_=>cases e
noncomputable def VN:List D->Option D
 |[.lst ds]=>(Be ds).map λbs=>.bl (bs.all id)
 |_=>none
end
section
variable {X:Cx}
theorem Hq:∀{bs:List Bool} {us:List Value},Vals (bs.map V.bl) us->LSm.BoolsAre us bs
 |[],_,.nil=>.nil
 |b::bs,_,.cons r t=>by cases r;exact .cons b (Hq t)
theorem Dg (hc:X.calm=true):iW X (.builtin "all") (rGC (gx X) VN):=by
 intro pins s σ H xs us Q I r h
 obtain ⟨O,ds,d,m,hx,hr,q⟩:=h
 match ds,hr with
 |[.lst ds],hr=>
  obtain ⟨bs,e1,rfl⟩:=omap hr
  obtain ⟨v,rfl,hv⟩:=sV hx
  obtain ⟨p,xs,rfl,hp,hd⟩:=jw hv
  have:=HB hd e1
  subst this
  obtain ⟨u,rfl,rx⟩:=vals1 r
  cases rx
  obtain ⟨wa,r',pl,hz⟩:=I.list hp
  have ba:=Hq r'
  have li:=pl.isList
  have lt1:p<s.heap.objs.size:=by obtain ⟨_,e,_⟩:=li;exact Heap.lt_size e
  refine call_all_walk (wpAny_pyIter_list li ?_)
  refine ⟨s.heap.objs.size,[s.heap.objs.size,p],[s.heap.objs.size],wa.toArray.size,_,_,λi=>(bs[i]?).getD true,rfl,Walks.list (A:=X.A.in1) (I.ok.hd hc) _ p (Nat.ne_of_lt lt1) wa.toArray,
   ⟨⟨_,Heap.get?_push_size _ rfl,rfl,rfl⟩,li.push _⟩,λi v sn Qn En pv qv=>?_,λh' tk kp=>?_⟩
  ·obtain ⟨b,e,rfl⟩:=ba.get i v (by simpa using pv)
   simp only [e,Option.getD_some] at qv
   exact wpAny_truthy_bool qv
  ·have e:((List.range wa.toArray.size).all λi=>(bs[i]?).getD true)=bs.all id:=by
    rw [List.size_toArray,ba.length];exact LSm.range_all bs
   rw [e]
   exact ⟨.bl _,H,I.kept (LSm.kept_iter kp),rfl,q _ _ (aM.refl _) (.bl _)⟩
end
noncomputable def Ite (K:W.Frag)(a:Addr):It:=
 ⟨λi H=>∃xs x,SqL K H a xs/\xs[i]? = some x,λi H x H'=>∃y l,(∀xs,SqL K H a xs->xs[i]? = some y)/\x=.ref l/\H l=none/\H'=upd H l (.tup [.int i,y]),λi H=>∃xs,SqL K H a xs/\xs.length<=i⟩
theorem J8 {X:Cx}{pins:Zl}{σ:L2.St}{H:Hp}{s:Shared}{e it:Addr}{h':Heap}{oe oi:Obj}(I:Inv X pins σ H s)(fe:tU X pins H e)(fi:tU X pins H it)(hne:e≠it)
  (he:∃o,s.heap.get? e=some o) (hi:∃o,s.heap.get? it=some o) (he':h'.get? e=some oe) (hi':h'.get? it=some oi) (de:oe.isFreed=false) (di:oi.isFreed=false)
  (k:∀b o,b≠e->b≠it->s.heap.get? b=some o->h'.get? b=some o):∃h1,Inv X pins σ H { s with heap:=h1 }/\h1.objs.size=s.heap.objs.size/\∀b u,h1.get? b=some u->h'.get? b=some u:=by
 obtain ⟨o1,he⟩:=he
 obtain ⟨o2,hi⟩:=hi
 obtain ⟨f0,f1,f2,f3,f4,f5⟩:=fe
 obtain ⟨g0,g1,g2,g3,g4,g5⟩:=fi
 have I1:Inv X pins σ H { s with heap:=s.heap.update e λ_=>oe }:=I.turned (t':=s.toks) (λb o hb x=>(Heap.get?_update_other _ _ (Ne.symm hb)).trans x) f0 f1 f3 f4 f5
 have I2:Inv X pins σ H { s with heap:=(s.heap.update e λ_=>oe).update it λ_=>oi }:=I1.turned (t':=s.toks) (λb o hb x=>(Heap.get?_update_other _ _ (Ne.symm hb)).trans x) g0 g1 g3 g4 g5
 refine ⟨_,I2,?_,λb u x=>?_⟩
 ·rw [(Heap.SameBut.update _ _ _).1,(Heap.SameBut.update _ _ _).1]
 ·by_cases z:b=it
  ·subst z
   rw [Heap.get?_update_self (λ_=>oi) ((Heap.get?_update_other _ _ hne).trans hi) di] at x
   cases x
   exact hi'
  ·rw [Heap.get?_update_other _ _ (Ne.symm z)] at x
   by_cases y:b=e
   ·subst y
    rw [Heap.get?_update_self (λ_=>oe) he de] at x
    cases x
    exact he'
   ·rw [Heap.get?_update_other _ _ (Ne.symm y)] at x
    exact k b u y z x
theorem Bx {o:Obj}{vs:Array Value}(d:o.data=.fields vs):o.isFreed=false:=by
 obtain ⟨c,dd,da,sl⟩:=o
 cases (show da=.fields vs from d)
 rfl
theorem O8 {P:Program}{w:World}{K:W.Frag}{elts:List Expr}{x1}{pos:Pos}(a e it:Addr)(hne:e≠it):
  Turn P w K (.Tuple elts x1 pos) (Ite K a) [e,it] e (λi h=>(∃old,IsEnum h e it i old)/\h.IsListIter it a i) where
 mem:=by simp
 obj:=λi h st b hb=>by
  obtain ⟨⟨old,q1⟩,q2⟩:=st
  have eb:b=e\/b=it:=by simpa using hb
  rcases eb with rfl | rfl
  ·exact ⟨_,q1,λv z=>by cases (show Data.fields _=Data.cell v from z)⟩
  ·obtain ⟨o,e',c,d⟩:=q2
   exact ⟨o,e',λv z=>by rw [d] at z;cases z⟩
 keep:=λi h h' st k=>by
  obtain ⟨⟨old,q1⟩,q2⟩:=st
  exact ⟨⟨old,k e (by simp) _ q1⟩,q2.at λo x=>k it (by simp) o x⟩
 item:=by
  intro X hP hw hK hc i pins s σ H E I hf st hg
  subst hP hw hK
  obtain ⟨xs,x,hq,hx⟩:=hg
  obtain ⟨⟨old,q1⟩,q2⟩:=st
  obtain ⟨its,rv,p,hz⟩:=I.list hq
  obtain ⟨u,hu,ru⟩:=rv.get hx
  have fe:=hf e (by simp)
  have fi:=hf it (by simp)
  refine wpAny_pyNext_enum_item q1 q2 p.isList (x:=u) (by simpa using hu) hne λh' eo il ht hsz k=>?_
  obtain ⟨oi,ei,ci,di⟩:=id il
  obtain ⟨oj,ej,cj,dj⟩:=id q2
  obtain ⟨h1,I1,z1,k1⟩:=J8 I fe fi hne ⟨_,q1⟩ ⟨_,ej⟩ eo ei rfl (Bx di) k
  have I2:Inv X pins σ (upd H s.heap.objs.size (.tup [.int i,x])) { s with heap:=h',toks:=s.toks+1 }:=
   I1.laid (t':=s.toks+1) k1 (Nat.le_of_eq z1) (show dH X.prog X.w _ _ _ (.tup [.int i,x]) from ⟨(show 2<=sizeLine by decide),[.int i s.toks,u],.cons ⟨s.toks,rfl⟩ (.cons ru .nil),⟨_,ht,rfl,_,rfl⟩⟩)
  have fr:H s.heap.objs.size=none:=I.hok.fresh (Nat.le_refl _)
  have ne1:e≠s.heap.objs.size:=Nat.ne_of_lt (Heap.lt_size q1)
  have ne2:it≠s.heap.objs.size:=Nat.ne_of_lt (Heap.lt_size ej)
  have nn:∀b,b≠s.heap.objs.size->H b=none->upd H s.heap.objs.size (.tup [.int i,x]) b=none:=λb z y=>by rw [cH z];exact y
  refine ⟨_,rfl,wpAny_letOwnedTupleGo_enum eo λh2 e2 sb=>?_⟩
  obtain ⟨f0,f1,f2,f3,f4,f5⟩:=fe
  refine ⟨.ref s.heap.objs.size,_,I2.turned (t':=s.toks+1) (λb o hb y=>(sb.2 b hb).trans y) (nn e ne1 f0) f1 f3 f4 f5,rfl,⟨x,_,λys hy=>by rw [I.Hl hy hq];exact hx,rfl,fr,rfl⟩,⟨⟨_,e2⟩,il.at λo y=>(sb.2 it (Ne.symm hne)).trans y⟩,λb hb=>?_⟩
  have eb:b=e\/b=it:=by simpa using hb
  rcases eb with rfl | rfl
  ·exact nn _ ne1 f0
  ·exact nn _ ne2 fi.1
 done:=by
  intro X hP hw hK hc i pins s σ H E I hf st hg
  subst hP hw hK
  obtain ⟨xs,hq,hx⟩:=hg
  obtain ⟨⟨old,q1⟩,q2⟩:=st
  obtain ⟨its,rv,p,hz⟩:=I.list hq
  obtain ⟨f0,f1,f2,f3,f4,f5⟩:=hf it (by simp)
  have hl:=rv.length
  exact wpAny_pyNext_enum_end (I.ok.hd hc) q1 q2 p.isList (by simp;omega) λh' eb=>⟨rfl,I.turned (t':=s.toks) (λb o hb y=>eb b o hb y) f0 f1 f3 f4 f5⟩
 self:=λ_ _ _ _ _ st h=>by
  obtain ⟨⟨old,q1⟩,q2⟩:=st
  exact wpAny_pyIter_enum q1 h
section
variable {X:Cx}{tg:Expr}
def abG (K:W.Frag)(ta:TA):TI:=λσ H R=>ta σ H λvs H1=>∃p,vs=[.ref p]/\(∃xs,SqL K H1 p xs)/\R (Ite K p) H1
theorem Vf {elts:List Expr}{x1}{pt:Pos}{a:Expr}{ta:TA}{p pos:Pos}(hg:Gl X "enumerate")(hm:X.mg "enumerate" = none)(ha:PA X [a] ta)(hs:starEach [a] X.env=[(false,eval a X.env)]:=by rfl):PI X (.Tuple elts x1 pt) (.Call (.Name "enumerate" p) [a] [] pos) (abG X.K ta):=by
 intro pins s σ H R I h
 refine Call_ (o9 I hg hm boot_enumerate (PyProof.Rows.callWith_type1 (thn (ha pos pins s σ H _ I h) λus s1 hE=>xq2 hE λvs H1 I1 r1 q1=>?_) hs rfl))
 obtain ⟨l,e,⟨xs,hq⟩,q⟩:=q1
 subst e
 obtain ⟨u,rfl,rx⟩:=vals1 r1
 cases rx
 obtain ⟨its,rv,pl,hz⟩:=I1.list hq
 refine call_enumerate_list pl.isList λh' e1 e2 sz k=>?_
 have I2:Inv X pins σ H1 { s1 with heap:=h' }:=I1.kept (t':=s1.toks) k
 refine wpAny_pyIter_enum (s:={ s1 with heap:=h' }) e1 ?_
 refine ⟨_,[s1.heap.objs.size+1,s1.heap.objs.size],_,_,H1,rfl,I2,O8 l _ _ (Nat.succ_ne_self _),⟨⟨_,e1⟩,e2⟩,λb hb=>?_,q⟩
 have eb:b=s1.heap.objs.size+1\/b=s1.heap.objs.size:=by simpa using hb
 have hb':s1.heap.objs.size<=b:=eb.elim (λz=>by rw [z];exact Nat.le_succ _) λz=>Nat.le_of_eq z.symm
 exact I1.O9 hb' (I1.hok.fresh hb')
noncomputable def zR (ds:List D):List D:=ds.mapIdx λi d=>.tup [.int i,d]
theorem Cj (ds:List D):(zR ds).length=ds.length:=by simp [zR]
theorem Wa {G:Gx}{H:Hp}{a:Addr}{ds:List D}{P:(Zaa)->Hp->Prop}(h:∀O' H2,P O' H2->∃xs,SqL G.K H2 a xs/\DVs G O' H2 xs ds):yu G (Ite G.K a) (zR ds) P:=by
 intro O' H2 ev
 obtain ⟨xs,hq,hd⟩:=h O' H2 ev
 have hlen:=bM hd
 refine ⟨λi hi=>⟨xs,xs[i]'(by rw [Cj] at hi;omega),hq,by simp⟩,λi x H' hi y=>?_,xs,hq,by rw [Cj];omega⟩
 obtain ⟨y,l,h1,rfl,fr,rfl⟩:=y
 obtain ⟨d,e1,e2⟩:=qb hd (h1 xs hq)
 exact ⟨bz fr _,.tup [.int i,d],by simp [zR,List.getElem?_mapIdx,e1],.tup (SqU.of aW) (.cons (.int _) (.cons (e2.mono (bz fr _)) .nil))⟩
noncomputable def YM (f:Zad):Zad:=λm=>(f m).bind λd=>match d with
 |[.lst ds]=>.ok (zR ds)
 |_=>.stuck
theorem RX {E:XK}{fs:Zad}{elts:List Expr}{x1}{pt:Pos}{a:Expr}{p pos:Pos}(hg:Gl X "enumerate")(hm:X.mg "enumerate" = none)(ha:FAB X E [a] fs)(hs:starEach [a] X.env=[(false,eval a X.env)]:=by rfl):FIw X E (.Tuple elts x1 pt) (.Call (.Name "enumerate" p) [a] [] pos) (YM fs):=
 mH (Vf hg hm ha hs) λσ H R hE=>xq5 hE λO0 M0 H0 ow m Re q=>⟨O0,M0,H0,ow,m,Re,q.bind.imp (aM.refl _) λds q vs H' g hv=>by
  have z:∃xs,ds=[.lst xs]:=by
   cases ds with
   |nil=>exact q.elim
   |cons d ds=>cases d with
    |lst xs=>cases ds with
     |nil=>exact ⟨xs,rfl⟩
     |cons _ _=>exact q.elim
    |_=>exact q.elim
  obtain ⟨ds,rfl⟩:=z
  cases hv with
  |cons h1 h2=>
   cases h2
   obtain ⟨l,xs,rfl,hl,hd⟩:=jw h1
   exact ⟨_,rfl,⟨_,hl⟩,q _ H' g (Wa (H:=H') λO' H2 ⟨sub,g2⟩=>⟨_,Jd hl g2,hd.go (Re.mono g).mutk ⟨sub,.of g2⟩⟩)⟩⟩
end
theorem Sx:typeLookup (.type "list_reverseiterator") "__len__" = pure none:=by rw [typeLookup_type,builtinLookup_eq_fast];kernel_rfl
theorem Xg:typeLookup (.type "list_reverseiterator") "__length_hint__" = pure (some (.builtin "list_reverseiterator.__length_hint__")):=by rw [typeLookup_type,builtinLookup_eq_fast];kernel_rfl
section
variable {pr:Program}{wo:World}{A:Around}{s:Shared}{R:Result->Shared->Prop}
variable {St:Nat->Shared->Prop}{P:Nat->Value->Prop}{n:Nat}{I:Addr}{fp wr:List Addr}{G:Array GenState->Array GenState->Prop}
theorem W5 (W:WalksS pr wo A.in1 I fp wr G n P St)(ty:∀i s,St i s->s.TypeIs (.ref I) "list_reverseiterator")(S:Addr)(res:Value)(c:Nat)(st:St 0 s)(nf:S∉fp)(mi:I∈fp)
  (oS:s.heap.get? S=some { cls:=.type "list",data:=.seq #[] c })
  (fin:∀s' ac c',Moved (S::wr) G s s'->s'.heap.get? S=some { cls:=.type "list",dict:=none,data:=.seq ac c',slots:=#[] }->ItemsOf P ac n->R (.ok (.ret res)) s') (hn:n<=sizeLine):
  wpAny (model pr wo) A.in1 (Builtin.List.listExtendWith (.ref S) (.ref I) res)
   (λf t=>match f with | .done f=>R (.ok f) t | .again c'=>c'.quiet=true/\codeAny (model pr wo) A c' R t) (λe t=>R (.error e) t) s:=by
 have ne:S≠I:=λe=>nf (e ▸ mi)
 have sr:Builtin.List.listSameRef (.ref S) (.ref I)=false:=by simp [Builtin.List.listSameRef,ne]
 unfold Builtin.List.listExtendWith;refine wpAny_bind (wpAny_typeOf (ty 0 _ st) ?_)
 rw [if_neg (by rw [sr];decide)]
 refine wpAny_bind (W.self 0 _ _ _ st (wpAny_bind (wpAny_holding ?_)))
 unfold Builtin.List.listLengthHint;refine wpAny_bind (wpAny_specialOf (ty 0 _ st) Sx ?_)
 show wpAny (model pr wo) A.in1 (specialOf (Value.ref I) (Str.ofString "__length_hint__") >>= _) _ _ _
 refine wpAny_bind (wpAny_specialOf (ty 0 _ st) Xg ?_)
 generalize hid:("list_reverseiterator.__length_hint__" : String)=id0
 wp_delta
 rw [show splitId id0=some ("list_reverseiterator", "__length_hint__") from by subst hid;decide +kernel]
 subst hid
 refine wpAny_bind (wpAny_isInstance (b:=true) (ty 0 _ st) (by rw [isSubtype_type];kernel_rfl) (wpAny_pure ?_))
 rw [if_neg (by decide)]
 exact wpAny_pure ⟨plainId_quiet F.plain_extend_loop _,codeAny_extend_loopS W hn _ nf _ n 0 _ _ _ rfl (Nat.zero_le _) st oS (ItemsOf.nil P) fin⟩
end
section
variable {pr:Program}{wo:World}{A:Around}{E:Zs}{s:Shared}
theorem Qh {items:Array Value}{ac:Array Value}(h:ItemsOf (λi v=>items[items.size - 1-i]? = some v) ac items.size):ac=items.reverse:=by
 obtain ⟨z,h⟩:=h
 refine Array.ext (by simp [z]) λi h1 h2=>?_
 have:=h i ac[i] (by simp)
 rw [Array.getElem_reverse]
 obtain ⟨_,e⟩:=Array.getElem?_eq_some_iff.mp this
 exact e.symm
theorem BV {I l:Addr}{items:Array Value}{Q:Zs}(hh:A.handled=none)(li:s.heap.IsList l items)(ri:s.heap.IsRevIter I l ((items.size:Int) - 1))(ne:l≠I)(hn:items.size<=sizeLine)
  (fin:∀t tk c,(∀b o,b≠I->s.heap.get? b=some o->t.get? b=some o)->t.get? s.heap.objs.size=some { cls:=.type "list",dict:=none,data:=.seq items.reverse c,slots:=#[] }->Q (.ref s.heap.objs.size) { s with heap:=t,toks:=tk }):
  wpAny (model pr wo) A (call (.type "list") [.ref I]) Q E s:=by
 obtain ⟨oi,ei,ci,di⟩:=id ri
 obtain ⟨ol,el,cl⟩:=id li
 have ltI:I<s.heap.objs.size:=Heap.lt_size ei
 have ltl:l<s.heap.objs.size:=Heap.lt_size el
 have nf:s.heap.objs.size∉[I,l]:=λhm=>by
  rcases List.mem_cons.mp hm with z | z
  ·exact Nat.ne_of_gt ltI z
  ·exact Nat.ne_of_gt ltl (List.mem_singleton.mp z)
 have W:=(Walks.listRev (prog:=pr) (w:=wo) (A:=A.in1.in1) hh I l ne items).toS
 refine callType_codes (Q₁:=λo t=>o=.ref s.heap.objs.size/\t={ s with heap:=s.heap.push { cls:=.type "list",data:=.seq #[] } }) F.called_list (F.typeCall_list_1 _) F.entry_list_init (code_list_new _ ⟨rfl,rfl⟩) λo t ht=>?_
 obtain ⟨rfl,rfl⟩:=ht
 have oS:(s.heap.push { cls:=.type "list",data:=.seq #[] }).get? s.heap.objs.size=some { cls:=.type "list",data:=.seq #[] }:=Heap.get?_push_size _ rfl
 refine ⟨⟨_,oS,rfl⟩,F.args_list_init_2 _ _,?_⟩
 show wpAny (model pr wo) A.in1.in1 (do let old ← Builtin.List.listItems (.ref s.heap.objs.size);Builtin.List.listUpdate (.ref s.heap.objs.size) (λ_=>#[]);letGo old.toList.reverse;Builtin.List.listExtendWith (.ref s.heap.objs.size) (.ref I) .none) _ _ _
 refine wpAny_bind ?_
 unfold Builtin.List.listItems
 refine wpAny_bind (wpAny_seqItems oS rfl (wpAny_pure ?_))
 refine wpAny_bind (m:=updateSeq s.heap.objs.size (λ_=>#[])) (wpAny_updateSeq oS rfl ?_)
 have oS2:=Heap.get?_update_self (Obj.mapSeq (λ_=>(#[]:Array Value))) oS rfl
 refine wpAny_bind (wpAny_letGo ?_)
 have kp:∀b o,b≠s.heap.objs.size->s.heap.get? b=some o->((s.heap.push { cls:=.type "list",data:=.seq #[] }).update s.heap.objs.size (Obj.mapSeq (λ_=>(#[]:Array Value)))).get? b=some o:=
  λb o hb e=>(Heap.get?_update_other _ _ (Ne.symm hb)).trans (Heap.get?_push_of_some _ e)
 have st0:(0:Nat)<=items.size/\s.heap.IsRevIter I l ((items.size:Int) - 1-((0:Nat):Int))/\s.heap.IsList l items:=⟨Nat.zero_le _,by simpa using ri,li⟩
 refine W5 W (λi t x=>x.2.1.typeIs) _ .none _ ⟨st0.1,st0.2.1.at λo e=>kp I o (Nat.ne_of_lt ltI) e,st0.2.2.at λo e=>kp l o (Nat.ne_of_lt ltl) e⟩ nf (by simp) oS2 (λt ac c mv oS3 it=>?_) hn
 refine ⟨rfl,?_⟩
 rw [Moved.eq_with mv]
 rw [Qh it] at oS3
 exact fin _ _ c (λb o hb e=>mv.heap b o (λhm=>by
  rcases List.mem_cons.mp hm with z | hm
  ·exact Nat.lt_irrefl _ (z ▸ Heap.lt_size e)
  ·exact hb (List.mem_singleton.mp hm)) (kp b o (Nat.ne_of_lt (Heap.lt_size e)) e)) oS3
end
section
variable {X:Cx}
theorem qu:bootBuiltins "list" = some (.type "list"):=by decide +kernel
theorem ZS:bootBuiltins "reversed" = some (.type "reversed"):=by decide +kernel
def abH (K:W.Frag):List V->Hp->VK->Prop:=λxs H Q=>∃p ys,xs=[.ref p]/\SqL K H p ys/\∀l,H l=none->Q (.ref l) (upd H l (.lst ys.reverse))
theorem Vy {e:Expr}{p p' pos pos':Pos}{ta:TA}(hc:X.calm=true)(hg:Gl X "list")(hm:X.mg "list" = none)(hg':Gl X "reversed")(hm':X.mg "reversed" = none)(ha:PA X [e] ta)
  (hs:starEach [e] X.env=[(false,eval e X.env)]:=by rfl) (hs':starEach [.Call (.Name "reversed" p') [e] [] pos'] X.env=[(false,eval (.Call (.Name "reversed" p') [e] [] pos') X.env)]:=by rfl):
  PE X (.Call (.Name "list" p) [.Call (.Name "reversed" p') [e] [] pos'] [] pos) (tCB (abH X.K) ta):=by
 intro pins s σ H Q I h
 refine wpAny_Call_Name_kw (o9 I hg hm qu (PyProof.Rows.callWith_type1 ?_ hs' rfl))
 rw [hs']
 refine Calls.spliced_cons (wpAny_Call_Name_kw (o9 I hg' hm' ZS (PyProof.Rows.callWith_type1 (thn (ha pos' pins s σ H _ I h) λus s1 hE=>xq2 hE λvs H1 I1 r1 q1=>?_) hs rfl)))
 obtain ⟨l,ys,rfl,hq,q⟩:=q1
 obtain ⟨u,rfl,rx⟩:=vals1 r1
 cases rx
 obtain ⟨its,rv,pl,hz⟩:=I1.list hq
 have hlen:=rv.length
 refine call_reversed_list pl.isList (Calls.spliced_nil ?_)
 have el:l<s1.heap.objs.size:=by obtain ⟨_,e,_⟩:=pl.isList;exact Heap.lt_size e
 refine BV (s:={ s1 with heap:=s1.heap.push (revObj l ((its.toArray.size:Int) - 1)) }) (I1.ok.hd hc) (pl.isList.push _) ⟨_,Heap.get?_push_size _ rfl,rfl,rfl⟩ (Nat.ne_of_lt el) (by simp only [List.size_toArray]<;>omega) λt tk c kp oS=>?_
 have sz:s1.heap.objs.size<=(s1.heap.push (revObj l ((its.toArray.size:Int) - 1))).objs.size:=by rw [Heap.size_push];exact Nat.le_succ _
 refine ⟨.ref _,_,I1.laid (t':=tk) (λb o e=>kp b o (Nat.ne_of_lt (Heap.lt_size e)) (Heap.get?_push_of_some _ e)) sz (show dH X.prog X.w _ t _ (.lst ys.reverse) from ⟨by simp;omega,its.reverse,c,rv.reverse,by simpa using oS⟩),rfl,q _ (I1.hok.fresh sz)⟩
noncomputable def QS:List D->Option D
 |[.lst ds]=>some (.lst ds.reverse)
 |_=>none
theorem Xm {E:XK}{e:Expr}{p p' pos pos':Pos}{fs:Zad}(hc:X.calm=true)(hg:Gl X "list")(hm:X.mg "list" = none)(hg':Gl X "reversed")(hm':X.mg "reversed" = none)(ha:FAB X E [e] fs)
  (hs:starEach [e] X.env=[(false,eval e X.env)]:=by rfl) (hs':starEach [.Call (.Name "reversed" p') [e] [] pos'] X.env=[(false,eval (.Call (.Name "reversed" p') [e] [] pos') X.env)]:=by rfl):
  FN X E (.Call (.Name "list" p) [.Call (.Name "reversed" p') [e] [] pos'] [] pos) (aU QS fs):=
 bI (Vy hc hg hm hg' hm' ha hs hs') λσ H Q h=>by
  obtain ⟨O0,M0,H0,ow,m,R,q⟩:=h
  refine ⟨O0,M0,H0,ow,m,R,q.bind.imp (aM.refl _) λds q vs H1 g1 hv=>?_⟩
  obtain ⟨r,hr,k⟩:=q.ofO
  match ds,hr with
  |[.lst ds],hr=>
   cases hr
   obtain ⟨v,rfl,hw⟩:=sV hv
   obtain ⟨l,xs,rfl,hp,hd⟩:=jw hw
   exact ⟨l,xs,rfl,hp,λb hb=>k b _ (g1.trans (bz hb _)) (g1.free hb) ⟨_,aW,((LQ hd).bO λc z=>z.elim .inl λe=>.inr (by rw [e];exact hb)).mono (bz hb _)⟩⟩
end
section
variable {X:Cx}{tg:Expr}
end
theorem ints_of:∀{ns:List Int} {us:List Value},Vals (ns.map V.int) us->∃xs:Array (Int×Tok),us.toArray=intItems xs/\xs.toList.map (·.1)=ns
 |[],_,.nil=>⟨#[],by simp [intItems],rfl⟩
 |n::ns,_,.cons r t=>by
  obtain ⟨xs,e1,e2⟩:=ints_of t
  obtain ⟨k,rfl⟩:=r
  refine ⟨#[(n,k)]++xs,?_,by simp [e2]⟩
  have e3:=congrArg Array.toList e1
  apply Array.toList_inj.mp
  simp [intItems] at e3 ⊢
  exact e3
noncomputable def JT:List D->Option D
 |[.lst ds]=>(zX ds).map λns=>.int ns.sum
 |_=>none
section
variable {X:Cx}
theorem wK (hc:X.calm=true):iW X (.builtin "sum") (rGC (gx X) JT):=by
 intro pins s σ H xs us Q I r h
 obtain ⟨O,ds,d,m,hx,hr,q⟩:=h
 match ds,hr with
 |[.lst ds],hr=>
  obtain ⟨ns,e1,rfl⟩:=omap hr
  obtain ⟨v,rfl,hv⟩:=sV hx
  obtain ⟨p,xs,rfl,hp,hd⟩:=jw hv
  have:=yM hd e1
  subst this
  obtain ⟨u,rfl,rx⟩:=vals1 r
  cases rx
  obtain ⟨its,r',pl,hz⟩:=I.list hp
  obtain ⟨ys,e2,e3⟩:=ints_of r'
  refine sum_intListG (I.ok.hd hc) (xs:=ys) (e2 ▸ pl.isList) λh' tk t' kp=>?_
  have e4:preSum (numAt ys) ys.size=ns.sum:=by rw [preSum_eq,List.take_of_length_le (by simp),e3]
  rw [e4]
  exact ⟨.int _,H,I.kept kp,⟨t',rfl⟩,q _ _ (aM.refl _) (.int _)⟩
end
theorem xn {G:Gx}{O:Zaa}{H:Hp}{v:V}{d:D}(h:DV G O H v d):∀{vs:List V} {ds:List D} (j:Nat),DVs G O H vs ds->DVs G O H (vs.set j v) (ds.set j d)
 |_,_,_,.nil=>.nil
 |_,_,0,.cons _ t=>.cons h t
 |_,_,j+1,.cons a t=>.cons a (xn h j t)
section
variable {X:Cx}{E:XK}{e ke:Expr}{f fk:Zae}{pos spos np:Pos}{x:Str}
theorem zx (i:Nat)(he:FE X E e f)(hk:FE X E ke fk)(hN:X.N[i]? = some x:=by rfl)(hv:Vis X.env.scope x:=by first | exact Or.inl rfl | exact Or.inr (Or.inl rfl) | exact Or.inr (Or.inr rfl))(hd:(x == ("__debug__" : Str))=false:=by decide)(hcd:(x == ("__classdict__" : Str))=false:=by decide)
  (ha:∀v,assign (.Subscript (.Name x np) ke spos) X.env v=(do
   let ov ← holding [v] (eval (.Name x np) X.env)
   let iv ← holding [v,ov] (eval ke X.env)
   standAt spos
   holding [v,ov,iv] (setItem ov iv v)
   release [v,ov,iv] []):=by intro _;rfl)
  (hs:swapsWithSole [.Subscript (.Name x np) ke spos] e pos.line X.env=pure false:=by rfl) (hw:swappedStores [.Subscript (.Name x np) ke spos] e X.env=pure none:=by rfl)
  (h1:(assignEach [.Subscript (.Name x np) ke spos] X.env).map (·.2)=[assign (.Subscript (.Name x np) ke spos) X.env]:=by rfl):FS X E (.Assign [.Subscript (.Name x np) ke spos] e pos) (lU i fk f):=
 cL (Gu he (Tg (jx hN hv hd hcd) hk set_list ha) hs hw h1) λW σ H hE=>xq5 hE λO0 M0 H0 ow m R q=>
  ⟨O0,M0,H0,ow,m,R.toRel,(Ss.pu R.toRel q).imp (aM.refl _) λd q v H1 g1 hv=>by
   obtain ⟨o,ho,q⟩:=Ss.ofO q
   obtain ⟨k,ds⟩:=o
   have R1:=R.mono g1
   obtain ⟨a,xs,e1,e2,e3,e4,e5⟩:=ql R1.toRel ho
   refine ⟨_,e2,O0,M0,H0,ow,m,R1.toRel,(Ss.pu R1.toRel (q.go (Go.refl g1))).imp (aM.refl _) λdk q vk H2 g2 hvk=>?_⟩
   cases dk with
   |int n=>
    cases hvk
    obtain ⟨j,hj,q⟩:=Ss.ofO q
    have R2:=R1.mono g2
    obtain ⟨R3,g3⟩:=R2.put (es:=ds.set j d) (ys:=xs.set j v) e1 e5 (xn (hv.mono g2) j (e4.mono g2))
    exact ⟨a,xs,n,j,rfl,rfl,g2 _ _ e3,by rw [bM e4];exact hj,q _ _ _ R3 ((Go.refl g2).trans g3)⟩
   |_=>exact q.elim⟩
end
noncomputable def m6:D->Option Key
 | .int i=>some (.inl i)
 | .str z=>some (.inr z)
 |_=>none
noncomputable def qN:List Key->List D->Key->Option D
 |k'::ks,d::ds,k=>if k'=k then some d else qN ks ds k
 |_,_,_=>none
noncomputable def xO:List Key->List D->Key->D->List D
 |k'::ks,d'::ds,k,d=>(if k'=k then d else d')::xO ks ds k d
 |_,_,_,_=>[]
noncomputable def putD (ks:List Key)(ds:List D)(k:Key)(d:D):List Key×List D:=if ks.any (λx=>decide (x=k))=true then (ks,xO ks ds k d) else (ks++[k],ds++[d])
theorem Bd {G:Gx}{O:Zaa}{H:Hp}{v:V}{d:D}{k:Key}(h:DW G O H v d)(e:m6 d=some k):v=kV k:=by
 cases d with
 |int i=>cases e;cases cI h;rfl
 |str z=>cases e;cases jG h;rfl
 |_=>cases e
theorem DN {G:Gx}{O:Zaa}{H:Hp}{k:Key}:∀{kvs:List (Key×V)} {ds:List D},DVs G O H (kvs.map (·.2)) ds->
  (∃v d,nH kvs k=some v/\qN (kvs.map (·.1)) ds k=some d/\DV G O H v d)\/(nH kvs k=none/\qN (kvs.map (·.1)) ds k=none)
 |[],_,.nil=>.inr ⟨rfl,rfl⟩
 |(k',v)::kvs,_,.cons (d:=d) h hs=>by
  by_cases q:k'=k
  ·exact .inl ⟨v,d,rF q,by simp [qN,q],h⟩
  ·rw [rN (p:=(k',v)) q]
   simp only [List.map_cons,qN,if_neg q]
   exact DN hs
section
variable {X:Cx}{E:XK}
noncomputable def cg:D->D->Option D
 | .dct ks ds,k=>(m6 k).bind (qN ks ds)
 |_,_=>none
noncomputable def Wb:D->D->Option Bool
 |k,.dct ks ds=>(m6 k).map λk=>(qN ks ds k).isSome
 |_,_=>none
theorem iV {j:Nat}{A:Around}(r:gR j A):A.units+16<cLine:=by have:=r.un;omega
theorem Y0 {j:Nat}(hr:gR j X.A):OpR X (compareOp .In) (rGB (gx X) Wb):=by
 intro pins s σ H x y v u Q I rx ry h
 obtain ⟨O,d,e,r,m,hx,hy,e1,q⟩:=h
 match d,e,e1 with
 |d,.dct ks ds,e1=>
  obtain ⟨k,e2,rfl⟩:=omap e1
  obtain ⟨p,kvs,ws,rfl,hp,rfl,rfl,hd⟩:=zL hy
  cases Bd hx e2
  cases ry
  have fin:(nH kvs k).isSome=(qN (kvs.map (·.1)) ds k).isSome:=by
   rcases DN (k:=k) hd with ⟨_,_,a,b,_⟩ | ⟨a,b⟩<;>simp [a,b]
  refine acD (iV hr) I (Ae.k (k:=k) hp) rx λs' I'=>⟨.bl _,H,I',rfl,?_⟩
  rw [fin]
  exact q
variable {a b:Expr}{fa fb:Zae}{pos:Pos}
theorem eG {j:Nat}(hr:gR j X.A)(ha:FB X E a fa)(hb:FB X E b fb)(hs:Xz b):FE X E (.Subscript a b pos) (aA cg fa fb):=
 bI (Mm (iV hr) ha hb hs) λσ H Q hE=>xq5 hE λO0 M0 H0 ow m R q=>two (r:=λx y H Q=>∃a v,x=.ref a/\Ae X.K H a y (some v)/\Q v H) R (K:=λz H=>∀v H',aM H H'->DV (gx X) (Ow O0 ow) H' v z->Q v H') q (λ_ _ k g v H' g' d=>k v H' (g.trans g') d) λx y d e H' g hx hy q' R'=>by
  obtain ⟨r,hr,k⟩:=q'.ofO
  match d,hr with
  | .dct ks ds,hr=>
   obtain ⟨p,kvs,ws,rfl,hp,rfl,rfl,hd⟩:=zL hx
   obtain ⟨ky,e2,e3⟩:=Option.bind_eq_some_iff.mp hr
   cases Bd hy e2
   rcases DN (k:=ky) hd with ⟨v,d,a,b,c⟩ | ⟨a,b⟩
   ·rw [b] at e3
    cases e3
    exact ⟨p,v,rfl,a ▸ Ae.k hp,k _ _ (aM.refl _) c⟩
   ·rw [b] at e3;cases e3
noncomputable def vo:Zae:=λ_=>.ok (.dct [] [])
theorem GC:FN X E (.Dict [] [] pos) vo:=bI Rb λσ H Q ⟨O0,M0,H0,ow,m,R,q⟩ p hp=>q p _ (bz hp _) hp ⟨[],[],aW,rfl,rfl,.nil⟩
end
theorem Dl (k:Key)(v:V):∀kvs:List (Key×V),(kvs.map λkv=>if kv.1=k then (kv.1,v) else kv).map (·.1)=kvs.map (·.1)
 |[]=>rfl
 |p::kvs=>by
  rw [List.map_cons,List.map_cons,List.map_cons,Dl k v kvs]
  split<;>rfl
theorem xu {G:Gx}{O:Zaa}{H:Hp}{k:Key}{v:V}{d:D}(h:DV G O H v d):∀{kvs:List (Key×V)} {ds:List D},DVs G O H (kvs.map (·.2)) ds->DVs G O H ((kvs.map λkv=>if kv.1=k then (kv.1,v) else kv).map (·.2)) (xO (kvs.map (·.1)) ds k d)
 |[],_,.nil=>.nil
 |(k',v')::kvs,_,.cons h1 hs=>by
  simp only [List.map_cons,xO]
  split
  ·exact .cons h (xu h hs)
  ·exact .cons h1 (xu h hs)
theorem Gi {G:Gx}{O:Zaa}{H:Hp}{k:Key}{v:V}{d:D}{kvs:List (Key×V)}{ds:List D}(h:DV G O H v d)(hs:DVs G O H (kvs.map (·.2)) ds):
  (putK kvs k v).map (·.1)=(putD (kvs.map (·.1)) ds k d).1/\DVs G O H ((putK kvs k v).map (·.2)) (putD (kvs.map (·.1)) ds k d).2:=by
 have e:(kvs.any λkv=>decide (kv.1=k))=(kvs.map (·.1)).any λx=>decide (x=k):=by rw [List.any_map];rfl
 unfold putK putD
 rw [e]
 split
 ·exact ⟨Dl k v kvs,xu h hs⟩
 ·exact ⟨by simp,by rw [List.map_append];exact jB hs (.cons h .nil)⟩
noncomputable def BR (m:Me)(i:Nat):Option (Bool×List Key×List D):=match m[i]? with
 |some (.ow (.dct ks ds))=>some (true,ks,ds)
 |some (.io (.dct ks ds))=>some (false,ks,ds)
 |_=>none
noncomputable def Dy (m:Me)(i:Nat)(k:Bool)(ks:List Key)(ds:List D):Me:=m.set i (if k then .ow (.dct ks ds) else .io (.dct ks ds))
section
variable {G:Gx}{O0 M0:Zaa}{H0:Hp}{ow:Os}{σ:L2.St}{H:Hp}{m:Me}
theorem Xx (R:Rel G O0 M0 H0 ow σ H m){i:Nat}{k:Bool}{ks:List Key}{ds:List D}(e:BR m i=some (k,ks,ds)):∃a kvs,ow i=some a/\σ[i]? = some (some (.ref a))/\H a=some (.dK kvs)/\kvs.map (·.1)=ks/\DVs G (Ow O0 ow) H (kvs.map (·.2)) ds/\((m[i]? = some (.ow (.dct ks ds))/\k=true)\/(m[i]? = some (.io (.dct ks ds))/\k=false)):=by
 unfold BR at e
 split at e
 ·rename_i q
  cases e
  obtain ⟨a,e1,e2,e3,kvs,vs,e4,e5,rfl,e6⟩:=R.slot i _ q
  exact ⟨a,kvs,e1,e3,e4,e5,e6,.inl ⟨q,rfl⟩⟩
 ·rename_i q
  cases e
  obtain ⟨a,e1,e2,e3,kvs,vs,e4,e5,rfl,e6⟩:=R.slot i _ q
  exact ⟨a,kvs,e1,e3,e4,e5,e6,.inr ⟨q,rfl⟩⟩
 ·cases e
theorem cZ.Dy {i:Nat}{k:Bool}{a:Addr}{ks ls:List Key}{ds es:List D}{kvs:List (Key×V)}(R:cZ G O0 M0 H0 ow σ H m)(ho:ow i=some a)(hm:(m[i]? = some (.ow (.dct ks ds))/\k=true)\/(m[i]? = some (.io (.dct ks ds))/\k=false))
  (hk:kvs.map (·.1)=ls) (hd:DVs G (Ow O0 ow) H (kvs.map (·.2)) es):cZ G O0 M0 H0 ow σ (L2.upd H a (.dK kvs)) (F.Dy m i k ls es)/\Go O0 ow H ow (L2.upd H a (.dK kvs)):=by
 have oa:Ow O0 ow a:=.inr ⟨i,ho⟩
 have kp:Kp (Ow O0 ow) H (L2.upd H a (.dK kvs)):=λb u e n=>m8 b u e λz=>n (z ▸ oa)
 have ov:OV G (Ow O0 ow) (L2.upd H a (.dK kvs)) a (.dct ls es):=⟨kvs,_,L2.aW,hk,rfl,hd.kp R.mutk kp⟩
 refine ⟨R.chg (d:=.dct ks ds) (d':=.dct ls es) ho m8 ov ?_,Go.chg ho m8 ov⟩
 rcases hm with ⟨e,rfl⟩ | ⟨e,rfl⟩
 ·exact .inl ⟨e,rfl⟩
 ·exact .inr ⟨e,rfl⟩
end
noncomputable def iM (i:Nat)(fk fv:Zae):Zab:=λm=>(fv m).bind λd=>(ofO (BR m i)).bind λo=>(fk m).bind λk=>(ofO (m6 k)).bind λk=>
 if o.2.1.length<sizeLine then .ok (.nx,Dy m i o.1 (putD o.2.1 o.2.2 k d).1 (putD o.2.1 o.2.2 k d).2) else .stuck
section
variable {X:Cx}{E:XK}{e ke:Expr}{f fk:Zae}{pos spos np:Pos}{x:Str}
theorem sI {jj:Nat}(i:Nat)(hr:gR jj X.A)(he:FE X E e f)(hk:FE X E ke fk)(hN:X.N[i]? = some x:=by rfl)(hv:Vis X.env.scope x:=by first | exact Or.inl rfl | exact Or.inr (Or.inl rfl) | exact Or.inr (Or.inr rfl))(hd:(x == ("__debug__" : Str))=false:=by decide)(hcd:(x == ("__classdict__" : Str))=false:=by decide)
  (hs:swapsWith e (some (.Subscript (.Name x np) ke spos)) pos.line X.env=pure false:=by rfl):FS X E (.Assign [.Subscript (.Name x np) ke spos] e pos) (iM i fk f):=
 cL (yI (iV hr) (jx hN hv hd hcd) hk he hs) λW σ H hE=>xq5 hE λO0 M0 H0 ow m R q=>
  ⟨O0,M0,H0,ow,m,R.toRel,(Ss.pu R.toRel q).imp (aM.refl _) λd q v H1 g1 hv=>by
   obtain ⟨o,ho,q⟩:=Ss.ofO q
   obtain ⟨k,ks,ds⟩:=o
   have R1:=R.mono g1
   obtain ⟨a,kvs,e1,e2,e3,e4,e5,e6⟩:=Xx R1.toRel ho
   refine ⟨_,e2,O0,M0,H0,ow,m,R1.toRel,(Ss.pu R1.toRel (q.go (Go.refl g1))).imp (aM.refl _) λdk q vk H2 g2 hvk=>?_⟩
   obtain ⟨ky,h1,q⟩:=Ss.ofO q
   cases Bd (.inl hvk) h1
   by_cases hz:ks.length<sizeLine
   ·rw [if_pos hz] at q
    have R2:=R1.mono g2
    obtain ⟨p1,p2⟩:=Gi (k:=ky) (hv.mono g2) (e5.mono g2)
    rw [e4] at p1 p2
    obtain ⟨R3,g3⟩:=R2.Dy e1 e6 p1 p2
    exact ⟨a,_,rfl,BJ.k (g2 _ _ e3) (by rw [← List.length_map (f:=(·.1)),e4];exact hz),q _ _ _ R3 ((Go.refl g2).trans g3)⟩
   ·rw [if_neg hz] at q;exact q.elim⟩
end
section
variable {X:Cx}{E:XK}{e v₁ v₂:Expr}{es:List Expr}{f:Zae}{pos:Pos}
end
noncomputable def ac0:List D->Option D
 |[.int i,.int j]=>some (.int (if j<i then j else i))
 |_=>none
section
variable {X:Cx}
noncomputable def Vb:List D->Option D
 |[.bl b]=>some (.int (if b then 1 else 0))
 |[.str x]=>if x.length<=640 then (PySem.intText? x).map D.int else none
 |_=>none
theorem Qd:iW X (.type "int") (rGC (gx X) Vb):=by
 intro pins s σ H xs us Q I r h
 obtain ⟨O,ds,d,m,hx,hr,q⟩:=h
 match ds,hr with
 |[.bl b],hr=>
  cases hr
  obtain ⟨v,rfl,hv⟩:=sV hx
  have e:v=.bl b:=by
   rcases hv with hv | ⟨_,_,_,z⟩
   ·cases hv;rfl
   ·exact z.elim
  subst e
  obtain ⟨u,rfl,rx⟩:=vals1 r
  cases rx
  exact call_int_bool ⟨.int _,H,I.tok _,⟨_,rfl⟩,q _ _ (aM.refl _) (.int _)⟩
 |[.str x],hr=>
  obtain ⟨v,rfl,hv⟩:=sV hx
  cases jG hv
  have hr:(if x.length<=640 then (PySem.intText? x).map D.int else none)=some d:=hr
  by_cases hl:x.length<=640
  ·rw [if_pos hl] at hr
   obtain ⟨n,hn,rfl⟩:=omap hr
   obtain ⟨u,rfl,rx⟩:=vals1 r
   obtain ⟨t,rfl⟩:=rx
   exact W.KIN.call_text hn hl ⟨.int n,H,I.tok _,⟨_,rfl⟩,q _ _ (aM.refl _) (.int _)⟩
  ·rw [if_neg hl] at hr;cases hr
end
section
variable {X:Cx}{E:XK}{e:Expr}
end
section
variable {X:Cx}{E:XK}{e:Expr}{f:Zae}{pos:Pos}
theorem mulOk_of {z:Str}{n:Int}(h0:0<=n)(h1:n<=1000)(hz:z.length<=1000):MulOk z n:=by
 refine ⟨by simp;omega,λp _=>?_,λp _=>?_⟩
 ·have:(1000:Int)<=(2 ^ 63 - 1) / n:=by
   rw [Int.le_ediv_iff_mul_le (by omega)]
   omega
  omega
 ·have:z.length*n.toNat<=1000*1000:=Nat.mul_le_mul hz (by omega)
  have e:sizeLine=16777216:=by decide
  simp [Builtin.Str.tooLong,e]
  omega
end
noncomputable def j8 (f:D->Option Kt):List D->Option (List Kt)
 |[]=>some []
 |d::ds=>(f d).bind λk=>(j8 f ds).map λks=>k::ks
noncomputable def ktD:Nat->D->Option Kt
 |_,.int i=>some (.k (.inl i))
 |_,.str x=>some (.k (.inr x))
 |n+1,.tup ds=>(j8 (ktD n) ds).map .t
 |_,_=>none
noncomputable def um:D->Option (List Kt)
 | .tup ds=>j8 (ktD 7) ds
 |_=>none
noncomputable def cF:List (List Kt)->List D->List Kt->Option D
 |k'::ks,d::ds,k=>if k'=k then some d else cF ks ds k
 |_,_,_=>none
noncomputable def tQ:List (List Kt)->List D->List Kt->D->List D
 |k'::ks,d'::ds,k,d=>(if k'=k then d else d')::tQ ks ds k d
 |_,_,_,_=>[]
noncomputable def jk (ks:List (List Kt))(ds:List D)(k:List Kt)(d:D):List (List Kt)×List D:=if ks.any (λx=>decide (x=k))=true then (ks,tQ ks ds k d) else (ks++[k],ds++[d])
theorem FP {G:Gx}{O:Zaa}{H:Hp}{n:Nat}{f:D->Option Kt}(hf:∀{v d k},DV G O H v d->f d=some k->yw (KTp G.K) H n v k):∀{vs:List V} {ds:List D} {ks:List Kt},DVs G O H vs ds->j8 f ds=some ks->qL (KTp G.K) H n vs ks
 |_,_,_,.nil,e=>by cases e;exact .nil
 |_,_,_,.cons (d:=d) (ds:=ds) h hs,e=>by
  have e:(f d).bind (λk=>(j8 f ds).map λks=>k::ks)=some _:=e
  obtain ⟨k,e1,e2⟩:=Option.bind_eq_some_iff.mp e
  obtain ⟨ks,e3,rfl⟩:=omap e2
  exact .cons (hf h e1) (FP hf hs e3)
theorem X6 {G:Gx}{O:Zaa}{H:Hp}:∀(n:Nat) {v:V} {d:D} {k:Kt},DV G O H v d->ktD n d=some k->yw (KTp G.K) H n v k
 |n,_,_,k,.int i,e=>by
  have:k=.k (.inl i):=by cases n<;>(rw [ktD] at e;exact (Option.some.inj e).symm)
  subst this;exact yw.k (x:=.inl i)
 |n,_,_,k,.str x,e=>by
  have:k=.k (.inr x):=by cases n<;>(rw [ktD] at e;exact (Option.some.inj e).symm)
  subst this;exact yw.k (x:=.inr x)
 |n+1,_,_,k,.tup h hs,e=>by
  rw [ktD] at e
  obtain ⟨ks,e3,rfl⟩:=omap e
  exact .t h (FP (λh e=>X6 n h e) hs e3)
 |0,_,_,k,.tup h hs,e=>by simp [ktD] at e
 |n,_,_,k,.non,e=>by cases n<;>simp [ktD] at e
 |n,_,_,k,.bl _,e=>by cases n<;>simp [ktD] at e
 |n,_,_,k,.adr _,e=>by cases n<;>simp [ktD] at e
 |n,_,_,k,.ins _ _ _ _ _ _,e=>by cases n<;>simp [ktD] at e
 |n,_,_,k,.exc _ _,e=>by cases n<;>simp [ktD] at e
 |n,_,_,k,.lst _ _,e=>by cases n<;>simp [ktD] at e
 |n,_,_,k,.dct _ _ _ _ _,e=>by cases n<;>simp [ktD] at e
 |n,_,_,k,.dcu _ _ _ _ _,e=>by cases n<;>simp [ktD] at e
 |n,_,_,k,.dcf _ _ _ _,e=>by cases n<;>simp [ktD] at e
theorem sS {G:Gx}{O:Zaa}{H:Hp}{v:V}{d:D}{k:List Kt}(h:DW G O H v d)(e:um d=some k):∃b,v=.ref b/\TrT (KTp G.K) H b k:=by
 cases d with
 |tup ds=>
  obtain ⟨b,xs,rfl,hq,hd⟩:=yU h
  exact ⟨b,rfl,xs,hq,FP (λh e=>X6 7 h e) hd e⟩
 |_=>cases e
theorem Ej {G:Gx}{O:Zaa}{H:Hp}{k:List Kt}:∀{kvs:List (List Kt×V)} {ds:List D},DVs G O H (kvs.map (·.2)) ds->
  (∃v d,nH kvs k=some v/\cF (kvs.map (·.1)) ds k=some d/\DV G O H v d)\/(nH kvs k=none/\cF (kvs.map (·.1)) ds k=none)
 |[],_,.nil=>.inr ⟨rfl,rfl⟩
 |(k',v)::kvs,_,.cons (d:=d) h hs=>by
  by_cases q:k'=k
  ·exact .inl ⟨v,d,rF q,by simp [cF,q],h⟩
  ·rw [rN (p:=(k',v)) q]
   simp only [List.map_cons,cF,if_neg q]
   exact Ej hs
noncomputable def dcK:D->Option (List (List Kt)×List D)
 | .dcu ks ds=>some (ks,ds)
 | .dcf ks ds=>some (ks,ds)
 |_=>none
theorem Ut {G:Gx}{O:Zaa}{H:Hp}{v:V}{d:D}{ks:List (List Kt)}{ds:List D}(h:DW G O H v d)(e:dcK d=some (ks,ds)):∃a kvs,v=.ref a/\Rd H a (.dT (KTp G.K) kvs)/\kvs.map (·.1)=ks/\DVs G O H (kvs.map (·.2)) ds:=by
 cases d with
 |dcu ks' ds'=>
  cases e
  obtain ⟨p,kvs,ws,rfl,hp,e1,rfl,hd⟩:=U9 h
  exact ⟨p,kvs,rfl,.inl hp,e1,hd⟩
 |dcf ks' ds'=>
  cases e
  rcases h with h | ⟨_,_,_,h⟩
  ·cases h with
   |dcf e1 e2 e3 hs=>subst e3;exact ⟨_,_,rfl,.inr ⟨_,e1⟩,e2,hs⟩
  ·exact h.elim
 |_=>cases e
section
variable {X:Cx}{E:XK}
noncomputable def vY (d k:D):Option D:=(dcK d).bind λc=>(um k).bind (cF c.1 c.2)
noncomputable def J0 (k d:D):Option Bool:=(dcK d).bind λc=>(um k).map λk=>(cF c.1 c.2 k).isSome
noncomputable def vh (d e:D):Option Bool:=(J0 d e).map (!·)
theorem Lg {G:Gx}{O:Zaa}{H:Hp}{k:List Kt}{kvs:List (List Kt×V)}{ds:List D}(hd:DVs G O H (kvs.map (·.2)) ds):(nH kvs k).isSome=(cF (kvs.map (·.1)) ds k).isSome:=by
 rcases Ej (k:=k) hd with ⟨_,_,a,b,_⟩ | ⟨a,b⟩<;>simp [a,b]
theorem Od {j:Nat}(hr:gR j X.A):OpR X (compareOp .NotIn) (rGB (gx X) vh):=by
 intro pins s σ H x y v u Q I rx ry h
 obtain ⟨O,d,e,r,m,hx,hy,e1,q⟩:=h
 obtain ⟨c,e0,rfl⟩:=omap e1
 obtain ⟨⟨ks,ds⟩,ec,e3⟩:=Option.bind_eq_some_iff.mp e0
 obtain ⟨k,e2,rfl⟩:=omap e3
 obtain ⟨p,kvs,rfl,hp,rfl,hd⟩:=Ut hy ec
 obtain ⟨b,rfl,hb⟩:=sS hx e2
 cases ry
 refine Wc (iV hr) I (.inr ⟨kvs,k,b,hp,rfl,hb,rfl⟩) rx λs' I'=>⟨.bl _,H,I',rfl,?_⟩
 rw [Lg hd]
 exact q
variable {a b:Expr}{fa fb:Zae}{pos:Pos}
theorem Ge {j:Nat}(hr:gR j X.A)(ha:FB X E a fa)(hb:FB X E b fb)(hs:Xz b):FE X E (.Subscript a b pos) (aA vY fa fb):=
 bI (Mm (iV hr) ha hb hs) λσ H Q hE=>xq5 hE λO0 M0 H0 ow m R q=>two (r:=λx y H Q=>∃a v,x=.ref a/\Ae X.K H a y (some v)/\Q v H) R (K:=λz H=>∀v H',aM H H'->DV (gx X) (Ow O0 ow) H' v z->Q v H') q (λ_ _ k g v H' g' d=>k v H' (g.trans g') d) λx y d e H' g hx hy q' R'=>by
  obtain ⟨r,hr,k⟩:=q'.ofO
  obtain ⟨⟨ks,ds⟩,ec,hr⟩:=Option.bind_eq_some_iff.mp hr
  obtain ⟨ky,e2,e3⟩:=Option.bind_eq_some_iff.mp hr
  obtain ⟨p,kvs,rfl,hp,rfl,hd⟩:=Ut hx ec
  obtain ⟨b,rfl,hb⟩:=sS hy e2
  rcases Ej (k:=ky) hd with ⟨v,d,a,c,dv⟩ | ⟨a,c⟩
  ·have e3:cF (kvs.map (·.1)) ds ky=some r:=e3
   rw [c] at e3
   cases e3
   exact ⟨p,v,rfl,.inr ⟨kvs,ky,b,hp,rfl,hb,a.symm⟩,k _ _ (aM.refl _) dv⟩
  ·have e3:cF (kvs.map (·.1)) ds ky=some r:=e3
   rw [c] at e3;cases e3
noncomputable def CQ:Zae:=λ_=>.ok (.dcu [] [])
theorem El:FN X E (.Dict [] [] pos) CQ:=bI S7 λσ H Q ⟨O0,M0,H0,ow,m,R,q⟩ p hp=>q p _ (bz hp _) hp ⟨[],[],aW,rfl,rfl,.nil⟩
end
theorem zF (k:List Kt)(v:V):∀kvs:List (List Kt×V),(kvs.map λkv=>if kv.1=k then (kv.1,v) else kv).map (·.1)=kvs.map (·.1)
 |[]=>rfl
 |p::kvs=>by
  rw [List.map_cons,List.map_cons,List.map_cons,zF k v kvs]
  split<;>rfl
theorem uB {G:Gx}{O:Zaa}{H:Hp}{k:List Kt}{v:V}{d:D}(h:DV G O H v d):∀{kvs:List (List Kt×V)} {ds:List D},DVs G O H (kvs.map (·.2)) ds->DVs G O H ((kvs.map λkv=>if kv.1=k then (kv.1,v) else kv).map (·.2)) (tQ (kvs.map (·.1)) ds k d)
 |[],_,.nil=>.nil
 |(k',v')::kvs,_,.cons h1 hs=>by
  simp only [List.map_cons,tQ]
  split
  ·exact .cons h (uB h hs)
  ·exact .cons h1 (uB h hs)
theorem Mj {G:Gx}{O:Zaa}{H:Hp}{k:List Kt}{v:V}{d:D}{kvs:List (List Kt×V)}{ds:List D}(h:DV G O H v d)(hs:DVs G O H (kvs.map (·.2)) ds):
  (putK kvs k v).map (·.1)=(jk (kvs.map (·.1)) ds k d).1/\DVs G O H ((putK kvs k v).map (·.2)) (jk (kvs.map (·.1)) ds k d).2:=by
 have e:(kvs.any λkv=>decide (kv.1=k))=(kvs.map (·.1)).any λx=>decide (x=k):=by rw [List.any_map];rfl
 unfold putK jk
 rw [e]
 split
 ·exact ⟨zF k v kvs,uB h hs⟩
 ·exact ⟨by simp,by rw [List.map_append];exact jB hs (.cons h .nil)⟩
noncomputable def GP (m:Me)(i:Nat):Option (Bool×List (List Kt)×List D):=match m[i]? with
 |some (.ow (.dcu ks ds))=>some (true,ks,ds)
 |some (.io (.dcu ks ds))=>some (false,ks,ds)
 |_=>none
noncomputable def rn (m:Me)(i:Nat)(k:Bool)(ks:List (List Kt))(ds:List D):Me:=m.set i (if k then .ow (.dcu ks ds) else .io (.dcu ks ds))
section
variable {G:Gx}{O0 M0:Zaa}{H0:Hp}{ow:Os}{σ:L2.St}{H:Hp}{m:Me}
theorem NK (R:Rel G O0 M0 H0 ow σ H m){i:Nat}{k:Bool}{ks:List (List Kt)}{ds:List D}(e:GP m i=some (k,ks,ds)):∃a kvs,ow i=some a/\σ[i]? = some (some (.ref a))/\H a=some (.dT (KTp G.K) kvs)/\kvs.map (·.1)=ks/\DVs G (Ow O0 ow) H (kvs.map (·.2)) ds/\((m[i]? = some (.ow (.dcu ks ds))/\k=true)\/(m[i]? = some (.io (.dcu ks ds))/\k=false)):=by
 unfold GP at e
 split at e
 ·rename_i q
  cases e
  obtain ⟨a,e1,e2,e3,kvs,vs,e4,e5,rfl,e6⟩:=R.slot i _ q
  exact ⟨a,kvs,e1,e3,e4,e5,e6,.inl ⟨q,rfl⟩⟩
 ·rename_i q
  cases e
  obtain ⟨a,e1,e2,e3,kvs,vs,e4,e5,rfl,e6⟩:=R.slot i _ q
  exact ⟨a,kvs,e1,e3,e4,e5,e6,.inr ⟨q,rfl⟩⟩
 ·cases e
theorem cZ.rn {i:Nat}{k:Bool}{a:Addr}{ks ls:List (List Kt)}{ds es:List D}{kvs:List (List Kt×V)}(R:cZ G O0 M0 H0 ow σ H m)(ho:ow i=some a)(hm:(m[i]? = some (.ow (.dcu ks ds))/\k=true)\/(m[i]? = some (.io (.dcu ks ds))/\k=false))
  (hk:kvs.map (·.1)=ls) (hd:DVs G (Ow O0 ow) H (kvs.map (·.2)) es):cZ G O0 M0 H0 ow σ (L2.upd H a (.dT (KTp G.K) kvs)) (F.rn m i k ls es)/\Go O0 ow H ow (L2.upd H a (.dT (KTp G.K) kvs)):=by
 have oa:Ow O0 ow a:=.inr ⟨i,ho⟩
 have kp:Kp (Ow O0 ow) H (L2.upd H a (.dT (KTp G.K) kvs)):=λb u e n=>m8 b u e λz=>n (z ▸ oa)
 have ov:OV G (Ow O0 ow) (L2.upd H a (.dT (KTp G.K) kvs)) a (.dcu ls es):=⟨kvs,_,L2.aW,hk,rfl,hd.kp R.mutk kp⟩
 refine ⟨R.chg (d:=.dcu ks ds) (d':=.dcu ls es) ho m8 ov ?_,Go.chg ho m8 ov⟩
 rcases hm with ⟨e,rfl⟩ | ⟨e,rfl⟩
 ·exact .inl ⟨e,rfl⟩
 ·exact .inr ⟨e,rfl⟩
end
noncomputable def Du (i:Nat)(fk fv:Zae):Zab:=λm=>(fv m).bind λd=>(ofO (GP m i)).bind λo=>(fk m).bind λk=>(ofO (um k)).bind λk=>
 if o.2.1.length<sizeLine then .ok (.nx,rn m i o.1 (jk o.2.1 o.2.2 k d).1 (jk o.2.1 o.2.2 k d).2) else .stuck
section
variable {X:Cx}{E:XK}{e ke:Expr}{f fk:Zae}{pos spos np:Pos}{x:Str}
theorem KY {jj:Nat}(i:Nat)(hr:gR jj X.A)(he:FE X E e f)(hk:FE X E ke fk)(hN:X.N[i]? = some x:=by rfl)(hv:Vis X.env.scope x:=by first | exact Or.inl rfl | exact Or.inr (Or.inl rfl) | exact Or.inr (Or.inr rfl))(hd:(x == ("__debug__" : Str))=false:=by decide)(hcd:(x == ("__classdict__" : Str))=false:=by decide)
  (hs:swapsWith e (some (.Subscript (.Name x np) ke spos)) pos.line X.env=pure false:=by rfl):FS X E (.Assign [.Subscript (.Name x np) ke spos] e pos) (Du i fk f):=
 cL (yI (iV hr) (jx hN hv hd hcd) hk he hs) λW σ H hE=>xq5 hE λO0 M0 H0 ow m R q=>
  ⟨O0,M0,H0,ow,m,R.toRel,(Ss.pu R.toRel q).imp (aM.refl _) λd q v H1 g1 hv=>by
   obtain ⟨o,ho,q⟩:=Ss.ofO q
   obtain ⟨k,ks,ds⟩:=o
   have R1:=R.mono g1
   obtain ⟨a,kvs,e1,e2,e3,e4,e5,e6⟩:=NK R1.toRel ho
   refine ⟨_,e2,O0,M0,H0,ow,m,R1.toRel,(Ss.pu R1.toRel (q.go (Go.refl g1))).imp (aM.refl _) λdk q vk H2 g2 hvk=>?_⟩
   obtain ⟨ky,h1,q⟩:=Ss.ofO q
   obtain ⟨b,rfl,hb⟩:=sS (.inl hvk) h1
   by_cases hz:ks.length<sizeLine
   ·rw [if_pos hz] at q
    have R2:=R1.mono g2
    obtain ⟨p1,p2⟩:=Mj (k:=ky) (hv.mono g2) (e5.mono g2)
    rw [e4] at p1 p2
    obtain ⟨R3,g3⟩:=R2.rn e1 e6 p1 p2
    exact ⟨a,_,rfl,BJ.t (g2 _ _ e3) hb (by rw [← List.length_map (f:=(·.1)),e4];exact hz),q _ _ _ R3 ((Go.refl g2).trans g3)⟩
   ·rw [if_neg hz] at q;exact q.elim⟩
end
section
variable {X:Cx}{E:XK}{e:Expr}{f:Zae}{pos:Pos}
end
section
variable {prog:Program}{w:World}{A:Around}{E:Zs}{s:Shared}{d it:Addr}{es:Array DictEntry}{ep i:Nat}{o oi:Obj}
end
section
variable {X:Cx}{E:XK}{rest:List Stmt}{k:Zab}
end
section
variable {X:Cx}{tg:Expr}
end
section
variable {X:Cx}
end
noncomputable def met (f:Nat->Str):Nat->List Str
 |0=>[]
 |i+1=>if (met f i).any (· == f i) then met f i else met f i++[f i]
section
variable {pr:Program}{wo:World}{A:Around}{R:Result->Shared->Prop}{I:Addr}{fp wr:List Addr}{G:Array GenState->Array GenState->Prop}{n:Nat}{P:Nat->Value->Prop}{St:Nat->Shared->Prop}
end
section
variable {pr:Program}{wo:World}{A:Around}{E:Zs}{s:Shared}
end
section
variable {X:Cx}
end
structure Wr (p:Prop):Prop where
 out:p
section
variable {X:Cx}{E:XK}{e a b c ke:Expr}{es:List Expr}{st:Stmt}{rest sa sb:List Stmt}{f fa fb fk:Zae}{fs:Zad}{ft:Zaf}{gg k ga gb:Zab}{pos pos' apos cpos np spos p:Pos}{i:Nat}{x:Str}
theorem J5 (h1:Wr (FS X E st gg))(h2:Wr (FSs X E rest k)):Wr (FSs X E (st::rest) (aJ gg k)):=⟨aD h1.out h2.out⟩
theorem abQ (h1:Wr (FS X E st gg)):Wr (FSs X E [st] gg):=⟨aL h1.out⟩
theorem Yj (hN:X.N.Nodup)(hi:X.N[i]? = some x)(hx:Loc X.env.scope x)(he:Wr (FN X E e f))(hs:swapsWith e (some (.Name x pos')) pos.line X.env=pure false:=by rfl)
  (hf:X.fn x=true\/X.env.scope.names.lookup x=some .local:=by first | exact .inl rfl | exact .inr rfl | assumption):Wr (FS X E (.Assign [.Name x pos'] e pos) (eX i f)):=⟨RZ hN hi hx he.out hs hf⟩
theorem ab6 (h:Wr (FAE X E es fs)):Wr (FN X E (.List es pos) (d8 fs)):=⟨fP h.out⟩
end
section
variable {pr:Program}{wo:World}{A:Around}{E:Zs}{s:Shared}{κ:Type}[DecidableEq κ]{kn:HeapKind pr wo κ}
theorem Xo {d a:Addr}{xs:List (κ×Addr×Value)}{k:κ}{v:Value}{Q:Zs}(hu:kn.room A)(hk:kn.is s.heap k a)(hm:s.heap.DictOfH kn d xs)(hz:xs.length<=sizeLine)
  (old:∀p,atKey xs k=some p->Q p.2 { s with toks:=s.toks+kn.draws k })
  (new:atKey xs k=none->∀h',h'.DictOfH kn d (xs++[(k,a,v)])->Heap.SameBut d s.heap h'->Q v { s with heap:=h',toks:=s.toks+kn.draws k }):
  wpAny (model pr wo) A (dictSetDefault d (.ref a) v) Q E s:=by
 obtain ⟨o,es,ep,ho,hc,hd,he,hi,hn⟩:=id hm
 unfold dictSetDefault
 refine wpAny_holding (wpAny_bind (kn.pyHash hu hk (wpAny_bind (wpAny_dictFind_heap (s:={ s with toks:=s.toks+kn.draws k }) hu hk ho hd he hi hn (λno=>?_) λj p hj=>?_))))
 ·have h0:=atKey_none_of_get no
  have nk:=not_mem_keys_of_get no
  have es1:=size_of_entries he
  refine wpAny_bind (wpAny_rule (wpAny_bind (wpAny_updateDictKeys (hz:=by omega) (s:={ s with toks:=s.toks+kn.draws k }) ho hd (wpAny_pure (new h0 _ ⟨_,_,ep+1,Heap.get?_update_self _ ho (Obj.isFreed_of_dict (Obj.data_mapDictKeys hd _)),hc.mapDictKeys _,Obj.data_mapDictKeys hd _,?_,λy hy=>?_,?_⟩ (Heap.SameBut.update ..))))))
  ·simp [he,entryOfKey]
  ·rcases List.mem_append.mp hy with z | z
   ·exact kn.keeps (hi y z) ho hd (Heap.SameBut.update ..)
   ·rw [List.mem_singleton.mp z]
    exact kn.keeps hk ho hd (Heap.SameBut.update ..)
  ·rw [List.map_append,List.nodup_append]
   refine ⟨hn,by simp,λy hy z hz' e=>nk ?_⟩
   have e2:z=k:=List.mem_singleton.mp hz'
   rw [← e2,← e]
   exact hy
 ·refine wpAny_bind (wpAny_dictEntries (s:={ s with toks:=s.toks+kn.draws k }) ho hd ?_)
  rw [entry_at he j,hj]
  exact wpAny_bind (wpAny_rule (wpAny_pure (old p (atKey_of_get hn hj))))
theorem RP {d a:Addr}{xs:List (κ×Addr×Value)}{k:κ}{v:Value}{Q:Zs}(hu:kn.room A.in1)(hk:kn.is s.heap k a)(hm:s.heap.DictOfH kn d xs)(hz:xs.length<=sizeLine)(hd:(d == sysModules)=false)
  (old:∀p,atKey xs k=some p->Q p.2 { s with toks:=s.toks+kn.draws k })
  (new:atKey xs k=none->∀h',h'.DictOfH kn d (xs++[(k,a,v)])->Heap.SameBut d s.heap h'->Q v { s with heap:=h',toks:=s.toks+kn.draws k }):
  wpAny (model pr wo) A (call (.builtin "dict.setdefault") [.ref d,.ref a,v]) Q E s:=by
 refine wpAny_call_entry PySem.F.slot_dict_setdefault hm.typeIs PySem.F.entry_dict_setdefault ?_ (PySem.F.args_dict_setdefault_3 _ _ _)
 unfold Builtin.«dict.setdefault»
 refine wpAny_bind ?_
 unfold Builtin.Dict.keyAndDefault
 refine wpAny_bind (wpAny_notOrdered_dict hm.typeIs ?_)
 show wpAny _ _ (pure (d,Value.ref a,some v)) _ _ s
 refine wpAny_pure ?_
 show wpAny _ _ (if (d == sysModules)=true then _ else (dictSetDefault d (.ref a) v >>= _)) _ _ s
 rw [if_neg (by rw [hd];exact Bool.false_ne_true)]
 exact wpAny_bind (Xo hu hk hm hz (λp e=>wpAny_pure ⟨p.2,rfl,old p e⟩) λe h' x y=>wpAny_pure ⟨v,rfl,new e h' x y⟩)
end
def acf (K:W.Frag)(td ty tx:TE):TE:=λσ H Q=>td σ H λx H1=>∃a,x=.ref a/\IsD K H1 a/\ty σ H1 λy H2=>tx σ H2 λz H3=>∃kvs k b,H3 a=some (.dT (KTp K) kvs)/\y=.ref b/\TrT (KTp K) H3 b k/\kvs.length<sizeLine/\
 (∀v,nH kvs k=some v->Q v H3)/\(nH kvs k=none->Q z (upd H3 a (.dT (KTp K) (kvs++[(k,z)]))))
section
variable {X:Cx}{o e f:Expr}{apos cpos:Pos}{td ty tx:TE}
theorem aaA (hu:X.A.units+16<cLine)(ho:PE X o td)(he:PE X e ty)(hf:PE X f tx)(m:M2 X o "setdefault" apos e f cpos):PE X (.Call (.Attribute o "setdefault" apos) [e,f] [] cpos) (acf X.K td ty tx):=by
 intro pins s σ H Q I h
 refine wpAny_Call_method m.base m.few m.line PySem.F.plainAttrs_dict PySem.F.slot_dict_setdefault PySem.F.type_dict_setdefault (thn (ho pins s σ H _ I h) λu s1 ⟨x,H1,I1,rx,a,ex,d,q1⟩=>?_)
 subst ex
 cases (show u=Value.ref a from rx)
 obtain ⟨t1,t2,_⟩:=Zq I1 d
 refine ⟨t1,t2,?_⟩
 rw [m.trees]
 refine Calls.callWith_builtin rfl (Calls.evalArgs_plain (Calls.spliced_cons (thn (he pins s1 σ H1 _ I1 q1) λiv s2 hE=>xq2 hE λy H2 I2 ry q2=>
  Calls.spliced_cons (thn (hf pins s2 σ H2 _ I2 q2) λfv s3 ⟨z,H3,I3,rz,kvs,k,b,e3,ey,eb,l,q3,q4⟩=>Calls.spliced_nil ?_))))
 subst ey
 cases (show iv=Value.ref b from ry)
 obtain ⟨sz,hd,xs,rel,dd⟩:=Uu (xH I3) I3.hok e3
 have hz:xs.length<=sizeLine:=by rw [← Paired.length rel];exact sz
 have rv:=rel.val k
 refine RP (pJ hu) (ug I3 eb) dd hz hd (λp hp=>?_) λhn h' dd' hs=>?_
 ·rw [hp] at rv
  cases ev:nH kvs k with
  |none=>rw [ev] at rv;cases rv
  |some v=>
   rw [ev] at rv
   exact ⟨v,H3,I3.tok _,rv,q3 v ev⟩
 ·rw [hn] at rv
  cases ev:nH kvs k with
  |some v=>rw [ev] at rv;cases rv
  |none=>
   have rp:=rel.put k eb rz
   rw [QT _ ev,storedH_new hn] at rp
   obtain ⟨q,es,ep,hq,h2,h3,h4,_,h5⟩:=dd'
   refine ⟨z,upd H3 a (.dT (KTp X.K) (kvs++[(k,z)])),uT I3 (by rw [e3];exact True.intro) hs ⟨q,hq⟩ ⟨by rw [List.length_append,List.length_singleton];omega,hd,_,rp.keeps λc ys ec=>?_,q,es,ep,hq,h2,h3,h4,h5⟩,rz,q4 ev⟩
   rw [cH (QZ ec e3 (λz=>nomatch z))]
   exact ec
end
noncomputable def W7 (i:Nat)(fk fv:Zae):Zab:=λm=>(ofO (GP m i)).bind λo=>(fk m).bind λk=>(fv m).bind λd=>(ofO (um k)).bind λk=>
 if o.2.1.length<sizeLine then .ok (.nx,if (cF o.2.1 o.2.2 k).isSome then m else rn m i o.1 (o.2.1++[k]) (o.2.2++[d])) else .stuck
section
variable {X:Cx}{E:XK}{e ke:Expr}{f fk:Zae}{pos np apos cpos:Pos}{x:Str}
theorem Z5 {jj:Nat}(i:Nat)(hr:gR jj X.A)(hk:FE X E ke fk)(he:FE X E e f)(hm:M2 X (.Name x np) "setdefault" apos ke e cpos)(hN:X.N[i]? = some x:=by rfl)(hv:Vis X.env.scope x:=by first | exact Or.inl rfl | exact Or.inr (Or.inl rfl) | exact Or.inr (Or.inr rfl))(hd:(x == ("__debug__" : Str))=false:=by decide)(hcd:(x == ("__classdict__" : Str))=false:=by decide)
  (hsw:swapsWith (.Call (.Attribute (.Name x np) "setdefault" apos) [ke,e] [] cpos) none pos.line X.env=pure false:=by rfl):FS X E (.Expr (.Call (.Attribute (.Name x np) "setdefault" apos) [ke,e] [] cpos) pos) (W7 i fk f):=
 cL (vL (aaA (iV hr) (jx hN hv hd hcd) hk he hm) hsw) λW σ H hE=>xq5 hE λO0 M0 H0 ow m R q=>by
  obtain ⟨o,ho,q⟩:=Ss.ofO q
  obtain ⟨k,ks,ds⟩:=o
  obtain ⟨a,kvs,e1,e2,e3,e4,e5,e6⟩:=NK R.toRel ho
  refine ⟨_,e2,a,rfl,.inr ⟨kvs,.inl e3⟩,O0,M0,H0,ow,m,R.toRel,(Ss.pu R.toRel q).imp (aM.refl _) λdk q vk H1 g1 hvk=>?_⟩
  have R1:=R.mono g1
  refine ⟨O0,M0,H0,ow,m,R1.toRel,(Ss.pu R1.toRel (q.go (Go.refl g1))).imp (aM.refl _) λd q v H2 g2 hv=>?_⟩
  obtain ⟨ky,h1,q⟩:=Ss.ofO q
  obtain ⟨b,rfl,hb⟩:=sS (.inl (hvk.mono g2)) h1
  have R2:=R1.mono g2
  have e3':=g2 _ _ (g1 _ _ e3)
  have e5':=(e5.mono g1).mono g2
  have uf:=Lg (k:=ky) e5'
  rw [e4] at uf
  by_cases hz:ks.length<sizeLine
  ·rw [if_pos hz] at q
   refine ⟨kvs,ky,b,e3',rfl,hb,by rw [← List.length_map (f:=(·.1)),e4];exact hz,λv' ev=>?_,λev=>?_⟩
   ·rw [ev] at uf
    rw [← uf] at q
    exact q _ _ _ R2 (Go.refl g2)
   ·rw [ev] at uf
    rw [← uf] at q
    obtain ⟨R3,g3⟩:=R2.rn (ls:=ks++[ky]) (es:=ds++[d]) (kvs:=kvs++[(ky,v)]) e1 e6 (by simp [e4]) (by rw [List.map_append];exact jB e5' (.cons hv .nil))
    exact q _ _ _ R3 ((Go.refl g2).trans g3)
  ·rw [if_neg hz] at q;exact q.elim
end
def yz (h:Heap)(d:Addr)(es:Array DictEntry)(ep:Nat):Prop:=∃o,h.get? d=some o/\o.ExactDict/\o.data=.dict es ep
section
variable {prog:Program}{w:World}{A:Around}{E:Zs}{s:Shared}{d it v:Addr}{es:Array DictEntry}{ep i:Nat}
theorem yz.ty (x:yz s.heap d es ep):s.TypeIs (.ref d) "dict":=let ⟨o,h,c,_⟩:=x;⟨o,h,c.1⟩
theorem yz.up {h h':Heap}(x:yz h d es ep)(k:∀o,h.get? d=some o->h'.get? d=some o):yz h' d es ep:=let ⟨o,e,r⟩:=x;⟨o,k o e,r⟩
theorem Tp {Q:Zs}(nd:(d == sysModules)=false)(x:yz s.heap d es ep)
  (k:Q (.ref s.heap.objs.size) { s with heap:=s.heap.push { cls:=.type "dict_values",data:=.fields #[.ref d] } }):wpAny (model prog w) A (call (.builtin "dict.values") [.ref d]) Q E s:=by
 refine wpAny_call_entry PySem.F.slot_dict_values x.ty PySem.F.entry_dict_values ?_ (PySem.F.args_dict_values_1 _)
 refine wpAny_bind ?_
 unfold Builtin.Dict.noArgs
 refine wpAny_bind (wpAny_notOrdered_dict x.ty (show wpAny _ _ (pure d) _ _ s from wpAny_pure ?_))
 show wpAny _ _ (Builtin.Dict.showsAll d >>= _) _ _ s
 unfold Builtin.Dict.showsAll
 rw [if_neg (λz=>by rw [nd] at z;cases z)]
 exact wpAny_bind (wpAny_pure (wpAny_bind (wpAny_newObj_type (wpAny_pure ⟨_,rfl,k⟩))))
theorem aa6 {Q:Zs}(hv:s.heap.IsValuesView v d)(x:yz s.heap d es ep)
  (k:Q (.ref s.heap.objs.size) { s with heap:=s.heap.push { cls:=.type "dict_valueiterator",data:=.fields #[.ref d,.int 0 0,.int es.size 0,.int ep 0] } }):wpAny (model prog w) A (pyIter (.ref v)) Q E s:=by
 obtain ⟨q,hq,hc,hf⟩:=id hv
 obtain ⟨o,ho,hx,ht⟩:=id x
 have no:Builtin.Dict_items.ownsTuple "dict_valueiterator" = false:=by decide
 refine wpAny_pyIter_slot hv.typeIs PySem.F.slot_dict_values_iter (wpAny_call_entry PySem.F.slot_dict_values_iter hv.typeIs PySem.F.entry_dict_values_iter ?_ (PySem.F.args_dict_values_iter_1 _))
 unfold Builtin.«dict_values.__iter__»
 refine wpAny_bind (wpAny_pure (wpAny_bind ?_))
 unfold Builtin.Dict_items.dictOf
 refine wpAny_bind (wpAny_field hq hf (x:=.ref d) rfl (wpAny_pure (wpAny_bind ?_)))
 unfold Builtin.Dict_items.newIterator
 refine wpAny_bind (wpAny_dictEntries ho ht (wpAny_bind (wpAny_dictEpoch ho ht ?_)))
 simp only [no,Bool.false_eq_true,if_false]
 exact wpAny_newObj_type (wpAny_pure ⟨_,rfl, "dict_valueiterator",_,⟨_,Heap.get?_push_size _ rfl,rfl⟩,PySem.F.slot_dict_valueiterator_next.lookup,by simpa [rawInt] using k⟩)
theorem aaX {Q:Option Value->Shared->Prop}(hit:s.heap.IsValIter it d i es.size ep)(x:yz s.heap d es ep)
  (lt:i<es.size) (go:∀h',h'.IsValIter it d (i+1) es.size ep->Heap.SameBut it s.heap h'->Q (some es[i].val) { s with heap:=h' }):wpAny (model prog w) A (pyNext (.ref it)) Q E s:=by
 obtain ⟨q,hq,hc,hf⟩:=id hit
 obtain ⟨o,ho,hx,ht⟩:=id x
 have ty:=hit.typeIs
 have e1:es[i]? = some es[i]:=Array.getElem?_eq_getElem lt
 have no:Builtin.Dict_items.ownsTuple "dict_valueiterator" = false:=by decide
 have turned:(s.heap.update it (Obj.mapFields (·.setIfInBounds 1 (rawInt ((i:Int)+1))))).IsValIter it d (i+1) es.size ep:=
  ⟨_,Heap.get?_update_self _ hq (Obj.isFreed_of_fields (Obj.data_mapFields hf _)),(Obj.cls_mapFields ..).trans hc,by rw [Obj.data_mapFields hf];simp [rawInt]⟩
 have fin:=go _ turned (Heap.SameBut.update ..)
 unfold pyNext
 refine wpAny_bind (wpAny_attempt (wpAny_callSpecial?_slot (name:=Str.ofString "__next__") ty PySem.F.slot_dict_valueiterator_next (wpAny_call_entry PySem.F.slot_dict_valueiterator_next ty PySem.F.entry_dict_valueiterator_next ?_ (PySem.F.args_dict_valueiterator_next_1 _))))
 refine wpAny_bind (wpAny_pure (wpAny_bind (wpAny_bind ?_)))
 first
 |refine wpAny_bind (wpAny_typeNameOfWhole_valiter ty (wpAny_pure (wpAny_bind (wpAny_fieldsOf hq hf ?_))))
 |refine wpAny_bind (wpAny_typeNameOf_valiter ty (wpAny_pure (wpAny_bind (wpAny_fieldsOf hq hf ?_))))
 simp only [no,Bool.false_eq_true,if_false]
 show wpAny _ _ (if (Value.ref d == Value.none)=true then _ else _) _ _ s
 rw [if_neg (λz=>by cases (show false=true from z))]
 refine wpAny_bind (wpAny_pure (wpAny_bind (wpAny_dictEntries ho ht ?_)))
 rw [if_neg (by simp)]
 refine wpAny_bind (wpAny_pure (wpAny_bind (wpAny_dictEpoch ho ht ?_)))
 rw [if_neg (by simp)]
 refine wpAny_pure ?_
 simp only [show ¬((i:Int)<0) by omega,if_false,Int.toNat_natCast,e1]
 refine wpAny_bind ?_
 first
 |refine wpAny_bind (wpAny_typeNameOfWhole_valiter ty (wpAny_pure (wpAny_bind (wpAny_isOneOf_valiter ty ?_))))
 |refine wpAny_bind (wpAny_typeNameOf_valiter ty (wpAny_pure (wpAny_bind (wpAny_isOneOf_valiter ty ?_))))
 show wpAny _ _ (setField (.ref it) 1 (rawInt ((i:Int)+1)) >>= _) _ _ s
 refine wpAny_bind (wpAny_setField hq hf (by simp) (wpAny_bind (wpAny_holding ?_)))
 refine wpAny_bind (wpAny_isOneOf_valiter (s:={ s with heap:=s.heap.update it (Obj.mapFields (·.setIfInBounds 1 (rawInt ((i:Int)+1)))) }) turned.typeIs ?_)
 refine wpAny_bind (wpAny_isOneOf_valiter (s:={ s with heap:=s.heap.update it (Obj.mapFields (·.setIfInBounds 1 (rawInt ((i:Int)+1)))) }) turned.typeIs ?_)
 exact (show wpAny _ _ (pure es[i].val) _ _ _ from wpAny_pure (wpAny_pure ⟨_,rfl,wpAny_pure fin⟩))
theorem Pj {Q:Option Value->Shared->Prop}(hh:A.handled=none)(hit:s.heap.IsValIter it d es.size es.size ep)(x:yz s.heap d es ep)
  (go:∀h',Heap.ExtBut it s.heap h'->Q none { s with heap:=h' }):wpAny (model prog w) A (pyNext (.ref it)) Q E s:=by
 obtain ⟨q,hq,hc,hf⟩:=id hit
 obtain ⟨o,ho,hx,ht⟩:=id x
 have ty:=hit.typeIs
 have e1:es[es.size]? = none:=Array.getElem?_eq_none (Nat.le_refl _)
 have no:Builtin.Dict_items.ownsTuple "dict_valueiterator" = false:=by decide
 unfold pyNext
 refine wpAny_bind (wpAny_attempt (wpAny_callSpecial?_slot (name:=Str.ofString "__next__") ty PySem.F.slot_dict_valueiterator_next (wpAny_call_entry PySem.F.slot_dict_valueiterator_next ty PySem.F.entry_dict_valueiterator_next ?_ (PySem.F.args_dict_valueiterator_next_1 _))))
 refine wpAny_bind (wpAny_pure (wpAny_bind (wpAny_bind ?_)))
 first
 |refine wpAny_bind (wpAny_typeNameOfWhole_valiter ty (wpAny_pure (wpAny_bind (wpAny_fieldsOf hq hf ?_))))
 |refine wpAny_bind (wpAny_typeNameOf_valiter ty (wpAny_pure (wpAny_bind (wpAny_fieldsOf hq hf ?_))))
 simp only [no,Bool.false_eq_true,if_false]
 show wpAny _ _ (if (Value.ref d == Value.none)=true then _ else _) _ _ s
 rw [if_neg (λz=>by cases (show false=true from z))]
 refine wpAny_bind (wpAny_pure (wpAny_bind (wpAny_dictEntries ho ht ?_)))
 rw [if_neg (by simp)]
 refine wpAny_bind (wpAny_pure (wpAny_bind (wpAny_dictEpoch ho ht ?_)))
 rw [if_neg (by simp)]
 refine wpAny_pure ?_
 simp only [show ¬((es.size:Int)<0) by omega,if_false,Int.toNat_natCast,e1]
 refine wpAny_bind ?_
 first
 |refine wpAny_bind (wpAny_typeNameOfWhole_valiter ty (wpAny_pure ?_))
 |refine wpAny_bind (wpAny_typeNameOf_valiter ty (wpAny_pure ?_))
 show wpAny _ _ (setField (.ref it) 0 .none >>= _) _ _ s
 refine wpAny_bind (wpAny_setField hq hf (by simp) (show wpAny _ _ (newExc (.type "StopIteration") [] >>= _) _ _ _ from wpAny_bind ?_))
 simp only [newExc,newTuple]
 refine wpAny_bind (wpAny_newObj_type (wpAny_bind (m:=firstArgMember _ _) (wpAny_of_eq (a:=Value.none) (by first | rfl | (simp only [firstArgMember];rfl)) (wpAny_newObj_type ?_ (by size_fits)))) (by size_fits))
 simp only [raiseNew]
 refine wpAny_bind (wpAny_handled ?_)
 rw [show A.in1.handled=none from hh]
 refine wpAny_bind (wpAny_pure (wpAny_throw (wpAny_bind ?_)))
 refine wpAny_isInstance (T:="StopIteration") (b:=true) ⟨_,Heap.get?_push_size _ rfl,rfl⟩ isSubtype_stop (wpAny_pure ?_)
 exact go _ (((Heap.SameBut.update ..).extBut.push _).push _)
theorem abd (hh:A.handled=none)(ne:d≠it):Walks prog w A it [it,d] [it] es.size (λi v=>∃e,es[i]? = some e/\v=e.val) (λi h=>h.IsValIter it d i es.size ep/\yz h d es ep) where
 sub:=λb hb=>by simp at hb;simp [hb]
 frame:=λ_ _ _ st hk=>⟨let ⟨o,e,r⟩:=st.1;⟨o,hk it (by simp) o e,r⟩,st.2.up λo e=>hk d (by simp) o e⟩
 item:=λi s Q E hi st go=>aaX st.1 st.2 hi λh' a b=>go _ h' s.toks ⟨_,Array.getElem?_eq_getElem hi,rfl⟩ ⟨a,st.2.up λo e=>(b.2 d ne).trans e⟩ λc o hc e=>(b.2 c λz=>hc (by simp [z])).trans e
 done:=λs Q E st go=>Pj hh st.1 st.2 λh' a=>go h' s.toks λc o hc e=>a c o (λz=>hc (by simp [z])) e
 self:=λ_ _ _ _ st k=>wpAny_pyIter_valiter st.1 k
end
section
variable {X:Cx}
def Gk (p a:Addr)(h:Heap):Prop:=h.IsValuesView p a
theorem Uo {pins:Zl}{σ:L2.St}{H:Hp}{s:Shared}{a:Addr}{T:Addr->List V->Prop}{kvs:List (List Kt×V)}(I:Inv X pins σ H s)(e:H a=some (.dT T kvs)):
  kvs.length<=sizeLine/\(a == sysModules)=false/\∃es ep,yz s.heap a es ep/\es.size=kvs.length/\Vals (kvs.map (·.2)) (es.toList.map (·.val)):=by
 obtain ⟨hz,hd,xs,rel,o,es,ep,ho,hx,ht,he,nd⟩:=I.hok a _ e
 refine ⟨hz,hd,es,ep,⟨o,ho,hx,ht⟩,?_,?_⟩
 ·rw [size_of_entries he,Paired.length rel]
 ·rw [he,List.map_map]
  clear he hz hd nd e
  induction rel with
  |nil=>exact .nil
  |cons h _ ih=>exact .cons h.2.2 ih
def abI (X:Cx):V->List V->Hp->VK->Prop:=λx vs H Q=>∃a kvs,x=.ref a/\vs=[]/\H a=some (.dT (KTp X.K) kvs)/\∀p,H p=none->Q (.ref p) (upd H p (.ext (Gk p a)))
theorem W4:MtR X "dict.values" (abI X):=by
 intro pins s σ H x vs v us Q I rx rv h
 obtain ⟨a,kvs,rfl,rfl,e,q⟩:=h
 cases rx
 have hus:=rv.zero
 subst hus
 obtain ⟨hz,hd,es,ep,x,_⟩:=Uo I e
 refine Tp hd x ?_
 refine ⟨.ref _,_,I.laid (t':=s.toks) (λb o e=>Heap.get?_push_of_some _ e) (Nat.le_refl _) (show dH X.prog X.w _ _ _ (.ext (Gk s.heap.objs.size a)) from ⟨⟨_,Heap.get?_push_size _ rfl,rfl,rfl⟩,⟨_,Heap.get?_push_size _ rfl⟩,λh1 h2 ⟨o,e,r⟩ k=>⟨o,k o e,r⟩⟩),rfl,q _ (I.hok.fresh (Nat.le_refl _))⟩
theorem acz {r d:Addr}{es:Array DictEntry}{ep:Nat}:W.KdlSrc X.prog X.w "dict_values" r d es.size (λi v=>∃e,es[i]? = some e/\v=e.val) (λh=>h.IsValuesView r d/\yz h d es ep) where
 type:=λ_ m=>m.1.typeIs
 there:=λ_ m=>⟨let ⟨_,e,_⟩:=m.1;Heap.lt_size e,let ⟨_,e,_⟩:=m.2;Heap.lt_size e⟩
 keep:=λ_ _ m k=>⟨let ⟨o,e,x⟩:=m.1;⟨o,k r (.inl rfl) o e,x⟩,m.2.up λo e=>k d (.inr rfl) o e⟩
 notList:=by decide
 notTuple:=by decide
 hint:=λ_ _ _ _ m q=>W.kdl_hint_values m.1.typeIs q
 iter:=λ_ _ hh m=>⟨_,_,(λ_ _ q=>aa6 m.1 m.2 q),abd hh (let ⟨_,e,_⟩:=m.2;Nat.ne_of_lt (Heap.lt_size e)),⟨⟨_,Heap.get?_push_size _ rfl,rfl,rfl⟩,m.2.up λo e=>Heap.get?_push_of_some _ e⟩⟩
def rLV (X:Cx):List V->Hp->VK->Prop:=λxs H Q=>∃p a kvs,xs=[.ref p]/\H p=some (.ext (Gk p a))/\H a=some (.dT (KTp X.K) kvs)/\∀l,H l=none->Q (.ref l) (upd H l (.lst (kvs.map (·.2))))
theorem Jx (hc:X.calm=true):iW X (.type "list") (rLV X):=by
 intro pins s σ H xs us Q I r h
 obtain ⟨p,a,kvs,rfl,hp,e,q⟩:=h
 obtain ⟨u,rfl,rx⟩:=vals1 r
 cases rx
 obtain ⟨hz,hd,es,ep,x,sz,rel⟩:=Uo I e
 obtain ⟨vw,_⟩:=I.hok p _ hp
 refine W.kdl_call (acz (ep:=ep)) (I.ok.hd hc) ⟨vw,x⟩ (by omega) λh' tk acc c kp oS it=>?_
 have ea:acc.toList=es.toList.map (·.val):=by
  obtain ⟨z,h⟩:=it
  refine List.ext_getElem (by simp [z]) λi h1 h2=>?_
  obtain ⟨y,ey,ev⟩:=h i acc[i] (by simp at h1;simp [h1])
  obtain ⟨lt,ey⟩:=Array.getElem?_eq_some_iff.mp ey
  simp only [Array.getElem_toList,List.getElem_map]
  rw [ev,ey]
 refine ⟨.ref _,_,I.laid (t':=tk) kp (Nat.le_refl _) (show dH X.prog X.w _ h' _ (.lst (kvs.map (·.2))) from ⟨by rw [List.length_map];exact hz,es.toList.map (·.val),c,rel,?_⟩),rfl,q _ (I.hok.fresh (Nat.le_refl _))⟩
 rw [← ea]
 simpa using oS
end
noncomputable def Js (fo:Zae):Zae:=λm=>(fo m).bind λd=>match d with
 | .dcu _ ds=>.ok (.lst ds)
 |_=>.stuck
section
variable {X:Cx}{E:XK}{o:Expr}{fo:Zae}{p pos apos cpos:Pos}
theorem Ur (hc:X.calm=true)(hg:Gl X "list")(hm:X.mg "list" = none)(ho:FB X E o fo)(hbase:attributeBase o "values" X.env (eval o X.env)=eval o X.env:=by rfl)(hline:(apos.endLine == cpos.line)=true:=by rfl)
  (hs:starEach [.Call (.Attribute o "values" apos) [] [] cpos] X.env=(false,eval (.Call (.Attribute o "values" apos) [] [] cpos) X.env)::starEach [] X.env:=by rfl):
  FN X E (.Call (.Name "list" p) [.Call (.Attribute o "values" apos) [] [] cpos] [] pos) (Js fo):=
 bI (wG (Jx hc) hg hm qu (jd (JB PySem.F.plainAttrs_dict PySem.F.slot_dict_values PySem.F.type_dict_values W4 ho hbase hline) p6 hs) (by decide) (by decide) hs rfl) λσ H Q h=>by
  obtain ⟨O0,M0,H0,ow,m,R,q⟩:=h
  refine ⟨O0,M0,H0,ow,m,R,q.bind.imp (aM.refl _) λd q v H1 g1 hv=>?_⟩
  cases d with
  |dcu ks ds=>
   obtain ⟨a,kvs,rfl,e,e1,hd⟩:∃a kvs,v=.ref a/\H1 a=some (.dT (KTp X.K) kvs)/\kvs.map (·.1)=ks/\DVs (gx X) (Ow O0 ow) H1 (kvs.map (·.2)) ds:=by
    rcases hv with hv | ⟨a,rfl,_,hv⟩
    ·cases hv with
     |dcu n e a b hs=>subst b;exact ⟨_,_,rfl,e,a,hs⟩
    ·obtain ⟨kvs,vs,e,a1,b1,hs⟩:=hv
     subst b1
     exact ⟨a,kvs,rfl,e,a1,hs⟩
   refine ⟨.inr (.inr (.inl ⟨rfl,.inr ⟨_,kvs,.inl e⟩⟩)),a,kvs,rfl,rfl,e,λb hb=>?_⟩
   have ne:a≠b:=λz=>by rw [z,hb] at e;cases e
   refine ⟨b,a,kvs,rfl,aW,by rw [cH ne];exact e,λl hl=>?_⟩
   have nb:l≠b:=λz=>by rw [z,aW] at hl;cases hl
   have hl1:H1 l=none:=by rw [cH nb] at hl;exact hl
   have gg:aM H1 (upd (upd H1 b (.ext (Gk b a))) l (.lst (kvs.map (·.2)))):=(bz hb _).trans (bz hl _)
   exact q l _ (g1.trans gg) (g1.free hl1) ⟨_,aW,(hd.bO λc z=>z.elim .inl λe=>.inr (by rw [e];exact hl1)).mono gg⟩
  |_=>exact q.elim
end
def aah (K:W.Frag)(tk tv:TE):TE:=λσ H Q=>∀p,H p=none->tk σ (upd H p (.dT (KTp K) [])) λx H1=>tv σ H1 λy H2=>
 H2 p=some (.dT (KTp K) [])/\∃ks b,x=.ref b/\TrT (KTp K) H2 b ks/\Q (.ref p) (upd H2 p (.dT (KTp K) [(ks,y)]))
section
variable {X:Cx}{k v:Expr}{pos:Pos}{tk tv:TE}
theorem Sw (hu:X.A.units+16<cLine)(hk:PE X k tk)(hv:PE X v tv):PE X (.Dict [some k] [v] pos) (aah X.K tk tv):=by
 intro pins s σ H Q I q
 have hn:=I.hok.fresh (Nat.le_refl s.heap.objs.size)
 have I1:=I.laid (a:=s.heap.objs.size) (o:=.dT (KTp X.K) []) (h':=s.heap.push { cls:=.type "dict",data:=.dict #[] }) (t':=s.toks) (λ_ _ q=>Heap.get?_push_of_some _ q) (Nat.le_refl _) (Io s.heap I.big)
 have pl:(pairTrees [some k] [v] X.env pos).length=1:=pairTrees_length [some k] [v] X.env pos rfl rfl
 rw [arm_eval_Dict,zip_pairTrees [some k] [v] X.env pos rfl rfl,dictDisplay_pairs _ (λz=>by rw [z] at pl;cases pl) (by rw [pl];decide)]
 refine wpAny_bind (wpAny_standAt (wpAny_bind ?_))
 unfold subDict
 refine wpAny_bind (wpAny_alloc (wpAny_bind (wpAny_holding ?_)))
 rw [if_pos (by rw [pl];decide)]
 refine wpAny_bind (pairTrees_cons_walk (thn (hk pins _ σ _ _ I1 (q _ hn)) λu s1 ⟨x,H1,J1,rx,q1⟩=>thn (hv pins s1 σ H1 _ J1 q1) λr s2 ⟨y,H2,I2,ry,e,ks,b,ex,eb,q2⟩=>pairTrees_nil_walk (wpAny_holding ?_)))
 subst ex
 cases (show u=Value.ref b from rx)
 obtain ⟨z,hd,xs,rel,dd⟩:=Uu (xH I2) I2.hok e
 cases rel
 rw [List.forIn_cons]
 refine wpAny_bind (wpAny_bind ?_)
 show wpAny _ _ (dictSet s.heap.objs.size (.ref b) r >>= _) _ _ s2
 refine (wpAny_bind (wpAny_dictSet_heap (hsz:=Nat.zero_le _) (show X.A.units+8<cLine by omega) (ug I2 eb) dd λh' dd' hs=>wpAny_pure ?_))
 dsimp only
 rw [List.forIn_nil]
 refine wpAny_pure (wpAny_pure (wpAny_pure (wpAny_pure ?_)))
 obtain ⟨qo,es,ep,hq,h2,h3,h4,_,h5⟩:=dd'
 refine ⟨.ref s.heap.objs.size,upd H2 s.heap.objs.size (.dT (KTp X.K) [(ks,y)]),uT I2 (by rw [e];exact True.intro) hs ⟨qo,hq⟩ ⟨by show 1<=_;decide,hd,_,?_,qo,es,ep,hq,h2,h3,h4,h5⟩,rfl,q2⟩
 refine KT.keeps (H:=H2) (Paired.cons ⟨rfl,eb,ry⟩ .nil) λc ys ec=>?_
 rw [cH (QZ ec e (λz=>nomatch z))]
 exact ec
end
noncomputable def J2 (fk fv:Zae):Zae:=λm=>(fk m).bind λk=>(fv m).bind λd=>(ofO (um k)).bind λks=>.ok (.dcu [ks] [d])
section
variable {X:Cx}{E:XK}{k v:Expr}{pos:Pos}{fk fv:Zae}
theorem Q5 {j:Nat}(hr:gR j X.A)(hk:FE X E k fk)(hv:FE X E v fv):FN X E (.Dict [some k] [v] pos) (J2 fk fv):=
 bI (Sw (iV hr) hk hv) λσ H Q ⟨O0,M0,H0,ow,m,R,q⟩ p hp=>by
  have g0:aM H (upd H p (.dT (KTp X.K) [])):=bz hp _
  have R1:=R.more g0 hp (by rw [aW];exact .inr (.inr (.inl ⟨(KTp X.K,[]),rfl⟩)))
  refine ⟨Op O0 p,M0,H0,ow,m,R1,q.bind.imp g0 λkd q x H1 g1 hx=>⟨Op O0 p,M0,H0,ow,m,R1.mono g1,q.bind.imp (g0.trans g1) λd q y H2 g2 hy=>?_⟩⟩
  obtain ⟨ks,h1,q⟩:=q.bind.ofO
  obtain ⟨b,rfl,hb⟩:=sS (.inl (hx.mono g2)) h1
  have e2:H2 p=some (.dT (KTp X.K) []):=g2 _ _ (g1 _ _ aW)
  have R2:=(R1.mono g1).mono g2
  have kp:Kp (Ow (Op O0 p) ow) H2 (upd H2 p (.dT (KTp X.K) [(ks,y)])):=λc o e n=>by rw [cH (λz=>n (.inl (.inr z)))];exact e
  refine ⟨e2,ks,b,rfl,hb,q p _ (λc o e=>?_) hp ⟨_,_,aW,rfl,rfl,.cons ((hy.kp R2.mutk kp).bO λc z=>.inl ?_) .nil⟩⟩
  ·rw [cH (λz=>by rw [z,hp] at e;cases e)]
   exact g2 _ _ (g1 _ _ (g0 _ _ e))
  ·rcases z with (z | z) | z
   ·exact .inl (.inl z)
   ·exact .inr z
   ·exact .inl (.inr z)
end
noncomputable def wF:List ((Zae)×(Zae))->Me->Res (List (D×D))
 |[],_=>.ok []
 |f::r,m=>(f.1 m).bind λk=>(f.2 m).bind λd=>(wF r m).bind λl=>.ok ((k,d)::l)
inductive DPs (G:Gx)(O:Zaa)(H:Hp):List (V×V)->List (D×D)->Prop where
 |nil:DPs G O H [] []
 |cons {x y:V} {k d:D} {ps:List (V×V)} {l:List (D×D)}:DV G O H x k->DV G O H y d->DPs G O H ps l->DPs G O H ((x,y)::ps) ((k,d)::l)
theorem DPs.mono {G:Gx}{O:Zaa}{H H':Hp}(g:aM H H'):∀{ps:List (V×V)} {l:List (D×D)},DPs G O H ps l->DPs G O H' ps l
 |_,_,.nil=>.nil
 |_,_,.cons a b r=>.cons (a.mono g) (b.mono g) (r.mono g)
noncomputable def Eb:List Key->List D->List (D×D)->Option (List Key×List D)
 |ks,ds,[]=>some (ks,ds)
 |ks,ds,p::r=>(m6 p.1).bind λk=>Eb (putD ks ds k p.2).1 (putD ks ds k p.2).2 r
noncomputable def M9 (fs:List ((Zae)×(Zae))):Zae:=λm=>(wF fs m).bind λl=>if l.length<=15 then (ofO (Eb [] [] l)).bind λr=>.ok (.dct r.1 r.2) else .stuck
noncomputable abbrev Jg (X:Cx)(E:XK)(fs:List ((Zae)×(Zae))):List (TE×TE):=fs.map λf=>(tE (gx X) E f.1,tE (gx X) E f.2)
section
variable {X:Cx}{E:XK}
theorem Hg {O0 M0:Zaa}{H0:Hp}{ow:Os}{σ:L2.St}{m:Me}{Hb:Hp}:∀(fs:List ((Zae)×(Zae))) {H:Hp} {K:List (D×D)->Prop} {Q:List (V×V)->Hp->Prop},aM Hb H->Rel (gx X) O0 M0 H0 ow σ H m->Pu (gx X) E (wF fs m) Hb K->
  (∀l ps H',K l->aM H H'->DPs (gx X) (Ow O0 ow) H' ps l->Q ps H')->wR (Jg X E fs) σ H Q
 |[],H,K,Q,_,R,q,f=>f [] [] H q (aM.refl _) .nil
 |g::r,H,K,Q,gb,R,q,f=>by
  refine ⟨O0,M0,H0,ow,m,R,q.bind.imp gb λkd q x H1 g1 hx=>⟨O0,M0,H0,ow,m,R.mono g1,q.bind.imp (gb.trans g1) λd q y H2 g2 hy=>?_⟩⟩
  refine Hg r ((gb.trans g1).trans g2) ((R.mono g1).mono g2) q.bind λl ps H3 k g3 hl=>?_
  exact f _ _ _ k ((g1.trans g2).trans g3) (.cons ((hx.mono g2).mono g3) (hy.mono g3) hl)
theorem JG {G:Gx}{O:Zaa}{H:Hp}:∀{l:List (D×D)} {ps:List (V×V)} {ks rk:List Key} {ds rd:List D} {acc:List (Key×V)},DPs G O H ps l->Eb ks ds l=some (rk,rd)->acc.map (·.1)=ks->DVs G O H (acc.map (·.2)) ds->
  ∃kvs:List (Key×V),ps=kvs.map (λkv=>(kV kv.1,kv.2))/\(jV acc kvs).map (·.1)=rk/\DVs G O H ((jV acc kvs).map (·.2)) rd
 |_,_,ks,rk,ds,rd,acc,.nil,e,e1,e2=>by cases e;exact ⟨[],rfl,e1,e2⟩
 |_,_,ks,rk,ds,rd,acc,.cons (x:=x) (y:=y) a b r,e,e1,e2=>by
  obtain ⟨k,hk,e⟩:=Option.bind_eq_some_iff.mp e
  have ex:=Bd (.inl a) hk
  obtain ⟨p1,p2⟩:=Gi (k:=k) b e2
  rw [e1] at p1 p2
  obtain ⟨kvs,q1,q2,q3⟩:=JG (acc:=putK acc k y) r e p1 p2
  exact ⟨(k,y)::kvs,by rw [List.map_cons,← q1,ex],q2,q3⟩
theorem DPs.bO {G:Gx}{O O':Zaa}{H:Hp}(s:∀b,O' b->O b\/H b=none):∀{ps:List (V×V)} {l:List (D×D)},DPs G O H ps l->DPs G O' H ps l
 |_,_,.nil=>.nil
 |_,_,.cons a b r=>.cons (a.bO s) (b.bO s) (r.bO s)
theorem DPs.len {G:Gx}{O:Zaa}{H:Hp}:∀{ps:List (V×V)} {l:List (D×D)},DPs G O H ps l->ps.length=l.length
 |_,_,.nil=>rfl
 |_,_,.cons _ _ r=>by rw [List.length_cons,List.length_cons,r.len]
theorem XS {keys:List (Option Expr)}{values:List Expr}{pos:Pos}{fs:List ((Zae)×(Zae))}(h:PPs X pos keys values (Jg X E fs))(hall:keys.all (·.isSome)=true)(hl:keys.length=values.length)(h0:keys≠[])(h15:keys.length<=15):
  FN X E (.Dict keys values pos) (M9 fs):=
 bI (NB h hall hl h0 h15) λσ H Q ⟨O0,M0,H0,ow,m,R,q⟩ p hp=>by
  have g0:aM H (upd H p (.dK [])):=bz hp _
  have R1:=R.more g0 hp (by rw [aW];exact .inr (.inl ⟨[],rfl⟩))
  refine Hg fs g0 R1 q.bind λl ps H2 q g2 hl2=>?_
  obtain ⟨hz,q⟩:=wL q
  obtain ⟨r,h1,q⟩:=q.bind.ofO
  have R2:=R1.mono g2
  have e2:H2 p=some (.dK []):=g2 _ _ aW
  obtain ⟨kvs,q1,q2,q3⟩:=JG (acc:=[]) hl2 h1 rfl .nil
  have len:=hl2.len
  rw [q1,List.length_map] at len
  have kp:Kp (Ow (Op O0 p) ow) H2 (upd H2 p (.dK (jV [] kvs))):=λc o e n=>by rw [cH (λz=>n (.inl (.inr z)))];exact e
  refine ⟨e2,kvs,q1,by omega,q p _ (λc o e=>?_) hp ⟨_,_,aW,q2,rfl,(q3.kp R2.mutk kp).bO λc z=>.inl ?_⟩⟩
  ·rw [cH (λz=>by rw [z,hp] at e;cases e)]
   exact g2 _ _ (g0 _ _ e)
  ·rcases z with (z | z) | z
   ·exact .inl (.inl z)
   ·exact .inr z
   ·exact .inl (.inr z)
end
section
variable {pr:Program}{wo:World}{A:Around}{E:Zs}{s:Shared}
end
section
variable {pr:Program}{wo:World}{κ:Type}[DecidableEq κ]{kn:KeyKind pr wo κ}{A:Around}{R:Result->Shared->Prop}{I:Addr}{fp wr:List Addr}{G:Array GenState->Array GenState->Prop}{n:Nat}{P:Nat->Value->Prop}{St:Nat->Shared->Prop}
end
section
variable {pr:Program}{wo:World}{κ:Type}[DecidableEq κ]{kn:KeyKind pr wo κ}{A:Around}{E:Zs}{s:Shared}
end
section
variable {X:Cx}{pins:Zl}{σ:L2.St}{H:Hp}{s:Shared}
end
section
variable {X:Cx}{pins:Zl}{σ:L2.St}{H:Hp}{s:Shared}
end
section
variable {prog:Program}{w:World}{A:Around}{E:Zs}{s:Shared}{d it v:Addr}{es:Array DictEntry}{ep i:Nat}
end
section
variable {prog:Program}{w:World}{A:Around}{E:Zs}{s:Shared}{d it v:Addr}{es:Array DictEntry}{ep i:Nat}
end
section
variable {X:Cx}
end
section
variable {X:Cx}{E:XK}{o:Expr}{fo:Zae}{p pos apos cpos:Pos}
end
section
variable {X:Cx}{tg:Expr}
end
noncomputable def FQ (m:Me)(i:Nat):Option (Bool×D):=match m[i]? with
 |some (.ow d)=>some (true,d)
 |some (.io d)=>some (false,d)
 |_=>none
noncomputable def yx (m:Me)(i:Nat)(k:Bool)(d:D):Me:=m.set i (if k then .ow d else .io d)
section
variable {G:Gx}{O0 M0:Zaa}{H0:Hp}{ow:Os}{σ:L2.St}{H:Hp}{m:Me}
theorem XC (R:Rel G O0 M0 H0 ow σ H m){i:Nat}{k:Bool}{d:D}(e:FQ m i=some (k,d)):∃a,ow i=some a/\σ[i]? = some (some (.ref a))/\OV G (Ow O0 ow) H a d/\((m[i]? = some (.ow d)/\k=true)\/(m[i]? = some (.io d)/\k=false)):=by
 unfold FQ at e
 split at e
 ·rename_i q
  cases e
  obtain ⟨a,e1,e2,e3,e4⟩:=R.slot i _ q
  exact ⟨a,e1,e3,e4,.inl ⟨q,rfl⟩⟩
 ·rename_i q
  cases e
  obtain ⟨a,e1,e2,e3,e4⟩:=R.slot i _ q
  exact ⟨a,e1,e3,e4,.inr ⟨q,rfl⟩⟩
 ·cases e
end
noncomputable def jM {α:Type}(p:Nat)(x:α)(l:List α):List α:=l.take p++x::l.drop p
theorem Bk {α:Type}{p:Nat}{x:α}{l:List α}:(jM p x l).length=l.length+1:=by
 simp [jM];omega
theorem N7 {α:Type}{p:Nat}{x:α}{l:List α}(h:p<=l.length):(jM p x l)[p]? = some x:=by
 unfold jM
 rw [List.getElem?_append_right (by simp;omega)]
 simp [Nat.min_eq_left h]
theorem K5 {α:Type}{p i:Nat}{x:α}{l:List α}(h:i<p)(hp:p<=l.length):(jM p x l)[i]? = l[i]?:=by
 unfold jM
 rw [List.getElem?_append_left (by simp;omega),List.getElem?_take_of_lt h]
theorem N6 {α:Type}{p i:Nat}{x:α}{l:List α}(h:p<=i)(hp:p<=l.length):(jM p x l)[i+1]? = l[i]?:=by
 unfold jM
 rw [List.getElem?_append_right (by simp;omega)]
 have:i+1-(l.take p).length=(i-p)+1:=by simp [Nat.min_eq_left hp];omega
 rw [this,List.getElem?_cons_succ,List.getElem?_drop]
 congr 1
 omega
noncomputable def pO (m:Me)(p:Nat):Option D:=match m[p]? with
 |some (.io d)=>some d
 |_=>none
theorem Te {m:Me}{p:Nat}{d:D}(h:pO m p=some d):m[p]? = some (.io d):=by
 unfold pO at h
 split at h
 ·rename_i q;cases h;exact q
 ·cases h
section
variable {P:Program}{w:World}{K:W.Frag}{mg:Zp}{base:Heap}
end
def tAH (G:Gx)(E:XK)(i p:Nat)(f:Zad):TA:=λσ H Q=>∃O0 M0 H0 ow m a,Rel G O0 M0 H0 ow σ H m/\σ[i]? = some (some (.ref a))/\Pu G E (f m) H λds=>p<=ds.length/\∀us H',aM H H'->DVs G (Ow O0 ow) H' us ds->Q (jM p (.ref a) us) H'
abbrev FAH (X:Cx)(E:XK)(es:List Expr)(i p:Nat)(f:Zad):Prop:=PA X es (tAH (gx X) E i p f)
section
variable {X:Cx}{E:XK}{e:Expr}{es:List Expr}{fa:Zae}{fs:Zad}{i p:Nat}{y:Str}{np:Pos}
theorem rJ (ha:FAE X E es fs)(hN:X.N[i]? = some y:=by rfl)(hv:Vis X.env.scope y:=by first | exact Or.inl rfl | exact Or.inr (Or.inl rfl) | exact Or.inr (Or.inr rfl))(hd:(y == ("__debug__" : Str))=false:=by decide)(hcd:(y == ("__classdict__" : Str))=false:=by decide)
  (he:starEach (.Name y np::es) X.env=(false,eval (.Name y np) X.env)::starEach es X.env:=by rfl):FAH X E (.Name y np::es) i 0 fs:=
 kO (jd (jx hN hv hd hcd) ha he) λσ H Q ⟨O0,M0,H0,ow,m,a,R,ea,q⟩=>
  ⟨_,ea,O0,M0,H0,ow,m,R,q.imp (aM.refl _) λds q vs H' g hv=>q.2 vs H' g hv⟩
theorem uV (ha:FE X E e fa)(hr:FAH X E es i p fs)(he:starEach (e::es) X.env=(false,eval e X.env)::starEach es X.env:=by rfl):FAH X E (e::es) i (p+1) (aa fa fs):=
 kO (jd ha hr he) λσ H Q ⟨O0,M0,H0,ow,m,a,R,ea,q⟩=>⟨O0,M0,H0,ow,m,R,q.bind.imp (aM.refl _) λd q v H1 g1 hv=>
  ⟨O0,M0,H0,ow,m,a,R.mono g1,ea,q.bind.imp g1 λds q=>⟨by have:=q.1;simpa using this,λus H2 g2 hus=>q.2 _ H2 (g1.trans g2) (.cons (hv.mono g2) hus)⟩⟩⟩
end
theorem Xs.at {G:Gx}{E:XK}{O0 M0:Zaa}{H0 H H1:Hp}{ow:Os}{σ:L2.St}{α:Type}{r:Res (α×Me)}{k:α->Hp->Prop}(h:Xs G E O0 M0 H0 ow σ H r k)(g:aM H H1):Xs G E O0 M0 H0 ow σ H1 r k:=h.imp (Go.refl g) λ_ _ _ _ _ _ q=>q
noncomputable def aai (i j:Nat)(fs:Zad):Zab:=λm=>(fs m).bind λds=>match ds with
 |[d,e]=>.ok (.nx,(m.set i (.fz d)).set j (.fz e))
 |_=>.stuck
theorem aan {X:Cx}{E:XK}{i j:Nat}{x y:Str}{a b:Expr}{fs:Zad}{px py pt pos:Pos}{kt k2 pt2}(hc:X.calm=true)(hN:X.N.Nodup)(hi:X.N[i]? = some x)(hj:X.N[j]? = some y)(hij:i≠j)
  (hx:X.env.scope.names.lookup x=some .local) (hy:X.env.scope.names.lookup y=some .local) (ha:FAE X E [a,b] fs)
  (hw:swappedStores [.Tuple [.Name x px,.Name y py] kt pt] (.Tuple [a,b] k2 pt2) X.env=pure (some [x,y]):=by rfl)
  (hs:swapsWithSole [.Tuple [.Name x px,.Name y py] kt pt] (.Tuple [a,b] k2 pt2) pos.line X.env=pure false:=by rfl):
  FS X E (.Assign [.Tuple [.Name x px,.Name y py] kt pt] (.Tuple [a,b] k2 pt2) pos) (aai i j fs):=
 cL (aaC hc hN hi hj hij hx hy ha hw hs) λW σ H hE=>xq5 hE λO0 M0 H0 ow m R q=>⟨O0,M0,H0,ow,m,R.toRel,(Ss.pu R.toRel q).imp (aM.refl _) λds q vs H' g hv=>by
  have z:∃d e,ds=[d,e]:=by
   cases ds with
   |nil=>exact q.elim
   |cons d ds=>cases ds with
    |nil=>exact q.elim
    |cons e ds=>cases ds with
     |nil=>exact ⟨d,e,rfl⟩
     |cons _ _=>exact q.elim
  obtain ⟨d,e,rfl⟩:=z
  cases hv with
  |cons h1 h3=>cases h3 with
  |cons h2 h4=>
   cases h4
   refine ⟨_,_,rfl,?_⟩
   have R1:=(R.mono g).set (i:=i) h1
   have R2:=R1.set (i:=j) (h2.bO λb z=>.inl z.sub)
   exact q _ _ _ R2 (((Go.refl g).trans Go.set).trans Go.set)⟩
section
variable {G:Gx}{O0 M0:Zaa}{H0 H H':Hp}{ow:Os}{σ:L2.St}{m m':Me}
theorem cZ.many {ch:Nat->Prop}(R:cZ G O0 M0 H0 ow σ H m)(hl:m'.length=m.length)(old:∀i,¬ch i->m'[i]? = m[i]?)(g:Kp (λb=>∃i,ch i/\ow i=some b) H H')
  (new:∀i s,ch i->m'[i]? = some s->HW G (Ow O0 ow) M0 H0 (ow i) (σ[i]?) H' s/\∀d,s≠.bw d) (mu:∀i b,ch i->ow i=some b->fL (H' b)/\(H0 b=none\/M0 b)):cZ G O0 M0 H0 ow σ H' m'/\Go O0 ow H ow H':=by
 have mn:∀b,fL (H' b)->H' b≠none:=λb z w=>by rw [w] at z;rcases z with ⟨_,e⟩ | ⟨_,e⟩ | ⟨_,e⟩ | ⟨_,e⟩<;>cases e
 have kp:Kp (Ow O0 ow) H H':=λb u e n=>g b u e λ⟨i,_,z⟩=>n (.inr ⟨i,z⟩)
 have dom:∀b,H b≠none->H' b≠none:=λb n=>by
  by_cases q:∃i,ch i/\ow i=some b
  ·obtain ⟨i,c,e⟩:=q;exact mn b (mu i b c e).1
  ·cases w:H b with
   |none=>exact absurd w n
   |some o=>rw [g b o w q];simp
 refine ⟨⟨⟨by rw [hl];exact R.len,λb u e n=>?_,λb z=>dom b (R.m0 b z),λb z=>?_,R.no0,R.inj,λj hj=>R.out j (by omega),λj s e=>?_⟩,λj d e=>?_⟩,kp,λj b e=>.inl (.inr ⟨j,e⟩),dom⟩
 ·refine g b u (R.keep b u e n) λ⟨i,c,z⟩=>?_
  rcases (mu i b c z).2 with w | w
  ·rw [w] at e;cases e
  ·exact n w
 ·by_cases q:∃i,ch i/\ow i=some b
  ·obtain ⟨i,c,e⟩:=q;exact (mu i b c e).1
  ·have:=R.mutk b z
   rcases this with ⟨_,e⟩ | ⟨_,e⟩ | ⟨_,e⟩ | ⟨_,e⟩
   ·exact .inl ⟨_,g b _ e q⟩
   ·exact .inr (.inl ⟨_,g b _ e q⟩)
   ·exact .inr (.inr (.inl ⟨_,g b _ e q⟩))
   ·exact .inr (.inr (.inr ⟨_,g b _ e q⟩))
 ·by_cases c:ch j
  ·exact (new j s c e).1
  ·rw [old j c] at e
   have z:=R.slot j s e
   have other:∀{b:Addr} {d:D},ow j=some b->OV G (Ow O0 ow) H b d->OV G (Ow O0 ow) H' b d:=λ{b d} e1 h1=>by
    have nb:¬ ∃i,ch i/\ow i=some b:=λ⟨i,ci,ei⟩=>c (R.inj j i b e1 ei ▸ ci)
    rcases h1.mut with ⟨_,e⟩ | ⟨_,e⟩ | ⟨_,e⟩ | ⟨_,e⟩<;>exact h1.kp R.mutk kp (by rw [e];exact g b _ e nb)
   cases s with
   |un=>exact z
   |fz d=>obtain ⟨b,x,e,q⟩:=z;exact ⟨b,x,e,q.kp R.mutk kp⟩
   |ow d=>obtain ⟨b,x,e,f,q'⟩:=z;exact ⟨b,x,e,f,other x q'⟩
   |io d=>obtain ⟨b,x,e,f,q'⟩:=z;exact ⟨b,x,e,f,other x q'⟩
   |bw d=>exact (R.nb j d e).elim
   |hd w b d=>obtain ⟨x,e,f,q'⟩:=z;exact ⟨x,e,f,other x q'⟩
 ·by_cases c:ch j
  ·exact (new j _ c e).2 d rfl
  ·rw [old j c] at e;exact R.nb j d e
end
noncomputable def wA (j:Nat)(f:Zae):Zae:=λm=>(f m).bind λd=>match d,m[j]? with
 | .adr a,some (.hd _ b d')=>if a=b then .ok d' else .stuck
 |_,_=>.stuck
section
variable {X:Cx}{E:XK}{e b ke:Expr}{f fb fk:Zae}{pos spos:Pos}
theorem aaF {m:Me}{j:Nat}{d r:D}(h:(match d,m[j]? with | .adr a,some (.hd _ b d')=>if a=b then Res.ok d' else .stuck | _,_=>.stuck)=.ok r):∃w a,d=.adr a/\m[j]? = some (.hd w a r):=by
 cases d with
 |adr a=>
  cases q:m[j]? with
  |none=>rw [q] at h;cases h
  |some s=>
   cases s with
   |hd w b d'=>
    rw [q] at h
    by_cases z:a=b
    ·have h:(if a=b then Res.ok d' else .stuck)=.ok r:=h
     rw [if_pos z] at h
     cases h
     exact ⟨w,a,rfl,by rw [z]⟩
    ·have h:(if a=b then Res.ok d' else .stuck)=.ok r:=h
     rw [if_neg z] at h
     cases h
   |_=>rw [q] at h;cases h
 |_=>cases h
theorem Ou {m:Me}{j:Nat}{d:D}{c:Str}:(match d,m[j]? with | .adr a,some (.hd _ b d')=>if a=b then Res.ok d' else .stuck | _,_=>.stuck)≠.exc c:=λh=>by
 cases d with
 |adr a=>
  cases q:m[j]? with
  |none=>rw [q] at h;cases h
  |some s=>
   cases s with
   |hd w b d'=>
    rw [q] at h
    have h:(if a=b then Res.ok d' else .stuck)=.exc c:=h
    split at h<;>cases h
   |_=>rw [q] at h;cases h
 |_=>cases h
theorem xj (j:Nat)(h:FE X E e f):FB X E e (wA j f):=bI h λσ H Q hE=>xq5 hE λO0 M0 H0 ow m R q=>⟨O0,M0,H0,ow,m,R,q.bind.imp (aM.refl _) λd q v H' g hv=>by
 cases z:(match d,m[j]? with | .adr a,some (.hd _ b d')=>if a=b then Res.ok d' else .stuck | _,_=>.stuck) with
 |ok r=>
  rw [z] at q
  obtain ⟨w,a,rfl,e⟩:=aaF z
  cases hv
  obtain ⟨x1,x2,x3,x4⟩:=(R.mono g).slot j _ e
  exact q _ H' g (.inr ⟨a,rfl,.inr ⟨j,x1⟩,x4⟩)
 |exc c=>exact (Ou z).elim
 |stuck=>rw [z] at q;exact q.elim⟩
noncomputable def vM (m:Me)(j:Nat):Option (Bool×Addr×D):=match m[j]? with
 |some (.hd w a d)=>some (w,a,d)
 |_=>none
theorem za {m:Me}{j:Nat}{w:Bool}{a:Addr}{d:D}(h:vM m j=some (w,a,d)):m[j]? = some (.hd w a d):=by
 unfold vM at h
 split at h
 ·rename_i q;cases h;exact q
 ·cases h
theorem cZ.Yx {G:Gx}{O0 M0:Zaa}{H0 H:Hp}{ow:Os}{σ:L2.St}{m:Me}{j:Nat}{w:Bool}{a:Addr}{d d':D}{o:HO}(R:cZ G O0 M0 H0 ow σ H m)(e:m[j]? = some (.hd w a d))(hm:fL (some o))
  (h:Kp (Ow O0 ow) H (L2.upd H a o)->OV G (Ow O0 ow) (L2.upd H a o) a d'):cZ G O0 M0 H0 ow σ (L2.upd H a o) (m.set j (.hd w a d'))/\Go O0 ow H ow (L2.upd H a o):=by
 obtain ⟨x1,x2,x3,x4⟩:=R.slot j _ e
 have kp:Kp (Ow O0 ow) H (L2.upd H a o):=λb u eb n=>m8 b u eb λz=>n (z ▸ .inr ⟨j,x1⟩)
 refine R.many (ch:=(· = j)) (by simp) (λi n=>List.getElem?_set_ne (Ne.symm n)) (λb u eb n=>m8 b u eb λz=>n ⟨j,rfl,by rw [x1,z]⟩) (λi s c es=>?_) (λi b c eb=>?_)
 ·subst c
  rw [List.getElem?_set_self (mU e)] at es
  cases es
  exact ⟨⟨x1,x2,x3,h kp⟩,λd z=>by cases z⟩
 ·subst c
  rw [x1] at eb
  cases eb
  refine ⟨by rw [L2.aW];exact hm,?_⟩
  cases w with
  |true=>exact .inl (x2 rfl)
  |false=>exact .inr (x3 rfl)
noncomputable def uU (j:Nat)(fb fk fv:Zae):Zab:=λm=>(fv m).bind λd=>(fb m).bind λc=>(ofO (vM m j)).bind λo=>(fk m).bind λk=>(ofO (um k)).bind λk=>match c,o.2.2 with
 | .adr a,.dcu ks ds=>if a=o.2.1/\ks.length<sizeLine then .ok (.nx,m.set j (.hd o.1 a (.dcu (jk ks ds k d).1 (jk ks ds k d).2))) else .stuck
 |_,_=>.stuck
theorem Jz {jj:Nat}(j:Nat)(hr:gR jj X.A)(he:FE X E e f)(hb:FE X E b fb)(hk:FE X E ke fk)
  (hs:swapsWith e (some (.Subscript b ke spos)) pos.line X.env=pure false:=by rfl):FS X E (.Assign [.Subscript b ke spos] e pos) (uU j fb fk f):=
 cL (yI (iV hr) hb hk he hs) λW σ H hE=>xq5 hE λO0 M0 H0 ow m R q=>
  ⟨O0,M0,H0,ow,m,R.toRel,(Ss.pu R.toRel q).imp (aM.refl _) λd q v H1 g1 hv=>by
   have R1:=R.mono g1
   refine ⟨O0,M0,H0,ow,m,R1.toRel,(Ss.pu R1.toRel (q.go (Go.refl g1))).imp (aM.refl _) λc q vc H2 g2 hc=>?_⟩
   have R2:=R1.mono g2
   obtain ⟨o,ho,q⟩:=Ss.ofO q
   obtain ⟨w,a,dd⟩:=o
   have ho:=za ho
   refine ⟨O0,M0,H0,ow,m,R2.toRel,(Ss.pu R2.toRel (q.go (Go.refl g2))).imp (aM.refl _) λdk q vk H3 g3 hvk=>?_⟩
   obtain ⟨ky,h1,q⟩:=Ss.ofO q
   obtain ⟨b,rfl,hb⟩:=sS (.inl hvk) h1
   have R3:=R2.mono g3
   cases c with
   |adr a'=>
    cases hc
    cases dd with
    |dcu ks ds=>
     by_cases hz:a'=a/\ks.length<sizeLine
     ·have q':Ss (gx X) E O0 M0 H0 ow H2 W (if a'=a/\ks.length<sizeLine then .ok (.nx,m.set j (.hd w a' (.dcu (jk ks ds ky d).1 (jk ks ds ky d).2))) else .stuck):=q
      rw [if_pos hz] at q'
      clear q
      obtain ⟨rfl,hz⟩:=hz
      obtain ⟨x1,x2,x3,kvs,vs,e4,e5,rfl,e6⟩:=R3.slot j _ ho
      obtain ⟨p1,p2⟩:=Mj (k:=ky) (hv.mono (g2.trans g3)) e6
      rw [e5] at p1 p2
      obtain ⟨R4,g4⟩:=R3.Yx (o:=.dT (KTp X.K) (putK kvs ky v)) (d':=.dcu (jk ks ds ky d).1 (jk ks ds ky d).2) ho (.inr (.inr (.inl ⟨(_,_),rfl⟩))) (λkp=>⟨_,_,L2.aW,p1,rfl,p2.kp R3.mutk kp⟩)
      exact ⟨a',_,rfl,BJ.t e4 hb (by rw [← List.length_map (f:=(·.1)),e5];exact hz),q' _ _ _ R4 ((Go.refl g3).trans g4)⟩
     ·have q:Ss (gx X) E O0 M0 H0 ow H2 W (if a'=a/\ks.length<sizeLine then .ok (.nx,m.set j (.hd w a' (.dcu (jk ks ds ky d).1 (jk ks ds ky d).2))) else .stuck):=q
      rw [if_neg hz] at q;exact q.elim
    |_=>exact q.elim
   |_=>exact q.elim⟩
noncomputable def sH (j:Nat)(fb fk fv:Zae):Zab:=λm=>(fv m).bind λd=>(fb m).bind λc=>(ofO (vM m j)).bind λo=>(fk m).bind λk=>match c,o.2.2,k with
 | .adr a,.lst ds,.int n=>if a=o.2.1 then (ofO (ixN ds.length n)).bind λi=>.ok (.nx,m.set j (.hd o.1 a (.lst (ds.set i d)))) else .stuck
 |_,_,_=>.stuck
theorem Hw (j:Nat)(he:FE X E e f)(hb:FE X E b fb)(hk:FE X E ke fk)
  (ha:∀v,assign (.Subscript b ke spos) X.env v=(do
   let ov ← holding [v] (eval b X.env)
   let iv ← holding [v,ov] (eval ke X.env)
   standAt spos
   holding [v,ov,iv] (setItem ov iv v)
   release [v,ov,iv] []):=by intro _;rfl)
  (hs:swapsWithSole [.Subscript b ke spos] e pos.line X.env=pure false:=by rfl) (hw:swappedStores [.Subscript b ke spos] e X.env=pure none:=by rfl)
  (h1:(assignEach [.Subscript b ke spos] X.env).map (·.2)=[assign (.Subscript b ke spos) X.env]:=by rfl):FS X E (.Assign [.Subscript b ke spos] e pos) (sH j fb fk f):=
 cL (Gu he (Tg hb hk set_list ha) hs hw h1) λW σ H hE=>xq5 hE λO0 M0 H0 ow m R q=>
  ⟨O0,M0,H0,ow,m,R.toRel,(Ss.pu R.toRel q).imp (aM.refl _) λd q v H1 g1 hv=>by
   have R1:=R.mono g1
   refine ⟨O0,M0,H0,ow,m,R1.toRel,(Ss.pu R1.toRel (q.go (Go.refl g1))).imp (aM.refl _) λc q vc H2 g2 hc=>?_⟩
   have R2:=R1.mono g2
   obtain ⟨o,ho,q⟩:=Ss.ofO q
   obtain ⟨w,a,dd⟩:=o
   have ho:=za ho
   refine ⟨O0,M0,H0,ow,m,R2.toRel,(Ss.pu R2.toRel (q.go (Go.refl g2))).imp (aM.refl _) λdk q vk H3 g3 hvk=>?_⟩
   have R3:=R2.mono g3
   cases c with
   |adr a'=>
    cases hc
    cases dd with
    |lst ds=>
     cases dk with
     |int n=>
      cases hvk
      have q':Ss (gx X) E O0 M0 H0 ow H2 W (if a'=a then (ofO (ixN ds.length n)).bind λi=>.ok (.nx,m.set j (.hd w a' (.lst (ds.set i d)))) else .stuck):=q
      by_cases hz:a'=a
      ·rw [if_pos hz] at q'
       clear q
       subst hz
       obtain ⟨i,hi,q⟩:=Ss.ofO q'
       obtain ⟨x1,x2,x3,xs,e4,e5⟩:=R3.slot j _ ho
       obtain ⟨R4,g4⟩:=R3.Yx (o:=.lst (xs.set i v)) (d':=.lst (ds.set i d)) ho (.inl ⟨_,rfl⟩) (λkp=>⟨_,L2.aW,(xn (hv.mono (g2.trans g3)) i e5).kp R3.mutk kp⟩)
       exact ⟨a',xs,n,i,rfl,rfl,e4,by rw [bM e5];exact hi,q _ _ _ R4 ((Go.refl g3).trans g4)⟩
      ·rw [if_neg hz] at q';exact q'.elim
     |_=>exact q.elim
    |_=>exact q.elim
   |_=>exact q.elim⟩
end
def RK (G:Gx)(p:Nat)(Φ:List D->D->Addr×D->Addr×D->Res (D×D×D×D)):Sp:=λvs H Q E=>∃O a us ds d x y,vs=jM p (.ref a) us/\p<=ds.length/\(∀b,O b->fL (H b))/\(O a/\OV G O H a d)/\(O x.1/\OV G O H x.1 x.2)/\(O y.1/\OV G O H y.1 y.2)/\(a≠x.1/\a≠y.1/\x.1≠y.1)/\DVs G O H us ds/\match Φ ds d x y with
 | .ok (r,d',e,f)=>∀v H',Kp (λb=>b=a\/b=x.1\/b=y.1) H H'->OV G O H' a d'->OV G O H' x.1 e->OV G O H' y.1 f->DV G O H' v r->Q v H'
 | .exc c=>∀C H',G.mg c=some (.ref C)->Kp (λb=>b=a\/b=x.1\/b=y.1) H H'->E (.ref C) none H'
 | .stuck=>False
noncomputable def jr (m:Me)(j:Nat)(a:Addr):Option D:=match m[j]? with
 |some (.hd false b d)=>if a=b then some d else none
 |_=>none
theorem Mh {m:Me}{j:Nat}{a:Addr}{d:D}(h:jr m j a=some d):m[j]? = some (.hd false a d):=by
 unfold jr at h
 split at h
 ·rename_i b d' q
  split at h
  ·rename_i z;cases h;rw [z];exact q
  ·cases h
 ·cases h
noncomputable def runST (p N n:Nat)(g:Zab):List D->D->Addr×D->Addr×D->Res (D×D×D×D):=λds d x y=>if ds.length+1=n then match g (jM p (.io d) (ds.map Sl.fz)++(List.replicate (N-n - 2) Sl.un++[.hd false x.1 x.2,.hd false y.1 y.2])) with
  | .ok (.rt _ r,m')=>(ofO (pO m' p)).bind λd'=>(ofO (jr m' (N - 2) x.1)).bind λe=>(ofO (jr m' (N - 1) y.1)).bind λf=>.ok (r,d',e,f)
  | .ok (.nx,m')=>(ofO (pO m' p)).bind λd'=>(ofO (jr m' (N - 2) x.1)).bind λe=>(ofO (jr m' (N - 1) y.1)).bind λf=>.ok (.non,d',e,f)
  | .exc c=>.exc c
  |_=>.stuck
 else .stuck
abbrev FST (P:Program)(w:World)(K:W.Frag)(mg:Zp)(base:Heap)(k:Nat)(x:Str)(ps:List Str)(p:Nat)(Φ:List D->D->Addr×D->Addr×D->Res (D×D×D×D)):Prop:=Hd.Fn P w K mg base k x ps (RK ⟨K,mg⟩ p Φ)
noncomputable def ow3 (i j1 j2:Nat)(a a1 a2:Addr):Os:=λk=>if k=i then some a else if k=j1 then some a1 else if k=j2 then some a2 else none
theorem aax {O:Zaa}{i j1 j2:Nat}{a a1 a2:Addr}(h:O a)(h1:O a1)(h2:O a2)(n1:i≠j1)(n2:i≠j2)(n3:j1≠j2):Ow (λb=>O b/\b≠a/\b≠a1/\b≠a2) (ow3 i j1 j2 a a1 a2)=O:=by
 funext b
 refine propext ⟨λz=>?_,λz=>?_⟩
 ·rcases z with z | ⟨k,e⟩
  ·exact z.1
  ·unfold ow3 at e
   split at e
   ·cases e;exact h
   ·split at e
    ·cases e;exact h1
    ·split at e
     ·cases e;exact h2
     ·cases e
 ·by_cases q:b=a
  ·exact .inr ⟨i,by unfold ow3;rw [if_pos rfl,q]⟩
  ·by_cases q1:b=a1
   ·exact .inr ⟨j1,by unfold ow3;rw [if_neg (Ne.symm n1),if_pos rfl,q1]⟩
   ·by_cases q2:b=a2
    ·exact .inr ⟨j2,by unfold ow3;rw [if_neg (Ne.symm n2),if_neg (Ne.symm n3),if_pos rfl,q2]⟩
    ·exact .inl ⟨z,q,q1,q2⟩
theorem Tu {G:Gx}{O:Zaa}{H:Hp}{N:List Str}{a:Addr}{us:List V}{ds:List D}{d:D}{x y:Addr×D}{n p:Nat}(hp:p<=ds.length)(hm:∀b,O b->fL (H b))(ho:O a/\OV G O H a d)(hx:O x.1/\OV G O H x.1 x.2)(hy:O y.1/\OV G O H y.1 y.2)(nd:a≠x.1/\a≠y.1/\x.1≠y.1)(hd:DVs G O H us ds)(hn:ds.length+1=n)(hN:n+2<=N.length):
  cZ G (λb=>O b/\b≠a/\b≠x.1/\b≠y.1) (λb=>b=a\/b=x.1\/b=y.1) H (ow3 p (N.length - 2) (N.length - 1) a x.1 y.1) (L2.start N (jM p (.ref a) us)) H (jM p (.io d) (ds.map Sl.fz)++(List.replicate (N.length-n - 2) Sl.un++[.hd false x.1 x.2,.hd false y.1 y.2])):=by
 have hl:=bM hd
 have n1:p≠N.length - 2:=by omega
 have n2:p≠N.length - 1:=by omega
 have n3:N.length - 2≠N.length - 1:=by omega
 have eO:=aax ho.1 hx.1 hy.1 n1 n2 n3
 have hlen:(jM p (V.ref a) us).length=n:=by rw [Bk,hl];exact hn
 have hst:∀i v,(jM p (V.ref a) us)[i]? = some v->(L2.start N (jM p (.ref a) us))[i]? = some (some v):=λi v e=>by
  have hi:i<(jM p (V.ref a) us).length:=(List.getElem?_eq_some_iff.mp e).1
  unfold L2.start
  rw [List.getElem?_append_left (by simpa using hi),List.getElem?_map,e]
  rfl
 have hml:(jM p (Sl.io d) (ds.map Sl.fz)).length=n:=by rw [Bk,List.length_map];exact hn
 have op:ow3 p (N.length - 2) (N.length - 1) a x.1 y.1 p=some a:=if_pos rfl
 have o1:ow3 p (N.length - 2) (N.length - 1) a x.1 y.1 (N.length - 2)=some x.1:=by unfold ow3;rw [if_neg (Ne.symm n1),if_pos rfl]
 have o2:ow3 p (N.length - 2) (N.length - 1) a x.1 y.1 (N.length - 1)=some y.1:=by unfold ow3;rw [if_neg (Ne.symm n2),if_neg (Ne.symm n3),if_pos rfl]
 have on:∀i,i≠p->i≠N.length - 2->i≠N.length - 1->ow3 p (N.length - 2) (N.length - 1) a x.1 y.1 i=none:=λi h1 h2 h3=>by unfold ow3;rw [if_neg h1,if_neg h2,if_neg h3]
 have key:∀(i:Nat) (s:Sl),(jM p (Sl.io d) (ds.map Sl.fz)++(List.replicate (N.length-n - 2) Sl.un++[.hd false x.1 x.2,.hd false y.1 y.2]))[i]? = some s->
   (i=p/\s=.io d)\/(i≠p/\i<n/\∃d1 v,s=.fz d1/\DV G O H v d1/\(jM p (V.ref a) us)[i]? = some v)\/(n<=i/\i<N.length - 2/\s=.un)\/(i=N.length - 2/\s=.hd false x.1 x.2)\/(i=N.length - 1/\s=.hd false y.1 y.2):=λi s e=>by
  by_cases hi:i<n
  ·rw [List.getElem?_append_left (by rw [hml];exact hi)] at e
   by_cases q:i=p
   ·subst q
    rw [N7 (by simpa using hp)] at e
    cases e
    exact .inl ⟨rfl,rfl⟩
   ·refine .inr (.inl ⟨q,hi,?_⟩)
    by_cases lt:i<p
    ·rw [K5 lt (by simpa using hp),List.getElem?_map] at e
     cases ed:ds[i]? with
     |none=>rw [ed] at e;cases e
     |some d1=>
      rw [ed] at e
      cases e
      obtain ⟨v,hv,dx⟩:=ud hd ed
      exact ⟨d1,v,rfl,dx,by rw [K5 lt (by omega)];exact hv⟩
    ·obtain ⟨j,rfl⟩:∃j,i=j+1:=⟨i - 1,by omega⟩
     rw [N6 (by omega) (by simpa using hp),List.getElem?_map] at e
     cases ed:ds[j]? with
     |none=>rw [ed] at e;cases e
     |some d1=>
      rw [ed] at e
      cases e
      obtain ⟨v,hv,dx⟩:=ud hd ed
      exact ⟨d1,v,rfl,dx,by rw [N6 (by omega) (by omega)];exact hv⟩
  ·rw [List.getElem?_append_right (by rw [hml];omega),hml] at e
   by_cases hi2:i-n<N.length-n - 2
   ·rw [List.getElem?_append_left (by simpa using hi2),List.getElem?_replicate,if_pos hi2] at e
    cases e
    exact .inr (.inr (.inl ⟨by omega,by omega,rfl⟩))
   ·rw [List.getElem?_append_right (by simpa using hi2),List.length_replicate] at e
    rcases (show i-n-(N.length-n - 2)=0\/i-n-(N.length-n - 2)=1\/2<=i-n-(N.length-n - 2) by omega) with z | z | z
    ·rw [z] at e;cases e
     exact .inr (.inr (.inr (.inl ⟨by omega,rfl⟩)))
    ·rw [z] at e;cases e
     exact .inr (.inr (.inr (.inr ⟨by omega,rfl⟩)))
    ·rw [List.getElem?_eq_none (by simpa using z)] at e;cases e
 refine ⟨⟨?_,λb o e _=>e,λb z=>?_,λb z=>by rw [eO] at z;exact hm b z,λi b e=>?_,λi j b e1 e2=>?_,λi hi=>?_,λi s e=>?_⟩,λj d' e=>?_⟩
 ·rw [List.length_append,hml,List.length_append,List.length_replicate]
  unfold L2.start
  rw [List.length_append,List.length_map,hlen,List.length_replicate]
  simp
  omega
 ·have mn:∀b,fL (H b)->H b≠none:=λb z w=>by rw [w] at z;rcases z with ⟨_,e⟩ | ⟨_,e⟩ | ⟨_,e⟩ | ⟨_,e⟩<;>cases e
  rcases z with z | z | z
  ·rw [z];exact mn _ ho.2.mut
  ·rw [z];exact mn _ hx.2.mut
  ·rw [z];exact mn _ hy.2.mut
 ·intro z
  unfold ow3 at e
  split at e
  ·cases e;exact z.2.1 rfl
  ·split at e
   ·cases e;exact z.2.2.1 rfl
   ·split at e
    ·cases e;exact z.2.2.2 rfl
    ·cases e
 ·have inv:∀k b,ow3 p (N.length - 2) (N.length - 1) a x.1 y.1 k=some b->(k=p/\b=a)\/(k=N.length - 2/\b=x.1)\/(k=N.length - 1/\b=y.1):=λk b e=>by
   unfold ow3 at e
   split at e
   ·rename_i q;cases e;exact .inl ⟨q,rfl⟩
   ·split at e
    ·rename_i q;cases e;exact .inr (.inl ⟨q,rfl⟩)
    ·split at e
     ·rename_i q;cases e;exact .inr (.inr ⟨q,rfl⟩)
     ·cases e
  obtain ⟨d1,d2,d3⟩:=nd
  rcases inv i b e1 with ⟨u1,u2⟩ | ⟨u1,u2⟩ | ⟨u1,u2⟩<;>rcases inv j b e2 with ⟨w1,w2⟩ | ⟨w1,w2⟩ | ⟨w1,w2⟩
  ·rw [u1,w1]
  ·exact absurd (u2.symm.trans w2) d1
  ·exact absurd (u2.symm.trans w2) d2
  ·exact absurd (w2.symm.trans u2) d1
  ·rw [u1,w1]
  ·exact absurd (u2.symm.trans w2) d3
  ·exact absurd (w2.symm.trans u2) d2
  ·exact absurd (w2.symm.trans u2) d3
  ·rw [u1,w1]
 ·rw [List.length_append,hml,List.length_append,List.length_replicate] at hi
  simp at hi
  exact on i (by omega) (by omega) (by omega)
 ·rw [eO]
  rcases key i s e with ⟨rfl,rfl⟩ | ⟨q,hi,d1,v,rfl,dx,hv⟩ | ⟨q1,q2,rfl⟩ | ⟨rfl,rfl⟩ | ⟨rfl,rfl⟩
  ·exact ⟨a,op,.inl rfl,hst _ _ (N7 (by omega)),ho.2⟩
  ·exact ⟨on i q (by omega) (by omega),v,hst _ _ hv,dx⟩
  ·exact on i (by omega) (by omega) (by omega)
  ·exact ⟨o1,(λz=>by cases z),λ_=>.inr (.inl rfl),hx.2⟩
  ·exact ⟨o2,(λz=>by cases z),λ_=>.inr (.inr rfl),hy.2⟩
 ·rcases key j _ e with ⟨_,z⟩ | ⟨_,_,_,_,z,_⟩ | ⟨_,_,z⟩ | ⟨_,z⟩ | ⟨_,z⟩<;>cases z
section
variable {P:Program}{w:World}{K:W.Frag}{mg:Zp}{base:Heap}
theorem Ab {x qual:Str}{st:Stmt}{f:Addr}{fd:FuncData}{N ps:List Str}{k:Nat}(p:Nat){g:Zab}(Fu:Fun K x qual st f fd)(S:aY N ps (aN st))(hN:ps.length+2<=N.length)
  (hbody:∀(cdv:Value) (A:Around) (outer:List Env) (s:Shared) (H:Hp) (E:XK),gR k (A.deeper (envOfC qual (aN st) s.heap.objs.size f cdv))->
   FSs (Aq (CX1 P w) P w K mg base N qual (aN st) f cdv A outer s H E) E (jz st) g):o7 P w K mg base (CX1 P w) (k+1) f fd ps (RK ⟨K,mg⟩ p (runST p N.length ps.length g)):=by
 have cond:∀{ds:List D} {d:D} {u v:Addr×D},runST p N.length ps.length g ds d u v≠.stuck->ds.length+1=ps.length:=λ{ds d u v} h=>by
  by_cases z:ds.length+1=ps.length
  ·exact z
  ·unfold runST at h;rw [if_neg z] at h;exact absurd rfl h
 refine Mr Fu S (λvs H Q E h=>?_) (λcdv A outer s H vs Q E hr h=>?_)
 ·obtain ⟨O,a,us,ds,d,u,v,rfl,_,_,_,_,_,_,hd,q⟩:=h
  rw [Bk,bM hd]
  exact cond λz=>by rw [z] at q;exact q
 ·obtain ⟨O,a,us,ds,d,u,v,rfl,hp,hm,ho,hu,hv,nd,hd,q⟩:=h
  have hn:=cond (ds:=ds) (d:=d) λz=>by rw [z] at q;exact q
  unfold runST at q
  rw [if_pos hn] at q
  refine ⟨_,hbody cdv A outer s H E hr,_,_,H,_,_,Tu hp hm ho hu hv nd hd hn hN,?_⟩
  have fin:∀{ow' σ' H' m' d' e' f'},cZ (⟨K,mg⟩:Gx) (λb=>O b/\b≠a/\b≠u.1/\b≠v.1) (λb=>b=a\/b=u.1\/b=v.1) H ow' σ' H' m'->pO m' p=some d'->jr m' (N.length - 2) u.1=some e'->jr m' (N.length - 1) v.1=some f'->
    Kp (λb=>b=a\/b=u.1\/b=v.1) H H'/\OV ⟨K,mg⟩ O H' a d'/\OV ⟨K,mg⟩ O H' u.1 e'/\OV ⟨K,mg⟩ O H' v.1 f'/\∀z r,DV (⟨K,mg⟩:Gx) (Ow (λb=>O b/\b≠a/\b≠u.1/\b≠v.1) ow') H' z r->DV ⟨K,mg⟩ O H' z r:=λ{ow' σ' H' m' d' e' f'} R e0 e1 e2=>by
   obtain ⟨a',k1,k2,k3,k4⟩:=R.slot p _ (Te e0)
   obtain ⟨x1,x2,x3,x4⟩:=R.slot _ _ (Mh e1)
   obtain ⟨y1,y2,y3,y4⟩:=R.slot _ _ (Mh e2)
   have ea:a'=a:=by
    rcases k2 with z | z | z
    ·exact z
    ·have:=R.inj p _ _ k1 (z ▸ x1);omega
    ·have:=R.inj p _ _ k1 (z ▸ y1);omega
   subst ea
   have sub:∀b,O b->Ow (λb=>O b/\b≠a'/\b≠u.1/\b≠v.1) ow' b\/H' b=none:=λb z=>by
    by_cases q:b=a'
    ·exact .inl (.inr ⟨p,by rw [q];exact k1⟩)
    ·by_cases q1:b=u.1
     ·exact .inl (.inr ⟨_,by rw [q1];exact x1⟩)
     ·by_cases q2:b=v.1
      ·exact .inl (.inr ⟨_,by rw [q2];exact y1⟩)
      ·exact .inl (.inl ⟨z,q,q1,q2⟩)
   exact ⟨R.keep,k4.bO sub,x4.bO sub,y4.bO sub,λz r h=>h.bO sub⟩
  cases z:g (jM p (.io d) (ds.map Sl.fz)++(List.replicate (N.length-ps.length - 2) Sl.un++[.hd false u.1 u.2,.hd false v.1 v.2])) with
  |exc c=>rw [z] at q;exact λC H' e kp=>q C H' e kp
  |stuck=>rw [z] at q;exact q.elim
  |ok b=>
   obtain ⟨fl,m'⟩:=b
   rw [z] at q
   cases fl with
   |bk=>exact q.elim
   |ct=>exact q.elim
   |nx=>
    intro ow' σ' H' R' _
    cases e0:pO m' p with
    |none=>simp only [e0] at q;exact q.elim
    |some d'=>
     cases e1:jr m' (N.length - 2) u.1 with
     |none=>simp only [e0,e1,pB,Res.mJ] at q;exact q.elim
     |some e'=>
      cases e2:jr m' (N.length - 1) v.1 with
      |none=>simp only [e0,e1,e2,pB,Res.mJ] at q;exact q.elim
      |some f'=>
       simp only [e0,e1,e2] at q
       obtain ⟨k1,k2,k3,k4,k5⟩:=fin R' e0 e1 e2
       exact q _ H' k1 k2 k3 k4 .non
   |rt fr r=>
    intro v' ow' σ' H' R' _ hv' _
    cases e0:pO m' p with
    |none=>simp only [e0] at q;exact q.elim
    |some d'=>
     cases e1:jr m' (N.length - 2) u.1 with
     |none=>simp only [e0,e1,pB,Res.mJ] at q;exact q.elim
     |some e'=>
      cases e2:jr m' (N.length - 1) v.1 with
      |none=>simp only [e0,e1,e2,pB,Res.mJ] at q;exact q.elim
      |some f'=>
       simp only [e0,e1,e2] at q
       obtain ⟨k1,k2,k3,k4,k5⟩:=fin R' e0 e1 e2
       exact q v' H' k1 k2 k3 k4 (k5 _ _ hv')
theorem abF {k p:Nat}{f:Addr}{fd:FuncData}{ps:List Str}:o7 P w K mg base (CX1 P w) k f fd ps (RK ⟨K,mg⟩ p λ_ _ _ _=>.stuck):=
 have n:∀{vs H Q E},¬RK ⟨K,mg⟩ p (λ_ _ _ _=>.stuck) vs H Q E:=λh=>by
  obtain ⟨_,_,_,_,_,_,_,_,_,_,_,_,_,_,_,q⟩:=h
  exact q
 ⟨λ_ _ _ _ h=>(n h).elim,λ_ _ _ _ _ _ _ _ _ _ _ _ _ h=>(n h).elim⟩
end
noncomputable def uA (Φ:List D->D->Addr×D->Addr×D->Res (D×D×D×D))(i p j1 j2:Nat)(fs:Zad):Me->Res (D×Me):=λm=>(ofO (FQ m i)).bind λo=>(ofO (vM m j1)).bind λh1=>(ofO (vM m j2)).bind λh2=>(fs m).bind λds=>if p<=ds.length then (Φ ds o.2 h1.2 h2.2).bind λr=>.ok (r.1,((yx m i o.1 r.2.1).set j1 (.hd h1.1 h1.2.1 r.2.2.1)).set j2 (.hd h2.1 h2.2.1 r.2.2.2)) else .stuck
theorem Il {X:Cx}{E:XK}{e0:Expr}{es:List Expr}{fs:Zad}{pos pp:Pos}{j k p:Nat}{x:Str}{ps:List Str}{Φ:List D->D->Addr×D->Addr×D->Res (D×D×D×D)}(i j1 j2:Nat)(Fh:FST X.prog X.w X.K X.mg X.base k x ps p Φ)(hr:gR j X.A)(hx:Passes (CX1 X.prog X.w) X E)(ha:FAH X E (e0::es) i p fs)(hk:k<=j:=by decide)(hg:Gl X x:=by rfl)
  (hj:j1≠j2:=by decide) (hdb:(x == ("__debug__" : Str))=false:=by decide) (he:starEach (e0::es) X.env=(false,eval e0 X.env)::starEach es X.env:=by rfl) (hpl:(backTo pos (starEach es X.env)).any (·.1)=false:=by rfl):
  FX X E (.Call (.Name x pp) (e0::es) [] pos) (uA Φ i p j1 j2 fs):=by
 obtain ⟨f,fd,G,b,kp,m⟩:=Fh.ex
 refine bI (Ey G (hr.mono hk) hg m kp b .nil hx ha hdb he hpl) λσ H Q hE=>xq5 hE λO0 M0 H0 ow m R q=>?_
 obtain ⟨o,ho,q⟩:=(Xs.pu R.toRel q).ofO
 obtain ⟨h1,hh1,q⟩:=(Xs.pu R.toRel q).ofO
 obtain ⟨h2,hh2,q⟩:=(Xs.pu R.toRel q).ofO
 obtain ⟨kk,d0⟩:=o
 obtain ⟨w1,a1,d1⟩:=h1
 obtain ⟨w2,a2,d2⟩:=h2
 obtain ⟨a,e1,e2,e4,e5⟩:=XC R.toRel ho
 have g1:=za hh1
 have g2:=za hh2
 obtain ⟨x1,x2,x3,x4⟩:=R.slot j1 _ g1
 obtain ⟨y1,y2,y3,y4⟩:=R.slot j2 _ g2
 have ni1:i≠j1:=λz=>by subst z;rcases e5 with ⟨s,_⟩ | ⟨s,_⟩<;>(rw [g1] at s;cases s)
 have ni2:i≠j2:=λz=>by subst z;rcases e5 with ⟨s,_⟩ | ⟨s,_⟩<;>(rw [g2] at s;cases s)
 have na1:a≠a1:=λz=>ni1 (R.inj i j1 a e1 (z ▸ x1))
 have na2:a≠a2:=λz=>ni2 (R.inj i j2 a e1 (z ▸ y1))
 have na3:a1≠a2:=λz=>hj (R.inj j1 j2 a1 x1 (z ▸ y1))
 refine ⟨O0,M0,H0,ow,m,a,R.toRel,e2,(Xs.pu R.toRel q).imp (aM.refl _) λds q=>?_⟩
 by_cases hp:p<=ds.length
 case neg=>rw [if_neg hp] at q;exact q.elim
 rw [if_pos hp] at q
 refine ⟨hp,λus H1 g3 hus=>?_⟩
 have R1:=R.mono g3
 have q:Xs (gx X) E O0 M0 H0 ow σ H1 ((Φ ds d0 (a1,d1) (a2,d2)).bind λr=>.ok (r.1,((yx m i kk r.2.1).set j1 (.hd w1 a1 r.2.2.1)).set j2 (.hd w2 a2 r.2.2.2))) _:=q.at g3
 show RK _ _ _ (jM p (V.ref a) us++[]) _ _ _
 rw [List.append_nil]
 refine ⟨Ow O0 ow,a,us,ds,d0,(a1,d1),(a2,d2),rfl,hp,R1.mutk,⟨.inr ⟨i,e1⟩,e4.mono g3⟩,⟨.inr ⟨j1,x1⟩,x4.mono g3⟩,⟨.inr ⟨j2,y1⟩,y4.mono g3⟩,⟨na1,na2,na3⟩,hus,?_⟩
 have m0a:H0 a=none\/M0 a:=by
  rcases e5 with ⟨s,_⟩ | ⟨s,_⟩
  ·obtain ⟨a',s1,s2,_⟩:=R.slot i _ s;rw [e1] at s1;cases s1;exact .inl s2
  ·obtain ⟨a',s1,s2,_⟩:=R.slot i _ s;rw [e1] at s1;cases s1;exact .inr s2
 have m01:H0 a1=none\/M0 a1:=by cases w1 with
  |true=>exact .inl (x2 rfl)
  |false=>exact .inr (x3 rfl)
 have m02:H0 a2=none\/M0 a2:=by cases w2 with
  |true=>exact .inl (y2 rfl)
  |false=>exact .inr (y3 rfl)
 cases z:Φ ds d0 (a1,d1) (a2,d2) with
 |stuck=>rw [z] at q;exact q.elim
 |exc c=>
  rw [z] at q
  refine λC H' e g=>q C H' e λb o e n=>?_
  refine g b o (R1.keep b o e n) λw=>?_
  rcases w with rfl | rfl | rfl
  ·rcases m0a with w | w
   ·rw [w] at e;cases e
   ·exact n w
  ·rcases m01 with w | w
   ·rw [w] at e;cases e
   ·exact n w
  ·rcases m02 with w | w
   ·rw [w] at e;cases e
   ·exact n w
 |ok r=>
  obtain ⟨rr,d',e',f'⟩:=r
  rw [z] at q
  intro v H' g ov1 ov2 ov3 hv
  have hi:i<m.length:=by rcases e5 with ⟨s,_⟩ | ⟨s,_⟩<;>exact mU s
  have ex:∀c,(((yx m i kk d').set j1 (.hd w1 a1 e')).set j2 (.hd w2 a2 f'))[c]? = if c=j2 then some (.hd w2 a2 f') else if c=j1 then some (.hd w1 a1 e') else if c=i then some (if kk then .ow d' else .io d') else m[c]?:=λc=>by
   have l1:=mU g1
   have l2:=mU g2
   unfold yx
   by_cases c2:c=j2
   ·subst c2;rw [if_pos rfl,List.getElem?_set_self (by simpa using l2)]
   ·rw [if_neg c2,List.getElem?_set_ne (Ne.symm c2)]
    by_cases c1:c=j1
    ·subst c1;rw [if_pos rfl,List.getElem?_set_self (by simpa using l1)]
    ·rw [if_neg c1,List.getElem?_set_ne (Ne.symm c1)]
     by_cases c0:c=i
     ·subst c0;rw [if_pos rfl,List.getElem?_set_self hi]
     ·rw [if_neg c0,List.getElem?_set_ne (Ne.symm c0)]
  obtain ⟨R2,G2⟩:=R1.many (m':=((yx m i kk d').set j1 (.hd w1 a1 e')).set j2 (.hd w2 a2 f')) (ch:=λc=>c=i\/c=j1\/c=j2) (by simp [yx]) (λc n=>by
    rw [ex,if_neg (λz=>n (.inr (.inr z))),if_neg (λz=>n (.inr (.inl z))),if_neg (λz=>n (.inl z))]) (λb o eb n=>g b o eb λw=>n (by
    rcases w with rfl | rfl | rfl
    ·exact ⟨i,.inl rfl,e1⟩
    ·exact ⟨j1,.inr (.inl rfl),x1⟩
    ·exact ⟨j2,.inr (.inr rfl),y1⟩)) (λc s cc es=>by
    rw [ex] at es
    rcases cc with rfl | rfl | rfl
    ·rw [if_neg ni2,if_neg ni1,if_pos rfl] at es
     cases es
     rcases e5 with ⟨s,rfl⟩ | ⟨s,rfl⟩
     ·obtain ⟨a',s1,s2,s3,_⟩:=R.slot c _ s
      rw [e1] at s1;cases s1
      exact ⟨⟨a,e1,s2,s3,ov1⟩,λd z=>by cases z⟩
     ·obtain ⟨a',s1,s2,s3,_⟩:=R.slot c _ s
      rw [e1] at s1;cases s1
      exact ⟨⟨a,e1,s2,s3,ov1⟩,λd z=>by cases z⟩
    ·rw [if_neg hj,if_pos rfl] at es
     cases es
     exact ⟨⟨x1,x2,x3,ov2⟩,λd z=>by cases z⟩
    ·rw [if_pos rfl] at es
     cases es
     exact ⟨⟨y1,y2,y3,ov3⟩,λd z=>by cases z⟩) (λc b cc eb=>by
    rcases cc with rfl | rfl | rfl
    ·rw [e1] at eb;cases eb;exact ⟨ov1.mut,m0a⟩
    ·rw [x1] at eb;cases eb;exact ⟨ov2.mut,m01⟩
    ·rw [y1] at eb;cases eb;exact ⟨ov3.mut,m02⟩)
  exact q H' R2 G2 v hv
open Classical in
def Vq (h:Addr->Addr->Res (Fl×Me))(m:Me):Res (Fl×Me):=
 if H:∃p:Bool×D,∀a1 a2:Addr,a1≠a2->∃m',h a1 a2=.ok (.rt p.1 p.2,m')/\m'.length=m.length then .ok (.rt (Classical.choose H).1 (Classical.choose H).2,m.map λ_=>.un) else .stuck
theorem Xi {h:Addr->Addr->Res (Fl×Me)}{m:Me}{fr:Bool}{d:D}(H:∀a1 a2:Addr,a1≠a2->∃m',h a1 a2=.ok (.rt fr d,m')/\m'.length=m.length):Vq h m=.ok (.rt fr d,m.map λ_=>.un):=by
 have Hx:∃p:Bool×D,∀a1 a2:Addr,a1≠a2->∃m',h a1 a2=.ok (.rt p.1 p.2,m')/\m'.length=m.length:=⟨(fr,d),H⟩
 have e:=Classical.choose_spec Hx
 obtain ⟨m1,e1,_⟩:=e 0 1 (by decide)
 obtain ⟨m2,e2,_⟩:=H 0 1 (by decide)
 rw [e1] at e2
 unfold Vq
 rw [dif_pos Hx]
 injection e2 with e2
 injection e2 with e2 _
 injection e2 with e3 e4
 rw [e3,e4]
section
variable {G:Gx}{O0 M0:Zaa}{H0 H H':Hp}{ow:Os}{σ:L2.St}{m:Me}
theorem cZ.forget (R:cZ G O0 M0 H0 ow σ H m){m':Me}(hl:m'.length=m.length):cZ G O0 M0 H0 (λ_=>none) σ H (m'.map λ_=>Sl.un)/\Go O0 ow H (λ_=>none) H:=by
 refine ⟨⟨⟨by rw [List.length_map,hl];exact R.len,R.keep,R.m0,λb z=>R.mutk b (z.elim .inl λ⟨_,e⟩=>by cases e),λi a e=>(by cases e),λi j a e _=>(by cases e),λi _=>rfl,λi s e=>?_⟩,λj d e=>?_⟩,λb o e _=>e,λi a e=>(by cases e),λ_ n=>n⟩
 ·rw [List.getElem?_map] at e
  cases q:m'[i]? with
  |none=>rw [q] at e;cases e
  |some s0=>rw [q] at e;cases e;rfl
 ·rw [List.getElem?_map] at e
  cases q:m'[j]? with
  |none=>rw [q] at e;cases e
  |some s0=>rw [q] at e;cases e
noncomputable def wk (ow:Os)(i j1 j2:Nat)(a a1 a2:Addr):Os:=λk=>if k=i then some a else if k=j1 then some a1 else if k=j2 then some a2 else ow k
theorem cZ.aci {i j1 j2:Nat}{p p1 p2:Addr}{d d1 d2:D}(R:cZ G O0 M0 H0 ow σ H m)(g:aM H H')(n:H p=none)(n1:H p1=none)(n2:H p2=none)(np1:p≠p1)(np2:p≠p2)(np3:p1≠p2)(hi:i<m.length)(h1:j1<m.length)(h2:j2<m.length)(ij1:i≠j1)(ij2:i≠j2)(jj:j1≠j2)
  (o:OV G (λb=>Ow O0 ow b\/b=p\/b=p1\/b=p2) H' p d) (o1:OV G (λb=>Ow O0 ow b\/b=p\/b=p1\/b=p2) H' p1 d1) (o2:OV G (λb=>Ow O0 ow b\/b=p\/b=p1\/b=p2) H' p2 d2):
  cZ G O0 M0 H0 (wk ow i j1 j2 p p1 p2) (σ.set i (some (.ref p))) H' (((m.set i (.ow d)).set j1 (.hd true p1 d1)).set j2 (.hd true p2 d2))/\Go O0 ow H (wk ow i j1 j2 p p1 p2) H':=by
 have q0:=R.toRel.Br n
 have q1:=R.toRel.Br n1
 have q2:=R.toRel.Br n2
 have inv:∀k b,wk ow i j1 j2 p p1 p2 k=some b->(k=i/\b=p)\/(k=j1/\b=p1)\/(k=j2/\b=p2)\/(k≠i/\k≠j1/\k≠j2/\ow k=some b):=λk b e=>by
  unfold wk at e
  split at e
  ·rename_i q;cases e;exact .inl ⟨q,rfl⟩
  ·split at e
   ·rename_i q;cases e;exact .inr (.inl ⟨q,rfl⟩)
   ·split at e
    ·rename_i q;cases e;exact .inr (.inr (.inl ⟨q,rfl⟩))
    ·rename_i a b c;exact .inr (.inr (.inr ⟨a,b,c,e⟩))
 have out:∀b,Ow O0 (wk ow i j1 j2 p p1 p2) b->Ow O0 ow b\/b=p\/b=p1\/b=p2:=λb z=>by
  rcases z with z | ⟨k,e⟩
  ·exact .inl (.inl z)
  ·rcases inv k b e with ⟨_,z⟩ | ⟨_,z⟩ | ⟨_,z⟩ | ⟨_,_,_,z⟩
   ·exact .inr (.inl z)
   ·exact .inr (.inr (.inl z))
   ·exact .inr (.inr (.inr z))
   ·exact .inl (.inr ⟨k,z⟩)
 have sub:∀b,Ow O0 (wk ow i j1 j2 p p1 p2) b->Ow O0 ow b\/H b=none:=λb z=>by
  rcases out b z with z | z | z | z
  ·exact .inl z
  ·rw [z];exact .inr n
  ·rw [z];exact .inr n1
  ·rw [z];exact .inr n2
 have R':=R.mono g
 have e0:wk ow i j1 j2 p p1 p2 i=some p:=if_pos rfl
 have e1:wk ow i j1 j2 p p1 p2 j1=some p1:=by unfold wk;rw [if_neg (Ne.symm ij1),if_pos rfl]
 have e2:wk ow i j1 j2 p p1 p2 j2=some p2:=by unfold wk;rw [if_neg (Ne.symm ij2),if_neg (Ne.symm jj),if_pos rfl]
 have en:∀k,k≠i->k≠j1->k≠j2->wk ow i j1 j2 p p1 p2 k=ow k:=λk a b c=>by unfold wk;rw [if_neg a,if_neg b,if_neg c]
 have ex:∀c,(((m.set i (.ow d)).set j1 (.hd true p1 d1)).set j2 (.hd true p2 d2))[c]? = if c=j2 then some (.hd true p2 d2) else if c=j1 then some (.hd true p1 d1) else if c=i then some (.ow d) else m[c]?:=λc=>by
  by_cases c2:c=j2
  ·subst c2;rw [if_pos rfl,List.getElem?_set_self (by simpa using h2)]
  ·rw [if_neg c2,List.getElem?_set_ne (Ne.symm c2)]
   by_cases c1:c=j1
   ·subst c1;rw [if_pos rfl,List.getElem?_set_self (by simpa using h1)]
   ·rw [if_neg c1,List.getElem?_set_ne (Ne.symm c1)]
    by_cases c0:c=i
    ·subst c0;rw [if_pos rfl,List.getElem?_set_self hi]
    ·rw [if_neg c0,List.getElem?_set_ne (Ne.symm c0)]
 refine ⟨⟨⟨by simp [R.len],R'.keep,R'.m0,λb z=>?_,λk a e=>?_,λk l a a1 a2=>?_,λk hk=>?_,λk s e=>?_⟩,λk dd e=>?_⟩,.of g,λk a e=>?_,(Go.refl (O0:=O0) (ow:=ow) g).dom⟩
 ·rcases out b z with z | z | z | z
  ·exact R'.mutk b z
  ·rw [z];exact o.mut
  ·rw [z];exact o1.mut
  ·rw [z];exact o2.mut
 ·rcases inv k a e with ⟨_,z⟩ | ⟨_,z⟩ | ⟨_,z⟩ | ⟨_,_,_,z⟩
  ·rw [z];exact λw=>q0 (.inl w)
  ·rw [z];exact λw=>q1 (.inl w)
  ·rw [z];exact λw=>q2 (.inl w)
  ·exact R.no0 k a z
 ·rcases inv k a a1 with ⟨u,z⟩ | ⟨u,z⟩ | ⟨u,z⟩ | ⟨_,_,_,z⟩<;>rcases inv l a a2 with ⟨v,y⟩ | ⟨v,y⟩ | ⟨v,y⟩ | ⟨_,_,_,y⟩
  ·rw [u,v]
  ·exact absurd (z.symm.trans y) np1
  ·exact absurd (z.symm.trans y) np2
  ·exact absurd (.inr ⟨l,z ▸ y⟩) q0
  ·exact absurd (y.symm.trans z) np1
  ·rw [u,v]
  ·exact absurd (z.symm.trans y) np3
  ·exact absurd (.inr ⟨l,z ▸ y⟩) q1
  ·exact absurd (y.symm.trans z) np2
  ·exact absurd (y.symm.trans z) np3
  ·rw [u,v]
  ·exact absurd (.inr ⟨l,z ▸ y⟩) q2
  ·exact absurd (.inr ⟨k,y ▸ z⟩) q0
  ·exact absurd (.inr ⟨k,y ▸ z⟩) q1
  ·exact absurd (.inr ⟨k,y ▸ z⟩) q2
  ·exact R.inj k l a z y
 ·have hk':m.length<=k:=by simpa using hk
  rw [en k (by omega) (by omega) (by omega)]
  exact R.out k hk'
 ·rw [ex] at e
  by_cases c2:k=j2
  ·rw [if_pos c2] at e
   cases e
   rw [c2]
   exact ⟨e2,λ_=>R.toRel.CG n2,(λz=>by cases z),o2.bO λb z=>.inl (out b z)⟩
  ·rw [if_neg c2] at e
   by_cases c1:k=j1
   ·rw [if_pos c1] at e
    cases e
    rw [c1]
    exact ⟨e1,λ_=>R.toRel.CG n1,(λz=>by cases z),o1.bO λb z=>.inl (out b z)⟩
   ·rw [if_neg c1] at e
    by_cases c0:k=i
    ·rw [if_pos c0] at e
     cases e
     rw [c0]
     exact ⟨p,e0,R.toRel.CG n,by rw [List.getElem?_set_self (by rw [R.len];exact hi)],o.bO λb z=>.inl (out b z)⟩
    ·rw [if_neg c0] at e
     rw [en k c0 c1 c2,List.getElem?_set_ne (Ne.symm c0)]
     exact ((R.slot k s e).bO sub λ_ _ b _=>Classical.em _).mono g
 ·rw [ex] at e
  split at e
  ·cases e
  ·split at e
   ·cases e
   ·split at e
    ·cases e
    ·exact R.nb k dd e
 ·rcases inv k a e with ⟨_,z⟩ | ⟨_,z⟩ | ⟨_,z⟩ | ⟨_,_,_,z⟩
  ·rw [z];exact .inr n
  ·rw [z];exact .inr n1
  ·rw [z];exact .inr n2
  ·exact .inl (.inr ⟨k,z⟩)
end
def Yg (i j1 j2:Nat)(fs1:List ((Zae)×(Zae)))(k1 f1 k2 f2:Zae)(fs2:List ((Zae)×(Zae)))(k:Zab):Zab:=λm=>
 (wF fs1 m).bind λl1=>(k1 m).bind λc1=>(f1 m).bind λd1=>(k2 m).bind λc2=>(f2 m).bind λd2=>(wF fs2 m).bind λl2=>
  if l1.length+2+l2.length<=15/\i<m.length/\j1<m.length/\j2<m.length then
   Vq (λa1 a2=>(ofO (Eb [] [] (l1++(c1,.adr a1)::(c2,.adr a2)::l2))).bind λr=>k (((m.set i (.ow (.dct r.1 r.2))).set j1 (.hd true a1 d1)).set j2 (.hd true a2 d2))) m
  else .stuck
theorem DPs.app {G:Gx}{O:Zaa}{H:Hp}:∀{ps qs:List (V×V)} {l r:List (D×D)},DPs G O H ps l->DPs G O H qs r->DPs G O H (ps++qs) (l++r)
 |_,_,_,_,.nil,h=>h
 |_,_,_,_,.cons a b t,h=>.cons a b (DPs.app t h)
section
variable {X:Cx}{E:XK}
theorem Bs {O0 M0:Zaa}{H0:Hp}{ow:Os}{σ:L2.St}{m:Me}{Hb:Hp}(rest:List (TE×TE)):∀(fs:List ((Zae)×(Zae))) {H:Hp} {K:List (D×D)->Prop} {Q:List (V×V)->Hp->Prop},aM Hb H->Rel (gx X) O0 M0 H0 ow σ H m->Pu (gx X) E (wF fs m) Hb K->
  (∀l ps H',K l->aM H H'->DPs (gx X) (Ow O0 ow) H' ps l->wR rest σ H' λqs H2=>Q (ps++qs) H2)->wR (Jg X E fs++rest) σ H Q
 |[],H,K,Q,_,R,q,f=>f [] [] H q (aM.refl _) .nil
 |g::r,H,K,Q,gb,R,q,f=>by
  refine ⟨O0,M0,H0,ow,m,R,q.bind.imp gb λkd q x H1 g1 hx=>⟨O0,M0,H0,ow,m,R.mono g1,q.bind.imp (gb.trans g1) λd q y H2 g2 hy=>?_⟩⟩
  refine Bs rest r ((gb.trans g1).trans g2) ((R.mono g1).mono g2) q.bind λl ps H3 k g3 hl=>?_
  exact f _ ((x,y)::ps) _ k ((g1.trans g2).trans g3) (.cons ((hx.mono g2).mono g3) (hy.mono g3) hl)
theorem T5 {i j1 j2:Nat}{y:Str}{py pos dpos:Pos}{keys:List (Option Expr)}{values:List Expr}{rest:List Stmt}{fs1 fs2:List ((Zae)×(Zae))}{k1 f1 k2 f2:Zae}{k:Zab}
  (hN:X.N.Nodup) (hi:X.N[i]? = some y) (hy:Loc X.env.scope y)
  (h:PPs X dpos keys values (Jg X E fs1++(tE (gx X) E k1,tN (gx X) E f1)::(tE (gx X) E k2,tN (gx X) E f2)::(Jg X E fs2++[]))) (hr:FSs X E rest k)
  (hall:keys.all (·.isSome)=true:=by rfl) (hl:keys.length=values.length:=by rfl) (h0:keys≠[]:=by exact (λz=>nomatch z)) (h15:keys.length<=15:=by decide) (ij1:i≠j1:=by decide) (ij2:i≠j2:=by decide) (jj:j1≠j2:=by decide)
  (hs:swapsWith (.Dict keys values dpos) (some (.Name y py)) pos.line X.env=pure false:=by rfl)
  (hf:X.fn y=true\/X.env.scope.names.lookup y=some .local:=by first | exact .inl rfl | exact .inr rfl | assumption):
  FSs X E (.Assign [.Name y py] (.Dict keys values dpos) pos::rest) (Yg i j1 j2 fs1 k1 f1 k2 f2 fs2 k):=by
 refine rC (Ak (xG hN hi hy (NB h hall hl h0 h15) hs hf) hr) λW σ H hE=>xq5 hE λO0 M0 H0 ow m R q=>?_
 intro p hp
 have g0:aM H (upd H p (.dK [])):=bz hp _
 have R1:=R.toRel.more g0 hp (by rw [aW];exact .inr (.inl ⟨[],rfl⟩))
 have ow_of:∀{O1:Zaa} {b:Addr} {l:Addr},Ow (Op O1 l) ow b->Ow O1 ow b\/b=l:=λz=>QM z
 refine Bs _ fs1 g0 R1 (Ss.pu R.toRel q) λl1 ps1 H2 q g2 hl1=>?_
 have R2:=R1.mono g2
 have hq:=Ss.pu R.toRel q
 refine ⟨_,_,_,_,_,R2,hq.imp (g0.trans g2) λc1 q x1 H3 g3 hx1=>?_⟩
 have R3:=R2.mono g3
 have hq:=Ss.pu R.toRel q
 refine ⟨_,_,_,_,_,R3,hq.imp ((g0.trans g2).trans g3) λd1 q p1 H4 g4 n1 ov1=>?_⟩
 have R4:=R3.more g4 n1 ov1.mut
 have hq:=Ss.pu R.toRel q
 refine ⟨_,_,_,_,_,R4,hq.imp (((g0.trans g2).trans g3).trans g4) λc2 q x2 H5 g5 hx2=>?_⟩
 have R5:=R4.mono g5
 have hq:=Ss.pu R.toRel q
 refine ⟨_,_,_,_,_,R5,hq.imp ((((g0.trans g2).trans g3).trans g4).trans g5) λd2 q p2 H6 g6 n2 ov2=>?_⟩
 have R6:=R5.more g6 n2 ov2.mut
 have hq:=Ss.pu R.toRel q
 refine Bs [] fs2 (((((g0.trans g2).trans g3).trans g4).trans g5).trans g6) R6 hq λl2 ps2 H7 q g7 hl2=>?_
 have R7:=R6.mono g7
 by_cases hc:l1.length+2+l2.length<=15/\i<m.length/\j1<m.length/\j2<m.length
 case neg=>rw [if_neg hc] at q;exact q.elim
 rw [if_pos hc] at q
 obtain ⟨hlen,li,lj1,lj2⟩:=hc
 unfold Vq at q
 split at q
 case isFalse=>exact q.elim
 rename_i HU
 have sp:=Classical.choose_spec HU
 generalize hfd:Classical.choose HU=fd at sp q
 obtain ⟨fr,dd⟩:=fd
 have gA:aM H H7:=((((((g0.trans g2).trans g3).trans g4).trans g5).trans g6).trans g7)
 have np1:p≠p1:=λz=>by
  have:H3 p=some (.dK []):=g3 _ _ (g2 _ _ aW)
  rw [z,n1] at this;cases this
 have np2:p≠p2:=λz=>by
  have:H5 p=some (.dK []):=g5 _ _ (g4 _ _ (g3 _ _ (g2 _ _ aW)))
  rw [z,n2] at this;cases this
 have np3:p1≠p2:=λz=>by
  have m1:=ov1.mut
  have:H5 p1≠none:=λw=>by
   have w4:H4 p1=none:=g5.free w
   rw [w4] at m1
   rcases m1 with ⟨_,e⟩ | ⟨_,e⟩ | ⟨_,e⟩ | ⟨_,e⟩<;>cases e
  exact this (z ▸ n2)
 have hp1:H p1=none:=(g0.trans (g2.trans g3)).free n1
 have hp2:H p2=none:=(g0.trans (g2.trans (g3.trans (g4.trans g5)))).free n2
 obtain ⟨m',eq,hlm⟩:=sp p1 p2 np3
 have eq:((ofO (Eb [] [] (l1++(c1,.adr p1)::(c2,.adr p2)::l2))).bind λr=>k (((m.set i (.ow (.dct r.1 r.2))).set j1 (.hd true p1 d1)).set j2 (.hd true p2 d2)))=.ok (.rt fr dd,m'):=eq
 cases em:Eb [] [] (l1++(c1,.adr p1)::(c2,.adr p2)::l2) with
 |none=>rw [em] at eq;cases eq
 |some r=>
  rw [em] at eq
  simp only [pB,Res.mJ] at eq
  let OO:Zaa:=λb=>Ow O0 ow b\/b=p\/b=p1\/b=p2
  have toOO:∀b,OO b->Ow (Op (Op (Op O0 p) p1) p2) ow b:=λb z=>by
   rcases z with (z | z) | z | z | z
   ·exact .inl (.inl (.inl (.inl z)))
   ·exact .inr z
   ·exact .inl (.inl (.inl (.inr z)))
   ·exact .inl (.inl (.inr z))
   ·exact .inl (.inr z)
  have fromOO:∀b,Ow (Op (Op (Op O0 p) p1) p2) ow b->OO b:=λb z=>by
   rcases z with (((z | z) | z) | z) | z
   ·exact .inl (.inl z)
   ·exact .inr (.inl z)
   ·exact .inr (.inr (.inl z))
   ·exact .inr (.inr (.inr z))
   ·exact .inl (.inr z)
  have a1:DPs (gx X) OO H7 ps1 l1:=(hl1.bO (O':=OO) (λb z=>by
   rcases z with z | z | z | z
   ·exact .inl (z.elim (λw=>.inl (.inl w)) .inr)
   ·exact .inl (.inl (.inr z))
   ·exact .inr (by rw [z];exact g3.free n1)
   ·exact .inr (by rw [z];exact (g3.trans (g4.trans g5)).free n2))).mono (g3.trans (g4.trans (g5.trans (g6.trans g7))))
  have a2:DV (gx X) OO H7 x1 c1:=(hx1.bO (O':=OO) (λb z=>by
   rcases z with z | z | z | z
   ·exact .inl (z.elim (λw=>.inl (.inl w)) .inr)
   ·exact .inl (.inl (.inr z))
   ·exact .inr (by rw [z];exact n1)
   ·exact .inr (by rw [z];exact (g4.trans g5).free n2))).mono (g4.trans (g5.trans (g6.trans g7)))
  have a3:DV (gx X) OO H7 x2 c2:=(hx2.bO (O':=OO) (λb z=>by
   rcases z with z | z | z | z
   ·exact .inl (z.elim (λw=>.inl (.inl (.inl w))) .inr)
   ·exact .inl (.inl (.inl (.inr z)))
   ·exact .inl (.inl (.inr z))
   ·exact .inr (by rw [z];exact n2))).mono (g6.trans g7)
  have a4:DPs (gx X) OO H7 ps2 l2:=hl2.bO λb z=>.inl (toOO b z)
  have dps:DPs (gx X) OO H7 (ps1++(x1,.ref p1)::(x2,.ref p2)::ps2) (l1++(c1,.adr p1)::(c2,.adr p2)::l2):=a1.app (.cons a2 (.adr p1) (.cons a3 (.adr p2) a4))
  obtain ⟨kvs,e1,e2,e3⟩:=JG (acc:=[]) dps em rfl .nil
  have len:=dps.len
  rw [e1,List.length_map] at len
  have len2:kvs.length<=15:=by simp at len;omega
  have e7:H7 p=some (.dK []):=g7 _ _ (g6 _ _ (g5 _ _ (g4 _ _ (g3 _ _ (g2 _ _ aW)))))
  refine ⟨e7,kvs,by rw [List.append_nil] at *;exact e1,len2,?_⟩
  have mOO:∀b,OO b->fL (H7 b):=λb z=>R7.mutk b (toOO b z)
  have kp:Kp OO H7 (upd H7 p (.dK (jV [] kvs))):=λc o e n=>by rw [cH (λz=>n (.inr (.inl z)))];exact e
  have gB:aM H (upd H7 p (.dK (jV [] kvs))):=λc o e=>by
   rw [cH (λz=>by rw [z,hp] at e;cases e)]
   exact gA _ _ e
  have b1:OV (gx X) OO (upd H7 p (.dK (jV [] kvs))) p (.dct r.1 r.2):=⟨_,_,aW,e2,rfl,e3.kp mOO kp⟩
  have b2:OV (gx X) OO (upd H7 p (.dK (jV [] kvs))) p1 d1:=by
   refine OV.kp mOO kp (cH (Ne.symm np1)) ?_
   refine (ov1.bO (O':=OO) λb z=>?_).mono (g5.trans (g6.trans g7))
   rcases z with z | z | z | z
   ·exact .inl (.inl (z.elim (λw=>.inl (.inl w)) .inr))
   ·exact .inl (.inl (.inl (.inr z)))
   ·exact .inl (.inr z)
   ·exact .inr (by rw [z];exact g5.free n2)
  have b3:OV (gx X) OO (upd H7 p (.dK (jV [] kvs))) p2 d2:=by
   refine OV.kp mOO kp (cH (Ne.symm np2)) ?_
   refine (ov2.mono g7).bO (O':=OO) λb z=>.inl ?_
   rcases z with z | z | z | z
   ·exact .inl (z.elim (λw=>.inl (.inl (.inl w))) .inr)
   ·exact .inl (.inl (.inl (.inr z)))
   ·exact .inl (.inl (.inr z))
   ·exact .inr z
  obtain ⟨R8,g8⟩:=R.aci gB hp hp1 hp2 np1 np2 np3 li lj1 lj2 ij1 ij2 jj b1 b2 b3
  refine ⟨O0,M0,H0,_,_,R8,?_⟩
  rw [eq]
  intro v ow' σ' H' R9 g9 hv hfr
  obtain ⟨R10,g10⟩:=R9.forget (m':=m) hlm.symm
  refine q v _ σ' H' R10 ((g8.trans g9).trans g10) (hv.bO λb z=>.inl (z.elim .inl λ⟨_,e⟩=>by cases e)) λz=>?_
  rcases hfr z with ⟨p0,u1,u2,u3⟩ | t
  ·exact .inl ⟨p0,u1,u2,u3.bO λb z=>.inl (z.elim (λw=>.inl (w.elim .inl λ⟨_,e⟩=>by cases e)) .inr)⟩
  ·exact .inr t
end
section
variable {X:Cx}{E:XK}{e:Expr}{fa:Me->Res (D×Me)}{pos apos cpos np:Pos}{x:Str}
noncomputable def pG (i:Nat)(f:Me->Res (D×Me)):Zab:=λm=>(ofO (jL m i)).bind λ_=>(f m).bind λp=>(ofO (jL p.2 i)).bind λo=>if o.2.length<sizeLine then .ok (.nx,putL p.2 i o.1 (o.2++[p.1])) else .stuck
theorem zJ (i:Nat)(he:FX X E e fa)(hN:X.N[i]? = some x:=by rfl)(hv:Vis X.env.scope x:=by first | exact Or.inl rfl | exact Or.inr (Or.inl rfl) | exact Or.inr (Or.inr rfl))(hd:(x == ("__debug__" : Str))=false:=by decide)(hcd:(x == ("__classdict__" : Str))=false:=by decide)
  (hbase:attributeBase (.Name x np) "append" X.env (eval (.Name x np) X.env)=eval (.Name x np) X.env:=by rfl)
  (hfew:((backTo cpos (starEach [e] X.env)).all (λx=>!x.1) && (backToKw cpos (keywordEach [] X.env)).all (λx=>x.1.isSome) && decide ([e].length+([]:List Keyword).length+(if ([]:List Keyword).isEmpty then 0 else 1)<30))=true:=by rfl)
  (hline:(apos.endLine == cpos.line)=true:=by rfl) (hs:starEach [e] X.env=(false,eval e X.env)::starEach [] X.env:=by rfl) (hplain:(backTo cpos (starEach [] X.env)).any (·.1)=false:=by rfl)
  (hsw:swapsWith (.Call (.Attribute (.Name x np) "append" apos) [e] [] cpos) none pos.line X.env=pure false:=by rfl):
  FS X E (.Expr (.Call (.Attribute (.Name x np) "append" apos) [e] [] cpos) pos) (pG i fa):=
 cL (vL (Li PySem.F.plainAttrs_list PySem.F.slot_list_append PySem.F.type_list_append w5 (jx hN hv hd hcd) (jd he p6 hs) hbase hfew hline hs hplain) hsw) λW σ H hE=>xq5 hE λO0 M0 H0 ow m R q=>by
  obtain ⟨o,ho,q⟩:=Ss.ofO q
  obtain ⟨k,ds⟩:=o
  obtain ⟨a,xs,e1,e2,e3,e4,e5⟩:=ql R.toRel ho
  refine ⟨_,e2,.inl ⟨rfl,xs,SqL.of e3⟩,O0,M0,H0,ow,m,R,(Xs.ss (k:=λd m'=>(ofO (jL m' i)).bind λo=>if o.2.length<sizeLine then .ok (.nx,putL m' i o.1 (o.2++[d])) else .stuck) q).imp (Go.refl (aM.refl _)) λd H1 m1 R1 g1 em q v hv=>?_⟩
  have q:=q m1 em R1
  obtain ⟨o,ho,q⟩:=Ss.ofO q
  obtain ⟨k',ds'⟩:=o
  obtain ⟨a',xs',f1,f2,f3,f4,f5⟩:=ql R1.toRel ho
  rw [e1] at f1
  cases f1
  by_cases hz:ds'.length<sizeLine
  ·have q:Ss (gx X) E O0 M0 H0 ow H1 W (if ds'.length<sizeLine then .ok (.nx,putL m1 i k' (ds'++[d])) else .stuck):=q
   rw [if_pos hz] at q
   obtain ⟨R2,g2⟩:=R1.put (es:=ds'++[d]) (ys:=xs'++[v]) e1 f5 (jB f4 (.cons hv .nil))
   exact ⟨a,xs',v,rfl,rfl,f3,by rw [bM f4];exact hz,q _ _ _ R2 g2⟩
  ·have q:Ss (gx X) E O0 M0 H0 ow H1 W (if ds'.length<sizeLine then .ok (.nx,putL m1 i k' (ds'++[d])) else .stuck):=q
   rw [if_neg hz] at q;exact q.elim
noncomputable def uh (f:Me->Res (D×Me)):Zab:=λm=>(f m).bind λp=>.ok (.rt false p.1,p.2)
theorem Iv (he:FX X E e fa):FS X E (.Return (some e) pos) (uh fa):=cL (DX he) λW σ H hE=>xq5 hE λO0 M0 H0 ow m R q=>by
 refine ⟨O0,M0,H0,ow,m,R,(Xs.ss (k:=λd m'=>.ok (.rt false d,m')) q).imp (Go.refl (aM.refl _)) λd H1 m1 R1 g1 e1 q v hv=>?_⟩
 exact q m1 e1 R1 v ow σ H1 R1 (Go.refl (aM.refl _)) hv λz=>by cases z
end
end F
namespace L2
open PySem PySem.Spec PyProof.Rows
noncomputable def Itd (hi:Int)(n:Nat):It:=⟨λi _=>i<n,λi H x H'=>H'=H/\x=.int (hi-i),λi _=>n<=i⟩
theorem Oz {P:Program}{w:World}{K:PySem.W.Frag}{tg:Expr}(it:Addr)(hi:Int)(n:Nat):Turn P w K tg (Itd hi n) [it] it (λi h=>IsRangeIter h it (hi+(i:Nat)*(-1)) ((n:Int)-(i:Nat)) (-1)) where
 mem:=by simp
 obj:=λi h st b hb=>by
  have e:b=it:=by simpa using hb
  subst e
  exact ⟨_,st,λv z=>by
   have z':Data.fields _=Data.cell v:=z
   cases z'⟩
 keep:=λi h h' st k=>k it (by simp) _ st
 item:=by
  intro X hP hw hK hc i pins s σ H E I hf st hg
  subst hP hw hK
  obtain ⟨f0,f1,f2,f3,f4,f5⟩:=hf it (by simp)
  have W:=Walks.range (prog:=X.prog) (w:=X.w) (I.ok.hd hc) it hi (-1) n
  refine W.item i s _ _ hg st λv h' tk hv st' kk=>?_
  obtain ⟨t,rfl⟩:=hv
  have I1:Inv X pins σ H { s with heap:=h',toks:=tk }:=I.turned (λb o hb e=>kk b o (by simpa using hb) e) f0 f1 f3 f4 f5
  refine ⟨_,rfl,Oc (s:={ s with heap:=h',toks:=tk }) (n:="range_iterator") st' rfl rfl (by decide) ⟨.int (hi-i),H,I1,⟨t,?_⟩,⟨rfl,rfl⟩,st',λb hb=>(hf b hb).1⟩⟩
  rw [show hi+(i:Int)*(-1)=hi-i by omega]
 done:=by
  intro X hP hw hK hc i pins s σ H E I hf st hg
  subst hP hw hK
  obtain ⟨f0,f1,f2,f3,f4,f5⟩:=hf it (by simp)
  exact wpAny_pyNext_range_end (I.ok.hd hc) st (by have:n<=i:=hg;omega) λh' eb=>⟨rfl,I.turned (t':=s.toks) (λb o hb e=>eb b o hb e) f0 f1 f3 f4 f5⟩
 self:=λ_ _ _ _ _ st h=>wpAny_pyIter_rangeiter st h
theorem Ds (a b:Int):Builtin.Range.rangeSize a b (-1)=((a-b).toNat:Int):=by
 unfold Builtin.Range.rangeSize
 rw [if_neg (by decide)]
 split
 ·rw [show -(-1:Int)=1 by decide,Int.ediv_one];omega
 ·omega
theorem small_down {a b:Int}(ha:-1000000000<=a)(ha':a<=1000000000)(hb:-1000000000<=b)(hb':b<=1000000000):Builtin.Range.small a b (-1)=true:=by
 unfold Builtin.Range.small
 rw [Ds]
 simp only [Builtin.Range.rangeFitsLong,Bool.and_eq_true,Bool.or_eq_true,decide_eq_true_eq,beq_iff_eq,show ¬(-1:Int) > 0 by decide,if_false]
 omega
section
variable {X:Cx}{tg:Expr}
theorem S6 {pins:Zl}{σ:St}{H:Hp}{s:Shared}{R:It->Hp->Prop}{E:Zs}{hi lo:Int}{t u v:Tok}{tk:Nat}(I:Inv X pins σ H s)(h1:-1000000000<=hi)(h2:hi<=1000000000)(h3:-1000000000<=lo)(h4:lo<=1000000000)
  (q:R (Itd hi (hi-lo).toNat) H):wpAny (model X.prog X.w) X.A (pyIter (.ref s.heap.objs.size)) (PIE X pins σ tg R) E { s with heap:=s.heap.push { cls:=.type "range",data:=.fields #[.int hi t,.int lo u,.int (-1) v] },toks:=tk }:=by
 refine wpAny_pyIter_range (IsRange.new ..) (small_down h1 h2 h3 h4) ?_
 have I1:Inv X pins σ H { s with heap:=s.heap.push { cls:=.type "range",data:=.fields #[.int hi t,.int lo u,.int (-1) v] },toks:=tk }:=I.kept λb o e=>Heap.get?_push_of_some _ e
 refine ⟨(s.heap.push { cls:=.type "range",data:=.fields #[.int hi t,.int lo u,.int (-1) v] }).objs.size,[(s.heap.push { cls:=.type "range",data:=.fields #[.int hi t,.int lo u,.int (-1) v] }).objs.size],_,_,H,rfl,
  I1.kept (t':=tk) λb o e=>Heap.get?_push_of_some _ e,Oz _ hi (hi-lo).toNat,?_,λb hb=>?_,q⟩
 ·have e1:hi+((0:Nat):Int)*(-1)=hi:=by simp
  have e2:(((hi-lo).toNat:Nat):Int)-((0:Nat):Int)=Builtin.Range.rangeSize hi lo (-1):=by rw [Ds];omega
  show IsRangeIter _ _ (hi+((0:Nat):Int)*(-1)) ((((hi-lo).toNat:Nat):Int)-((0:Nat):Int)) (-1)
  rw [e1,e2]
  exact Heap.get?_push_size _ rfl
 ·have e:b=(s.heap.push { cls:=.type "range",data:=.fields #[.int hi t,.int lo u,.int (-1) v] }).objs.size:=by simpa using hb
  subst e
  exact I1.O9 (Nat.le_refl _) (I1.hok.fresh (Nat.le_refl _))
def aaK (ta:TA):TI:=λσ H R=>ta σ H λvs H1=>∃i j:Int,vs=[.int i,.int j,.int (-1)]/\(-1000000000<=i/\i<=1000000000/\-1000000000<=j/\j<=1000000000)/\R (Itd i (i-j).toNat) H1
theorem Qf {a b c:Expr}{ta:TA}{p pos:Pos}(hg:Gl X "range")(hm:X.mg "range" = none)(ha:PA X [a,b,c] ta)(hs:starEach [a,b,c] X.env=[(false,eval a X.env),(false,eval b X.env),(false,eval c X.env)]:=by rfl)(hs2:starEach [b,c] X.env=[(false,eval b X.env),(false,eval c X.env)]:=by rfl):
  PI X tg (.Call (.Name "range" p) [a,b,c] [] pos) (aaK ta):=by
 intro pins s σ H R I h
 refine Call_ (o9 I hg hm boot_range (PyProof.Rows.callWith_type1 (thn (ha pos pins s σ H _ I h) λus s1 hE=>xq2 hE λvs H1 I1 r1 q1=>?_) (by rw [hs,hs2]) (by rw [hs2];rfl)))
 obtain ⟨i,j,e,⟨q1,q2,q3,q4⟩,q⟩:=q1
 subst e
 cases r1 with
 |cons r rr=>
  cases rr with
  |cons r' rr=>
   cases rr with
   |cons r'' rr=>
    cases rr
    obtain ⟨t,rfl⟩:=r
    obtain ⟨t',rfl⟩:=r'
    obtain ⟨t'',rfl⟩:=r''
    exact call_range_3 (by decide) (S6 (tk:=s1.toks) I1 q1 q2 q3 q4 q) (Or.inl (PyProof.noPylong_small (by omega)))
end
end L2
namespace F
open PySem PySem.Spec PyProof.Rows L2 Hd
noncomputable def Xy (f:Zad):Zad:=λm=>(f m).bind λd=>match d with
 |[.int i,.int j,.int (-1)]=>if -1000000000<=i/\i<=1000000000/\-1000000000<=j/\j<=1000000000 then .ok ((List.range (i-j).toNat).map λ(k:Nat)=>D.int (i-k)) else .stuck
 |_=>.stuck
theorem WM {G:Gx}{hi:Int}{n:Nat}{P:(Zaa)->Hp->Prop}:yu G (Itd hi n) ((List.range n).map λ(k:Nat)=>D.int (hi-k)) P:=by
 intro O H _
 refine ⟨λi hi=>(show i<n by simpa using hi),λi x H' hi y=>?_,by show n<=_;simp⟩
 obtain ⟨e,y⟩:=y
 subst e y
 have hi':i<n:=by simpa using hi
 exact ⟨aM.refl _,_,by simp [List.getElem?_map,List.getElem?_range hi'],.int _⟩
section
variable {X:Cx}{E:XK}{tg e a b c:Expr}{f:Zae}{fs:Zad}{fa:Me->Res (D×Me)}{p pos:Pos}
theorem Vp (hg:Gl X "range")(hm:X.mg "range" = none)(ha:FAB X E [a,b,c] fs)(hs:starEach [a,b,c] X.env=[(false,eval a X.env),(false,eval b X.env),(false,eval c X.env)]:=by rfl)(hs2:starEach [b,c] X.env=[(false,eval b X.env),(false,eval c X.env)]:=by rfl):FI X E tg (.Call (.Name "range" p) [a,b,c] [] pos) (Xy fs):=
 mH (Qf hg hm ha hs hs2) λσ H R hE=>xq5 hE λO0 M0 H0 ow m Re q=>⟨O0,M0,H0,ow,m,Re,q.bind.imp (aM.refl _) λds q vs H' g hv=>by
  split at q
  ·cases hv with
   |cons h1 t=>cases t with
    |cons h2 t=>cases t with
     |cons h3 t=>
      cases t
      cases cI h1
      cases cI h2
      cases cI h3
      obtain ⟨⟨z1,z2,z3,z4⟩,k⟩:=De q
      exact ⟨_,_,rfl,⟨z1,z2,z3,z4⟩,k _ H' g WM⟩
  ·exact q.elim⟩
noncomputable def Q9:Zab:=λ_=>.stuck
theorem Ra {st:Stmt}:FS X E st Q9:=λ_ _ _ _ _ _ ⟨_,_,_,_,_,_,z⟩=>z.elim
noncomputable def Ip (f:Me->Res (D×Me))(h:Zba):Zab:=λm=>(f m).bind λp=>(ofO (h p.1 p.2)).bind λm'=>.ok (.nx,m')
theorem VF {k:Nat}{h:Zba}(he:FX X E e fa)(hg:FG X k tg h)(hs:swapsWithSole [tg] e pos.line X.env=pure false:=by rfl)(hw:swappedStores [tg] e X.env=pure none:=by rfl)
  (h1:(assignEach [tg] X.env).map (·.2)=[assign tg X.env]:=by rfl):FS X E (.Assign [tg] e pos) (Ip fa h):=cL (Gu he hg hs hw h1) λW σ H hE=>xq5 hE λO0 M0 H0 ow m R q=>by
 refine ⟨O0,M0,H0,ow,m,R,(Xs.ss (k:=λd m'=>(ofO (h d m')).bind λm'=>.ok (.nx,m')) q).imp (Go.refl (aM.refl _)) λd H1 m1 R1 g1 e1 q v hv=>?_⟩
 obtain ⟨m',e,q⟩:=Ss.ofO (q m1 e1 R1)
 exact ⟨O0,M0,H0,ow,m1,d,m',R1.toRel,hv,e,λow' σ' R' g2 nb _=>q _ _ _ ⟨R',nb R1.nb⟩ g2⟩
variable {x:Str}{np apos cpos:Pos}
noncomputable def Hc (i:Nat):Me->Res (D×Me):=λm=>(ofO (jL m i)).bind λo=>(ofO (o.2[o.2.length - 1]?)).bind λd=>.ok (d,putL m i o.1 o.2.dropLast)
theorem YH (i:Nat)(hN:X.N[i]? = some x:=by rfl)(hv:Vis X.env.scope x:=by first | exact Or.inl rfl | exact Or.inr (Or.inl rfl) | exact Or.inr (Or.inr rfl))(hd:(x == ("__debug__" : Str))=false:=by decide)(hcd:(x == ("__classdict__" : Str))=false:=by decide)
  (hbase:attributeBase (.Name x np) "pop" X.env (eval (.Name x np) X.env)=eval (.Name x np) X.env:=by rfl) (hline:(apos.endLine == cpos.line)=true:=by rfl):
  FX X E (.Call (.Attribute (.Name x np) "pop" apos) [] [] cpos) (Hc i):=
 bI (JB PySem.F.plainAttrs_list PySem.F.slot_list_pop PySem.F.type_list_pop Su (jx hN hv hd hcd) hbase hline) λσ H Q hE=>xq5 hE λO0 M0 H0 ow m R q=>by
  obtain ⟨o,ho,q⟩:=(Xs.pu R.toRel q).ofO
  obtain ⟨k,ds⟩:=o
  obtain ⟨d,hd',q⟩:=(Xs.pu R.toRel q).ofO
  obtain ⟨a,xs,e1,e2,e3,e4,e5⟩:=ql R.toRel ho
  obtain ⟨v,hv,dv⟩:=ud e4 hd'
  obtain ⟨R2,g2⟩:=R.put (es:=ds.dropLast) (ys:=xs.dropLast) e1 e5 (uM e4)
  have dv2:=dv.go R.mutk g2.ev
  exact ⟨_,e2,.inl ⟨rfl,xs,SqL.of e3⟩,a,xs,v,rfl,rfl,e3,by rw [bM e4];exact hv,q _ R2 g2 _ dv2⟩
end
section
variable {X:Cx}{E:XK}{e ke:Expr}{f fk:Zae}{pos np apos cpos:Pos}{x:Str}
theorem Wt:seqRepeat? (.type "int")=pure none:=by
 have e:typeLookup (.type "int") ("__mul__" : Str)=pure (some (.builtin "int.__mul__")):=PySem.F.slot_int_mul.lookup
 have e2:typeLookup (.type "int") ("__rmul__" : Str)=pure (some (.builtin "int.__rmul__")):=PySem.F.slot_int_rmul.lookup
 have s1:seqSlot? (.type "int") ("__mul__" : Str)=pure none:=by unfold seqSlot?;rw [e,pure_bind,if_pos (by decide +kernel)]
 have s2:seqSlot? (.type "int") ("__rmul__" : Str)=pure none:=by unfold seqSlot?;rw [e2,pure_bind,if_pos (by decide +kernel)]
 unfold seqRepeat?
 rw [s1,s2]
 rfl
theorem O3 {prog:Program}{w:World}{A:Around}{E:Zs}{s:Shared}{x:Str}{n:Int}{t u:Tok}{Q:Zs}(hok:MulOk x n)(h:∀t' k,Q (.str (Txt.mul x n) t') { s with toks:=k }):
  wpAny (model prog w) A (binaryOp .Mult (.int n u) (.str x t)) Q E s:=by
 have post:(if n<1 then Made.str Str.empty else if (n == 1 || x.length == 0)=true then Made.val (.str x t) else Made.str ⟨(List.replicate n.toNat x.cps).foldl (· ++ ·) #[]⟩).post Q s:=by
  unfold Txt.mul at h
  by_cases h1:n<1
  ·rw [if_pos h1];have h':=h s.toks (s.toks+1);rw [if_pos h1] at h';exact ⟨by decide,h'⟩
  ·rw [if_neg h1];refine post_val_or_made (λhc=>fits_reps (hok.2.2 h1 (by simpa using hc))) λt' k=>?_
   have h':=h t' k;rw [if_neg h1] at h';exact h'
 unfold binaryOp
 refine wpAny_holding ?_
 refine wpAny_bind ?_
 simp only [Operator.info,binaryOp1]
 refine wpAny_bind (wpAny_typeOf (typeIs_int s n u) (wpAny_bind (wpAny_typeOf (typeIs_str s x t) (wpAny_bind (wpAny_of_eq PySem.F.fills_int_mul ?_)))))
 simp only [show (Value.type "int" == Value.type "str")=false by decide,Bool.false_eq_true,if_false]
 refine wpAny_bind (wpAny_of_eq noFill_str_mul ?_)
 simp only [pure_bind,Bool.true_and,Bool.false_and,Bool.and_false,Bool.false_eq_true,if_false,if_true,Bool.not_false,Bool.and_self]
 refine wpAny_bind (wpAny_tryMethod_declines (typeIs_int s n u) PySem.F.slot_int_mul (call_gives PySem.F.slot_int_mul (typeIs_int s n u) PySem.F.entry_int_mul (PySem.F.args_int_mul_2 _ _) (AutoIntG3.int___mul___int_str_0 n u x t) ?_))
 refine ⟨rfl,?_⟩
 refine wpAny_pure ?_
 refine wpAny_bind (wpAny_typeOf (typeIs_int s n u) ?_)
 refine wpAny_bind (wpAny_of_eq Wt ?_)
 refine wpAny_bind (wpAny_typeOf (typeIs_str s x t) ?_)
 refine wpAny_bind (wpAny_of_eq repeat_str ?_)
 unfold sequenceRepeat
 refine wpAny_bind (wpAny_specialOf (typeIs_int s n u) PySem.F.slot_int_index.lookup ?_)
 refine wpAny_bind (wpAny_rule ?_)
 exact call_gives PySem.F.slot_str_mul (typeIs_str s x t) PySem.F.entry_str_mul (PySem.F.args_str_mul_2 _ _) (gives_str_mul x n t u hok.1 hok.2.1 hok.2.2) post
noncomputable def Q0:D->D->Option D
 | .int n,.str z=>if 0<=n/\n<=1000/\z.length<=1000 then some (.str (Txt.mul z n)) else none
 |_,_=>none
theorem QR:OpR X (binaryOp .Mult) (rG (gx X) Q0):=by
 intro pins s σ H x y v u Q I rx ry h
 obtain ⟨O,d,e,r,m,hx,hy,hr,q⟩:=h
 match d,e,hr with
 | .int n,.str z,hr=>
  obtain ⟨⟨h0,h1,hz⟩,rfl⟩:=oif hr
  cases cI hx
  cases jG hy
  obtain ⟨t,rfl⟩:=rx
  obtain ⟨t2,rfl⟩:=ry
  exact O3 (mulOk_of h0 h1 hz) λt' k=>Lr (tk:=k) I q
end
end F
namespace L2
open PySem PySem.Spec PyProof.Rows
section
variable {X:Cx}{e st:Expr}{te:TE}{tst:TO}{p2 pos:Pos}
end
end L2
namespace F
open PySem PySem.Spec PyProof.Rows L2 Hd
section
variable {X:Cx}{E:XK}{e st:Expr}{f:Zae}{fk:Me->Res (Option Int)}{p2 pos:Pos}
end
end F
namespace Pk
open PySem L2 Hd F
section
noncomputable def jh:Zaf:=
 (aR gNe (ak 3) (fC (.int 0)))
noncomputable def ji:Zab:=
 (aJ (aX 4 (aA bF (ak 2) (ak 3)))
 (aJ (aX 2 (aG 3))
 (aX 3 (aG 4))))
def ni:Zab:=
 (m5 jh ji)
noncomputable def jR (l_3:Zab):Zab:=
 (aJ (aX 2 (aU PK (aa (ak 0) aB)))
 (aJ (aX 3 (aU PK (aa (ak 1) aB)))
 (aJ l_3
 (bD (aG 2)))))
def jY:Zab:=
 (jR ni)
def fV:Zac:=bj 5 2 jY
noncomputable def vB (φ_common_divisor:Zac):Zab:=
 (aJ (aX 2 (fFn φ_common_divisor (aa (aG 0) (aa (aG 1) aB))))
 (aJ (gIf (aR gLt (ak 1) (fC (.int 0))) (aX 2 (fUn uO (ak 2))) gNx)
 (bD (bA (aa (aA dC (ak 0) (ak 2)) (aa (aA dC (ak 1) (ak 2)) aB))))))
def v5:Zab:=
 (vB fV)
def mV:Zac:=bj 3 2 v5
noncomputable def Fe (φ_lowest:Zac):Zab:=
 (bD (fFn φ_lowest (aa (aA bY (aA f9 (aA gIx (ak 0) (fC (.int 0))) (aA gIx (ak 1) (fC (.int 1)))) (aA f9 (aA gIx (ak 1) (fC (.int 0))) (aA gIx (ak 0) (fC (.int 1))))) (aa (aA f9 (aA gIx (ak 0) (fC (.int 1))) (aA gIx (ak 1) (fC (.int 1)))) aB))))
def GK:Zab:=
 (Fe mV)
def uK:Zac:=bj 2 2 GK
noncomputable def GQ:Zab:=
 (bD (mK gLt (aA f9 (aA gIx (ak 0) (fC (.int 0))) (aA gIx (ak 1) (fC (.int 1)))) (aA f9 (aA gIx (ak 1) (fC (.int 0))) (aA gIx (ak 0) (fC (.int 1))))))
noncomputable def Gz:Zab:=
 GQ
noncomputable def yZ:Zac:=bj 2 2 Gz
def xr:Zab:=
 (aX 1 (fFn uK (aa (aG 1) (aa (aG 2) aB))))
def Dq:Zab:=
 (gZ (jH (aG 0)) (hName 2) xr)
noncomputable def GR (l_2:Zab):Zab:=
 (aJ (aX 1 (fC (.tup [(.int 0),(.int 1)])))
 (aJ l_2
 (bD (aG 1))))
def Fi:Zab:=
 (GR Dq)
def yQ:Zac:=bj 3 1 Fi
noncomputable def lQ:Zae:=
 (du 2 [] (uE (aA gIx (ak 0) (fUn uO (fC (.int 1))))) (ig 2 (bu (hName 0) (bu (hName 1) ik))) gQ (aG 1))
noncomputable def gJ (l_1:Zae):Zab:=
 (aJ (gIf (aR gEq (aA gIx (ak 0) (fC (.int 0))) (fC (.str "end"))) (jP (d8 aB)) gNx)
 (jP l_1))
noncomputable def sZ:Zab:=
 (gJ lQ)
noncomputable def iZ:Zac:=bj 1 1 sZ
noncomputable def oX:Zae:=
 (bA (aa (aA bY (aA gIx (ak 2) (fC (.int 0))) (bA (aa (aG 0) aB))) (aa (aG 1) aB)))
noncomputable def lr:Zae:=
 (du 2 [3] (YM (aa (fFn iZ (aa (aA gIx (ak 3) (fC (.int 1))) aB)) aB)) (ig 2 (bu (hName 0) (bu (hName 1) ik))) gQ oX)
noncomputable def kI:Zaf:=
 (aR gGt (aU dW (aa (ak 2) aB)) (fC (.int 0)))
noncomputable def lg:Zab:=
 (aJ (DR 3 2)
 (aJ (cR 1 (aG 3))
 (aJ (aX 4 lr)
 (Fw 2 (aU QS (aa (ak 4) aB))))))
def Ci:Zab:=
 (m5 kI lg)
noncomputable def nU (l_5:Zab):Zab:=
 (aJ (eX 1 (d8 aB))
 (aJ (eX 2 (d8 (aa (bA (aa (bA aB) (aa (aG 0) aB))) aB)))
 (aJ l_5
 (nP 1))))
def xP:Zab:=
 (nU Ci)
def ou:Zac:=bj 5 1 xP
noncomputable def pY:Zae:=
 (du 2 [] (uE (aA gIx (ak 0) (fC (.int 3)))) (ig 2 (bu (hName 0) (bu (hName 1) ik))) gQ (aG 0))
noncomputable def uC (l_1:Zae):Zab:=
 (bD (aU fH (aa l_1 aB)))
noncomputable def uF:Zab:=
 (uC pY)
noncomputable def p7:Zac:=bj 1 1 uF
noncomputable def fU:Zab:=
 (aJ (gIf (aR gNe (aA gIx (ak 0) (fC (.int 0))) (fC (.str "move"))) (bD (aG 1)) gNx)
 (aJ (aX 3 (bA (aa (aA gIx (ak 0) (fC (.int 2))) (aa (aA gIx (aA gIx (aA gIx (ak 0) (fC (.int 3))) (ak 2)) (fC (.int 0))) aB))))
 (aJ (gIf (aR gEq (aA gIx (ak 0) (fC (.int 1))) (fC (.int 1))) (bD (bA (aa (aA bY (aA gIx (ak 1) (fC (.int 0))) (bA (aa (aG 3) aB))) (aa (aA gIx (ak 1) (fC (.int 1))) aB)))) gNx)
 (bD (bA (aa (aA gIx (ak 1) (fC (.int 0))) (aa (aA bY (aA gIx (ak 1) (fC (.int 1))) (bA (aa (aG 3) aB))) aB)))))))
noncomputable def fQ:Zab:=
 fU
noncomputable def dZ:Zac:=bj 4 3 fQ
noncomputable def cU:Zab:=
 (Du 1 (aA bY (ak 3) (bA (aa (aG 5) aB))) (fFn dZ (aa (aG 4) (aa (aA vY (ak 1) (ak 3)) (aa (aG 5) aB)))))
noncomputable def fZ:Zab:=
 (gZ (pQ (aa (aU dW (aa (fFn iZ (aa (aG 4) aB)) aB)) aB)) (hName 5) cU)
noncomputable def bc:Zab:=
 (aJ (cR 2 (bA (aa (aG 3) (aa (aG 4) (aa (aA vY (ak 1) (ak 3)) aB)))))
 fZ)
def jn:Zab:=
 (gZ (jH (fFn ou (aa (aG 0) aB))) (ig 2 (bu (hName 3) (bu (hName 4) ik))) bc)
noncomputable def eN (l_4:Zab):Zab:=
 (aJ (eX 1 (J2 (bA aB) (bA (aa (bA aB) (aa (bA aB) aB)))))
 (aJ (eX 2 (d8 aB))
 (aJ l_4
 (nP 2))))
def jO:Zab:=
 (eN jn)
def eQ:Zac:=bj 6 1 jO
noncomputable def vq (φ_words_at:Zac):Zab:=
 (bD (bA (aa (aA gIx (ak 0) (fC (.int 1))) (aa (aA gIx (ak 0) (fC (.int 2))) (aa (fFn φ_words_at (aa (aG 0) aB)) (aa (aA gIx (ak 1) (aA dB (aA gIx (ak 0) (fC (.int 1))) (fC (.int 1)))) aB))))))
noncomputable def vQ:Zab:=
 (vq p7)
noncomputable def rH:Zac:=bj 2 2 vQ
noncomputable def gj:Zab:=
 (gIf (aR gEq (aA gIx (ak 3) (fC (.int 0))) (fC (.str "move"))) (W7 1 (bA (aa (aA gIx (ak 3) (fC (.int 1))) (aa (aA gIx (ak 3) (fC (.int 2))) aB))) (fFn rH (aa (aG 3) (aa (aG 4) aB)))) gNx)
def v7:Zab:=
 (gZ (jH (fFn eQ (aa (aG 0) aB))) (ig 3 (bu (hName 2) (bu (hName 3) (bu (hName 4) ik)))) gj)
noncomputable def qz (l_2:Zab):Zab:=
 (aJ (eX 1 CQ)
 (aJ l_2
 (jP (Js (ak 1)))))
def Ay:Zab:=
 (qz v7)
def uv:Zac:=bj 5 1 Ay
def qQ:Zae:=
 (du 1 [1] (jH (fFn uv (aa (aG 0) aB))) (hName 0) (aR gEq (aA gIx (ak 0) (fC (.int 0))) (ak 1)) (aG 0))
noncomputable def wg (l_1:Zae):Zab:=
 (jP l_1)
def wX:Zab:=
 (wg qQ)
def rT:Zac:=bj 2 2 wX
end
end Pk
namespace Hd
noncomputable def gI (a b:Int):Int:=(Int.gcd a b:Nat)
theorem Mt {a b:Int}(ha:0<=a)(hb:0<b):gI b (a % b)=gI a b:=by
 unfold gI Int.gcd
 have e:(a % b).natAbs=a.natAbs % b.natAbs:=by
  obtain ⟨n,rfl⟩:=Int.eq_ofNat_of_zero_le ha
  obtain ⟨m,rfl⟩:=Int.eq_ofNat_of_zero_le (Int.le_of_lt hb)
  rfl
 rw [e,Nat.gcd_comm a.natAbs b.natAbs,Nat.gcd_rec b.natAbs a.natAbs,Nat.gcd_comm]
theorem KH {a:Int}(ha:0<=a):gI a 0=a:=by
 unfold gI
 rw [Int.gcd_zero_right]
 omega
theorem TJ (a b:Int):gI (if a<0 then -a else a) (if b<0 then -b else b)=gI a b:=by
 unfold gI Int.gcd
 have h:∀x:Int,(if x<0 then -x else x).natAbs=x.natAbs:=λx=>by split<;>omega
 rw [h,h]
theorem abY (a b:Int):0<=gI a b:=Int.natCast_nonneg _
theorem Fz {a b:Int}(hb:b≠0):0<gI a b:=by
 have:0<Int.gcd a b:=Nat.pos_of_ne_zero λh=>hb (Int.gcd_eq_zero_iff.mp h).2
 unfold gI;omega
theorem Oi (a b:Int):gI a b ∣ a:=Int.gcd_dvd_left a b
theorem Aa (a b:Int):gI a b ∣ b:=Int.gcd_dvd_right a b
theorem Yu {a b:Int}(hb:b≠0):(gI a b).natAbs<=b.natAbs:=by
 have h:(gI a b).natAbs ∣ b.natAbs:=Int.natAbs_dvd_natAbs.mpr (Aa a b)
 exact Nat.le_of_dvd (by omega) h
noncomputable def dv (t b:Int):Int:=if b<0 then -gI t b else gI t b
theorem Ma {t b:Int}(hb:b≠0):dv t b≠0:=by
 have:=Fz (a:=t) hb
 unfold dv;split<;>omega
theorem UG (t b:Int):(dv t b).natAbs=(gI t b).natAbs:=by unfold dv;split<;>omega
noncomputable def lt (t b:Int):Int:=t.fdiv (dv t b)
noncomputable def lb (t b:Int):Int:=b.fdiv (dv t b)
theorem Bv {a d q:Int}(hd:d≠0)(h:a=d*q):a.fdiv d=q:=by
 rw [h]
 exact Int.mul_fdiv_cancel_left q hd
theorem Wf (t b:Int):dv t b ∣ t:=by
 unfold dv;split
 ·exact Int.neg_dvd.mpr (Oi t b)
 ·exact Oi t b
theorem TF (t b:Int):dv t b ∣ b:=by
 unfold dv;split
 ·exact Int.neg_dvd.mpr (Aa t b)
 ·exact Aa t b
theorem lt_mul {t b:Int}(hb:b≠0):dv t b*lt t b=t:=by
 obtain ⟨q,hq⟩:=Wf t b
 have e:lt t b=q:=Bv (Ma hb) hq
 rw [e];exact hq.symm
theorem Gs {t b:Int}(hb:b≠0):dv t b*lb t b=b:=by
 obtain ⟨q,hq⟩:=TF t b
 have e:lb t b=q:=Bv (Ma hb) hq
 rw [e];exact hq.symm
theorem Yw {t b:Int}(hb:b≠0):1<=lb t b:=by
 have e:=Gs (t:=t) hb
 have g:=Fz (a:=t) hb
 by_cases h:lb t b<=0
 ·exfalso
  unfold dv at e
  split at e
  ·have:0<=-gI t b*lb t b:=Int.mul_nonneg_of_nonpos_of_nonpos (by omega) h
   omega
  ·have:gI t b*lb t b<=0:=Int.mul_nonpos_of_nonneg_of_nonpos (by omega) h
   omega
 ·omega
theorem Xu {t b:Int}(hb:b≠0):gI (lt t b) (lb t b)=1:=by
 have e1:=lt_mul (t:=t) hb
 have e2:=Gs (t:=t) hb
 have g:=Fz (a:=t) hb
 have q:gI t b=(dv t b).natAbs*gI (lt t b) (lb t b):=by
  have:Int.gcd (dv t b*lt t b) (dv t b*lb t b)=(dv t b).natAbs*Int.gcd (lt t b) (lb t b):=Int.gcd_mul_left ..
  rw [e1,e2] at this
  unfold gI
  rw [this]
  push_cast
  rfl
 have ed:((dv t b).natAbs:Int)=gI t b:=by rw [UG];have:=abY t b;omega
 rw [ed] at q
 have h:gI t b*gI (lt t b) (lb t b)=gI t b*1:=by rw [Int.mul_one];exact q.symm
 exact Int.eq_of_mul_eq_mul_left (by omega) h
theorem P0 {t b:Int}(hb:b≠0):lt t b*b=t*lb t b:=by
 have e1:=lt_mul (t:=t) hb
 have e2:=Gs (t:=t) hb
 calc lt t b*b=lt t b*(dv t b*lb t b):=by rw [e2]
  _=(dv t b*lt t b)*lb t b:=by rw [← Int.mul_assoc,Int.mul_comm (lt t b) (dv t b)]
  _=t*lb t b:=by rw [e1]
theorem X4 {t b:Int}(hb:b≠0):(lt t b).natAbs<=t.natAbs:=by
 have e:=lt_mul (t:=t) hb
 have h:(lt t b).natAbs ∣ t.natAbs:=Int.natAbs_dvd_natAbs.mpr ⟨dv t b,by rw [Int.mul_comm];exact e.symm⟩
 by_cases z:t=0
 ·have:lt t b=0:=by
   have e':dv t b*lt t b=0:=e.trans z
   rcases Int.mul_eq_zero.mp e' with h | h
   ·exact absurd h (Ma hb)
   ·exact h
  rw [this];exact Nat.zero_le _
 ·exact Nat.le_of_dvd (by omega) h
theorem Yp {t b:Int}(hb:b≠0):(lb t b).natAbs<=b.natAbs:=by
 have e:=Gs (t:=t) hb
 have h:(lb t b).natAbs ∣ b.natAbs:=Int.natAbs_dvd_natAbs.mpr ⟨dv t b,by rw [Int.mul_comm];exact e.symm⟩
 exact Nat.le_of_dvd (by omega) h
theorem qI {q p s:Int}(c:Int.gcd p q=1)(h:q ∣ p*s):q ∣ s:=by
 have h2:q.natAbs ∣ p.natAbs*s.natAbs:=by rw [← Int.natAbs_mul];exact Int.natAbs_dvd_natAbs.mpr h
 have c2:Nat.Coprime q.natAbs p.natAbs:=by unfold Nat.Coprime;rw [Nat.gcd_comm];exact c
 exact Int.natAbs_dvd_natAbs.mp (Nat.Coprime.dvd_of_dvd_mul_left c2 h2)
theorem Jv {p q r s:Int}(hq:1<=q)(hs:1<=s)(g1:gI p q=1)(g2:gI r s=1)(h:p*s=r*q):p=r/\q=s:=by
 have c1:Int.gcd p q=1:=by unfold gI at g1;omega
 have c2:Int.gcd r s=1:=by unfold gI at g2;omega
 have d1:q ∣ s:=by
  have:q ∣ p*s:=⟨r,by rw [h,Int.mul_comm]⟩
  exact qI c1 this
 have d2:s ∣ q:=by
  have:s ∣ r*q:=⟨p,by rw [← h,Int.mul_comm]⟩
  exact qI c2 this
 have e:q=s:=Int.dvd_antisymm (by omega) (by omega) d1 d2
 subst e
 exact ⟨Int.eq_of_mul_eq_mul_right (by omega) h,rfl⟩
theorem oK {a b:Int}{m n:Nat}(ha:a.natAbs<2 ^ m)(hb:b.natAbs<2 ^ n):(a*b).natAbs<2 ^ (m+n):=by
 rw [Int.natAbs_mul,Nat.pow_add]
 exact Nat.mul_lt_mul'' ha hb
theorem Zv {a b:Int}{m:Nat}(ha:a.natAbs<2 ^ m)(hb:b.natAbs<2 ^ m):(a+b).natAbs<2 ^ (m+1):=by
 rw [Nat.pow_succ]
 omega
theorem cJ {n m k:Nat}(h:n<2 ^ m)(hk:m<=k):n<2 ^ k:=Nat.lt_of_lt_of_le h (Nat.pow_le_pow_right (by decide) hk)
theorem aal {t u p q:Int}(hu:u≠0)(hq:1<=q)(g:gI p q=1)(h:t*q=p*u):lt t u=p/\lb t u=q:=by
 refine Jv (Yw hu) hq (Xu hu) g ?_
 have e:=P0 (t:=t) hu
 have e2:lt t u*q*u=p*lb t u*u:=by
  calc lt t u*q*u=lt t u*u*q:=by rw [Int.mul_assoc,Int.mul_comm q u,← Int.mul_assoc]
   _=t*lb t u*q:=by rw [e]
   _=t*q*lb t u:=by rw [Int.mul_assoc,Int.mul_comm (lb t u) q,← Int.mul_assoc]
   _=p*u*lb t u:=by rw [h]
   _=p*lb t u*u:=by rw [Int.mul_assoc,Int.mul_comm u,← Int.mul_assoc]
 exact Int.eq_of_mul_eq_mul_right hu e2
abbrev Q2:=Int×Int
noncomputable def den:List Q2->Int
 |[]=>1
 |d::ds=>d.2*den ds
noncomputable def num:List Q2->Int
 |[]=>0
 |d::ds=>d.1*den ds+num ds*d.2
theorem den_pos:∀{ds:List Q2},(∀d∈ds,1<=d.2)->1<=den ds
 |[],_=>Int.le_refl _
 |d::ds,h=>by
  have h1:=h d List.mem_cons_self
  have h2:=den_pos λe he=>h e (List.mem_cons_of_mem _ he)
  have:0<d.2*den ds:=Int.mul_pos (by omega) (by omega)
  show 1<=d.2*den ds
  omega
end Hd
namespace F
open PySem L2 Hd
@[simp] theorem szl:sizeLine=16777216:=by decide
theorem tL:∀{a b:List Char},a.map Char.toNat=b.map Char.toNat->a=b
 |[],[],_=>rfl
 |[],_::_,h=>by simp at h
 |_::_,[],h=>by simp at h
 |x::a,y::b,h=>by
  have h':x.toNat=y.toNat/\a.map Char.toNat=b.map Char.toNat:=by simpa using h
  rw [Char.toNat_inj.mp h'.1,tL h'.2]
@[simp] theorem ab8 {a b:String}:(Str.ofString a=Str.ofString b)↔a=b:=by
 constructor
 ·intro h
  rw [Str.ofString_eq_toList,Str.ofString_eq_toList] at h
  have h2:(a.toList.map Char.toNat).toArray=(b.toList.map Char.toNat).toArray:=congrArg Str.cps h
  have h3:a.toList.map Char.toNat=b.toList.map Char.toNat:=by simpa using congrArg Array.toList h2
  exact String.toList_inj.mp (tL h3)
 ·intro h;rw [h]
mutual
noncomputable def okD:D->Bool
 | .non | .bl _ | .int _=>true
 | .str x=>PyData.strOk x
 | .tup xs=>oO xs
 | .lst xs=>oO xs
 | .exc _ | .dct _ _ | .dcu _ _ | .dcf _ _ | .adr _ | .ins _ _ _=>false
noncomputable def oO:List D->Bool
 |[]=>true
 |x::xs=>okD x && oO xs
end
mutual
noncomputable def pZ:D->Nat
 | .non | .bl _ | .int _ | .str _=>0
 | .tup xs=>m7 xs+1
 | .lst xs=>m7 xs+1
 | .exc _ | .dct _ _ | .dcu _ _ | .dcf _ _ | .adr _ | .ins _ _ _=>0
noncomputable def m7:List D->Nat
 |[]=>0
 |x::xs=>max (pZ x) (m7 xs)
end
mutual
theorem Oq:∀d:D,okD d=true->∃p,toPy d=some p/\p.canLay0=true/\p.depth=pZ d/\PyData.eqv p p=true
 | .non,_=>⟨.none,by simp [toPy],by simp [PyData.canLay0],by simp [PyData.depth,pZ],by simp [PyData.eqv]⟩
 | .bl b,_=>⟨.bool b,by simp [toPy],by simp [PyData.canLay0],by simp [PyData.depth,pZ],by simp [PyData.eqv]⟩
 | .int b,_=>⟨.int b,by simp [toPy],by simp [PyData.canLay0],by simp [PyData.depth,pZ],by simp [PyData.eqv]⟩
 | .str b,h=>⟨.str b,by simp [toPy],by simpa [PyData.canLay0,okD] using h,by simp [PyData.depth,pZ],by simp [PyData.eqv]⟩
 | .tup xs,h=>by
  obtain ⟨ps,h1,h2,h3,h4⟩:=vI xs (by simpa [okD] using h)
  exact ⟨.tuple ps,by simp [toPy,h1],by simpa [PyData.canLay0] using h2,by simp [PyData.depth,pZ,h3],by simpa [PyData.eqv] using h4⟩
 | .lst xs,h=>by
  obtain ⟨ps,h1,h2,h3,h4⟩:=vI xs (by simpa [okD] using h)
  exact ⟨.list ps,by simp [toPy,h1],by simpa [PyData.canLay0] using h2,by simp [PyData.depth,pZ,h3],by simpa [PyData.eqv] using h4⟩
 | .exc _,h=>by simp [okD] at h
 | .dct _ _,h=>by simp [okD] at h
 | .dcu _ _,h=>by simp [okD] at h
 | .adr _,h=>by simp [okD] at h
 | .ins _ _ _,h=>by simp [okD] at h
 | .dcf _ _,h=>by simp [okD] at h
theorem vI:∀ds:List D,oO ds=true->∃ps,tR ds=some ps/\PyData.canLayAll0 ps=true/\PyData.depthAll ps=m7 ds/\PyData.eqvAll ps ps=true
 |[],_=>⟨[],by simp [tR],by simp [PyData.canLayAll0],by simp [PyData.depthAll,m7],by simp [PyData.eqvAll]⟩
 |d::ds,h=>by
  have h':okD d=true/\oO ds=true:=by simpa [oO] using h
  obtain ⟨p,h1,h2,h3,h4⟩:=Oq d h'.1
  obtain ⟨ps,k1,k2,k3,k4⟩:=vI ds h'.2
  exact ⟨p::ps,by simp [tR,h1,k1],by simp [PyData.canLayAll0,h2,k2],by simp [PyData.depthAll,m7,h3,k3],by simp [PyData.eqvAll,h4,k4]⟩
end
theorem xK {d:D}(h:okD d=true)(hd:pZ d<=64):qj d d=some true:=by
 obtain ⟨p,h1,h2,h3,h4⟩:=Oq d h
 unfold qj
 rw [h1]
 have:SeqAt.shaped p=true:=by unfold SeqAt.shaped;rw [h2,decide_eq_true (by omega)];rfl
 simp [this,h4]
theorem U8 {d:D}(h:okD d=true)(hd:pZ d<=64):gEq d d=some true:=by
 cases d with
 |non=>rfl
 |bl b=>simp [gEq]
 |int b=>simp [gEq]
 |str b=>simp [gEq]
 |tup xs=>exact xK h hd
 |lst xs=>exact xK h hd
 |exc c=>simp [okD] at h
 |dct _ _=>simp [okD] at h
 |dcu _ _=>simp [okD] at h
 |adr _=>simp [okD] at h
 |ins _ _ _=>simp [okD] at h
 |dcf _ _=>simp [okD] at h
@[simp] theorem N5 (i j:Int):gEq (.int i) (.int j)=some (decide (i=j)):=rfl
@[simp] theorem acb (i j:Str):gEq (.str i) (.str j)=some (decide (i=j)):=rfl
@[simp] theorem acu (i j:Bool):gEq (.bl i) (.bl j)=some (decide (i=j)):=rfl
@[simp] theorem aca (i j:Int):gNe (.int i) (.int j)=some (!decide (i=j)):=rfl
@[simp] theorem ab9 (i j:Str):gNe (.str i) (.str j)=some (!decide (i=j)):=rfl
@[simp] theorem acP (i j:Bool):gNe (.bl i) (.bl j)=some (!decide (i=j)):=rfl
noncomputable def qD (d:Q2):D:=.tup [.int d.1,.int d.2]
mutual
inductive Gm where
 |fin (d:Q2)
 |deal (n:Str) (ws:Ws)
 |move (s:Int) (n:Str) (ws:Ws)
inductive Ws where
 |nil
 |cons (l:D) (g:Gm) (r:Ws)
end
mutual
noncomputable def dG:Gm->D
 | .fin d=>.tup [.str "end",qD d]
 | .deal n ws=>.tup [.str "deal",.str n,.tup (dWs ws)]
 | .move s n ws=>.tup [.str "move",.int s,.str n,.tup (dWs ws)]
noncomputable def dWs:Ws->List D
 | .nil=>[]
 | .cons l g r=>.tup [l,dG g]::dWs r
end
mutual
noncomputable def dp:Gm->Nat
 | .fin _=>0
 | .deal _ ws=>dpW ws+1
 | .move _ _ ws=>dpW ws+1
noncomputable def dpW:Ws->Nat
 | .nil=>0
 | .cons _ g r=>max (dp g) (dpW r)
end
noncomputable def fK:Ws->Nat
 | .nil=>0
 | .cons _ _ r=>fK r+1
theorem mL:∀ws:Ws,(dWs ws).length=fK ws
 | .nil=>rfl
 | .cons l g r=>by show (dWs r).length+1=_;rw [mL r];rfl
mutual
def iw:Gm->Prop
 | .fin _=>True
 | .deal _ ws=>fK ws<=100/\yh ws
 | .move _ _ ws=>fK ws<=100/\yh ws
def yh:Ws->Prop
 | .nil=>True
 | .cons _ g r=>iw g/\yh r
end
noncomputable def yD (zs:List Str):List Nat:=zs.flatMap λz=>z.cps.toList
theorem Qw:(Str.ofString "").cps=#[]:=by decide +kernel
theorem KJ:∀(zs:List Str) (acc:Array Nat),(zs.foldl (λacc p=>acc++(Str.ofString "").cps++p.cps) acc).toList=acc.toList++yD zs
 |[],acc=>by simp [yD]
 |z::zs,acc=>by
  rw [List.foldl_cons,KJ zs,Qw]
  simp [yD]
theorem Rp (zs:List Str):(Txt.join (Str.ofString "") zs).cps.toList=yD zs:=by
 show ((zs.drop 1).foldl (λacc p=>acc++(Str.ofString "").cps++p.cps) (zs.headD Str.empty).cps).toList=_
 rw [KJ]
 cases zs with
 |nil=>simp [yD,Str.empty]
 |cons z zs=>simp [yD]
theorem Dp:∀(zs:List Str) (n:Nat),zs.foldl (λn z=>n+z.length+(Str.ofString "").length) n=n+(yD zs).length
 |[],n=>by simp [yD]
 |z::zs,n=>by
  rw [List.foldl_cons,Dp zs]
  have:(Str.ofString "").length=0:=by decide +kernel
  rw [this]
  simp [yD,Str.length]
  omega
theorem joinOk_of {zs:List Str}(h:(yD zs).length<=16777216):JoinOk (Str.ofString "") zs=true:=by
 unfold JoinOk
 rw [List.foldl_toArray,Dp]
 simp [Builtin.Str.tooLong]
 omega
theorem PJ (cs:List Nat):yD (cs.map λc=>(⟨#[c]⟩:Str))=cs:=by
 induction cs with
 |nil=>rfl
 |cons c cs ih=>simp [yD] at ih ⊢;exact ih
theorem HJ {cs:List Nat}(h:∀c∈cs,c<128):PyData.strOk ⟨cs.toArray⟩=true:=by
 unfold PyData.strOk
 simp only [List.all_toArray,List.all_eq_true,decide_eq_true_eq]
 intro c hc
 have:=h c hc
 omega
theorem BK {f:Zad}{m:Me}{j:Int}(h:f m=.ok [.int j])(h1:-1000000000<=j)(h2:j<=1000000000):pQ f m=.ok ((List.range j.toNat).map λ(i:Nat)=>D.int i):=by
 unfold pQ
 rw [h]
 show (if -(2 ^ 62)<=j/\j<2 ^ 62 then _ else _)=_
 rw [if_pos ⟨by omega,by omega⟩]
theorem acR {f:Zad}{m:Me}{i j:Int}(h:f m=.ok [.int i,.int j])(h1:-1000000000<=i)(h2:i<=1000000000)(h3:-1000000000<=j)(h4:j<=1000000000):La f m=.ok ((List.range (j-i).toNat).map λ(k:Nat)=>D.int (i+k)):=by
 unfold La
 rw [h]
 show (if -(2 ^ 62)<=i/\i<2 ^ 62/\-(2 ^ 62)<=j/\j<2 ^ 62 then _ else _)=_
 rw [if_pos ⟨by omega,by omega,by omega,by omega⟩]
open PySem PySem.NumText
noncomputable def tx (l:List Nat):Str:=⟨l.toArray⟩
theorem zf (l:List Nat):(tx l).cps.toList=l:=rfl
theorem uc (l:List Nat):(tx l).length=l.length:=by show l.toArray.size=_;simp
theorem K1 {x:Str}{l:List Nat}(h:x.cps.toList=l):x=tx l:=by
 cases x with
 |mk a=>subst h;unfold tx;simp
theorem Zc (a b:List Nat):tx a++tx b=tx (a++b):=K1 (by show (a.toArray++b.toArray).toList=_;simp)
theorem Th {a b:List Nat}:tx a=tx b↔a=b:=⟨λh=>by have:=congrArg (λz:Str=>z.cps.toList) h;exact this,λh=>by rw [h]⟩
end F
namespace Pk
open PySem L2 Hd F
noncomputable def iT:Ws->List Gm
 | .nil=>[]
 | .cons _ g r=>g::iT r
noncomputable def kids:Gm->List Gm
 | .fin _=>[]
 | .deal _ ws=>iT ws
 | .move _ _ ws=>iT ws
mutual
noncomputable def szG:Gm->Nat
 | .fin _=>1
 | .deal _ ws=>szW ws+1
 | .move _ _ ws=>szW ws+1
noncomputable def szW:Ws->Nat
 | .nil=>0
 | .cons _ g r=>szG g+szW r
end
theorem sG (g:Gm):1<=szG g:=by cases g<;>simp [szG]
mutual
noncomputable def plG:List Int->Gm->List (List Int×Gm)
 |w,.fin d=>[(w,.fin d)]
 |w,.deal n ws=>(w,.deal n ws)::plW w 0 ws
 |w,.move s n ws=>(w,.move s n ws)::plW w 0 ws
noncomputable def plW:List Int->Nat->Ws->List (List Int×Gm)
 |_,_,.nil=>[]
 |w,i,.cons _ g r=>plG (w++[(i:Int)]) g++plW w (i+1) r
end
noncomputable def pD (p:List Int×Gm):D:=.tup [.tup (p.1.map .int),dG p.2]
noncomputable def bh (w:List Int)(g:Gm):List (List Int×Gm):=(kids g).zipIdx.map λp=>(w++[(p.2:Int)],p.1)
theorem JC (w:List Int):∀(i:Nat) (ws:Ws),plW w i ws=(((iT ws).zipIdx i).map λp=>(w++[(p.2:Int)],p.1)).flatMap λp=>plG p.1 p.2
 |i,.nil=>rfl
 |i,.cons l g r=>by
  show plG (w++[(i:Int)]) g++plW w (i+1) r=_
  rw [JC w (i+1) r]
  rfl
theorem Zk (w:List Int)(g:Gm):plG w g=(w,g)::(bh w g).flatMap λp=>plG p.1 p.2:=by
 cases g with
 |fin d=>rfl
 |deal n ws=>show (w,Gm.deal n ws)::plW w 0 ws=_;rw [JC];rfl
 |move s n ws=>show (w,Gm.move s n ws)::plW w 0 ws=_;rw [JC];rfl
theorem wB:∀ws:Ws,szW ws=((iT ws).map szG).sum
 | .nil=>rfl
 | .cons l g r=>by show szG g+szW r=_;rw [wB r];rfl
theorem Us (g:Gm):szG g=((kids g).map szG).sum+1:=by
 cases g with
 |fin d=>rfl
 |deal n ws=>show szW ws+1=_;rw [wB];rfl
 |move s n ws=>show szW ws+1=_;rw [wB];rfl
theorem gF:∀ws:Ws,(iT ws).length=fK ws
 | .nil=>rfl
 | .cons l g r=>by show (iT r).length+1=_;rw [gF r];rfl
theorem uL:∀{ws:Ws} {g:Gm},yh ws->g∈iT ws->iw g
 | .cons l k r,g,h,hg=>by
  rcases List.mem_cons.mp hg with w | w
  ·rw [w];exact h.1
  ·exact uL h.2 w
theorem Dt {g k:Gm}(h:iw g)(hk:k∈kids g):iw k/\(kids g).length<=100:=by
 cases g with
 |fin d=>cases hk
 |deal n ws=>exact ⟨uL h.2 hk,by show (iT ws).length<=100;rw [gF];exact h.1⟩
 |move s n ws=>exact ⟨uL h.2 hk,by show (iT ws).length<=100;rw [gF];exact h.1⟩
theorem vR {g:Gm}(h:iw g):(kids g).length<=100:=by
 cases g with
 |fin d=>exact Nat.zero_le _
 |deal n ws=>show (iT ws).length<=100;rw [gF];exact h.1
 |move s n ws=>show (iT ws).length<=100;rw [gF];exact h.1
theorem w6:∀ws:Ws,dJ (ig 2 (bu (hName 0) (bu (hName 1) ik))) gQ (aG 1) [.un,.un] (dWs ws)=.ok ((iT ws).map dG)
 | .nil=>rfl
 | .cons l g r=>by
  have ih:=w6 r
  have e:aG 1 [.fz l,.fz (dG g)]=.ok (dG g):=rfl
  unfold dWs dJ
  simp [ig,bu,hName,ik,gQ,e,ih,iT]
theorem Dv {Q:Zae}{g:Gm}(q:Q [.fz (dG g)]=.ok (.lst ((kids g).map dG))\/kids g=[]/\∃d,g=.fin d):bj 1 1 (gJ Q) [dG g]=.ok (true,.lst ((kids g).map dG)):=by
 have x2:∀a b:D,atI [a,b] 0=some a:=λ_ _=>rfl
 have x3:∀a b c:D,atI [a,b,c] 0=some a:=λ_ _ _=>rfl
 have x4:∀a b c d:D,atI [a,b,c,d] 0=some a:=λ_ _ _ _=>rfl
 cases g with
 |fin d=>simp [bj,gJ,aJ,gIf,aR,aA,ak,fC,gIx,dG,x2,jP,Me.let,Sl.let,d8,aB,kids]
 |deal n ws=>
  rcases q with q | ⟨_,d,e⟩
  ·have q':=q
   simp only [dG] at q'
   simp [bj,gJ,aJ,gIf,aR,aA,ak,fC,gIx,dG,x3,jP,Me.let,Sl.let,q',gNx]
  ·cases e
 |move s n ws=>
  rcases q with q | ⟨_,d,e⟩
  ·have q':=q
   simp only [dG] at q'
   simp [bj,gJ,aJ,gIf,aR,aA,ak,fC,gIx,dG,x4,jP,Me.let,Sl.let,q',gNx]
  ·cases e
theorem xM {g:Gm}(h:iw g):iZ [dG g]=.ok (true,.lst ((kids g).map dG)):=by
 have x3:∀a b c:D,atI [a,b,c] (-1)=some c:=λ_ _ _=>rfl
 have x4:∀a b c d:D,atI [a,b,c,d] (-1)=some d:=λ_ _ _ _=>rfl
 refine Dv ?_
 cases g with
 |fin d=>exact .inr ⟨rfl,d,rfl⟩
 |deal n ws=>
  have hz:(dWs ws).length<=16777216:=by rw [mL];have:=h.1;omega
  left
  simp [lQ,du,uE,aA,ak,fUn,uO,fC,gIx,dG,x3,cMe,hz,w6,kids]
 |move s n ws=>
  have hz:(dWs ws).length<=16777216:=by rw [mL];have:=h.1;omega
  left
  simp [lQ,du,uE,aA,ak,fUn,uO,fC,gIx,dG,x4,cMe,hz,w6,kids]
theorem O2 (ks:List Gm):zR (ks.map dG)=ks.zipIdx.map λp=>D.tup [.int (p.2:Int),dG p.1]:=by
 unfold zR
 rw [List.mapIdx_eq_zipIdx_map,List.zipIdx_map,List.map_map]
 rfl
theorem gH {α:Type}{h:Zba}{ft:Zaf}{fe:Zae}{m0:Me}{g f:α->D}:∀l:List α,(∀c∈l,∃m1,h (g c) m0=some m1/\ft m1=.ok true/\fe m1=.ok (f c))->dJ h ft fe m0 (l.map g)=.ok (l.map f)
 |[],_=>rfl
 |d::ds,H=>by
  obtain ⟨m1,e1,e2,e3⟩:=H d List.mem_cons_self
  have ih:=gH ds λd hd=>H d (List.mem_cons_of_mem _ hd)
  rw [List.map_cons]
  unfold dJ
  simp only [e1,e2,e3,ih,List.map_cons]
theorem PN {w:List Int}{g:Gm}{a s1 s2 s4:Sl}(h:iw g)(hw:w.length<=1000):lr [a,s1,s2,.fz (pD (w,g)),s4]=.ok (.lst ((bh w g).map pD)):=by
 have hb:=xM h
 have hl:=vR h
 have x0:∀a b:D,atI [a,b] 0=some a:=λ_ _=>rfl
 have x1:∀a b:D,atI [a,b] 1=some b:=λ_ _=>rfl
 have e:dJ (ig 2 (bu (hName 0) (bu (hName 1) ik))) gQ oX [.un,.un,.fz (pD (w,g))] ((kids g).zipIdx.map λp=>D.tup [.int (p.2:Int),dG p.1])=.ok ((kids g).zipIdx.map λp=>pD (w++[(p.2:Int)],p.1)):=gH _ λp hp=>by
  refine ⟨[.fz (.int (p.2:Int)),.fz (dG p.1),.fz (pD (w,g))],rfl,rfl,?_⟩
  have hz:(w.map D.int).length+1<=16777216:=by rw [List.length_map];omega
  have hz':w.length+1<=16777216:=by omega
  simp [oX,bA,aa,aB,aA,ak,aG,fC,gIx,pD,x0,bY,hz']
 have hz:(kids g).length<=16777216:=by omega
 have e':((bh w g).map pD)=(kids g).zipIdx.map λp=>pD (w++[(p.2:Int)],p.1):=by unfold bh;rw [List.map_map];rfl
 rw [e']
 simp only [pD] at e ⊢
 simp [lr,du,YM,aa,aB,fFn,aA,ak,fC,gIx,x1,hb,O2,cMe,Sl.bor,hz,e]
noncomputable def szS (st:List (List Int×Gm)):Nat:=(st.map λp=>szG p.2).sum
theorem YS (w:List Int)(g:Gm):szS (bh w g)+1=szG g:=by
 rw [Us]
 unfold szS bh
 rw [List.map_map]
 congr 2
 have:((λp:List Int×Gm=>szG p.2) ∘ λp:Gm×Nat=>(w++[(p.2:Int)],p.1))=szG ∘ Prod.fst:=rfl
 rw [this,← List.map_map,List.zipIdx_map_fst]
theorem NQ:∀st:List (List Int×Gm),st.length<=szS st
 |[]=>Nat.zero_le _
 |p::st=>by
  have:=NQ st
  have:=sG p.2
  show st.length+1<=szG p.2+szS st
  omega
theorem Ms (a b:List (List Int×Gm)):szS (a++b)=szS a+szS b:=by unfold szS;rw [List.map_append,List.sum_append]
theorem yK {t:Zaf}{b:Zab}{n:Nat}{m m':Me}{r:Res (Fl×Me)}(h1:t m=.ok true)(h2:b m=.ok (.nx,m'))(h3:wh t b n m'=some r):wh t b (n+1) m=some r:=by
 unfold wh
 rw [h1,h2]
 exact h3
theorem yJ {t:Zaf}{b:Zab}{m:Me}(h1:t m=.ok false):wh t b 1 m=some (.ok (.nx,m)):=by
 unfold wh
 rw [h1]
theorem Fg {a s3 s4:Sl}{done st:List (List Int×Gm)}{w:List Int}{g:Gm}(h:iw g)(hw:w.length<=1000)(hz:done.length+st.length<=10000000):
  lg [a,.ow (.lst (done.map pD)),.ow (.lst ((((w,g)::st).map pD).reverse)),s3,s4]=.ok (.nx,[a,.ow (.lst ((done++[(w,g)]).map pD)),.ow (.lst (((bh w g++st).map pD).reverse)),.fz (pD (w,g)),.fz (.lst ((bh w g).map pD))]):=by
 have hl:=vR h
 have hb:(bh w g).length=(kids g).length:=by unfold bh;simp
 have q:∀s1 s2 s4,lr [a,s1,s2,.fz (pD (w,g)),s4]=.ok (.lst ((bh w g).map pD)):=λs1 s2 s4=>PN h hw
 have l1:((st.map pD).reverse++[pD (w,g)]).length - 1=(st.map pD).reverse.length:=by simp
 have g1:((st.map pD).reverse++[pD (w,g)])[((st.map pD).reverse++[pD (w,g)]).length - 1]? = some (pD (w,g)):=by rw [l1];simp
 have d1:((st.map pD).reverse++[pD (w,g)]).dropLast=(st.map pD).reverse:=List.dropLast_concat
 have z1:done.length<16777216:=by omega
 have z2:st.length+(bh w g).length<=16777216:=by rw [hb];omega
 rw [List.map_cons,List.reverse_cons]
 generalize hS:(st.map pD).reverse=S at *
 have lS:S.length=st.length:=by rw [← hS];simp
 have e2:((bh w g++st).map pD).reverse=S++((bh w g).map pD).reverse:=by rw [List.map_append,List.reverse_append,hS]
 rw [e2]
 have g1':(S++[pD (w,g)])[S.length]? = some (pD (w,g)):=by simp
 simp [lg,aJ,DR,jL,putL,cR,aG,aX,q,Fw,aU,aa,aB,ak,QS,z1,lS,z2]
theorem Xk {w:List Int}{g:Gm}(h:iw g):∀p∈bh w g,iw p.2/\p.1.length=w.length+1:=λp hp=>by
 unfold bh at hp
 obtain ⟨q,hq,rfl⟩:=List.mem_map.mp hp
 have:q.1∈kids g:=by have:=List.mem_map_of_mem (f:=Prod.fst) hq;rwa [List.zipIdx_map_fst] at this
 exact ⟨(Dt h this).1,by simp⟩
theorem Ob {g k:Gm}(hk:k∈kids g):dp k<dp g:=by
 have aux:∀{ws:Ws},k∈iT ws->dp k<=dpW ws:=by
  intro ws
  induction ws using Ws.rec (motive_1:=λ_=>True) with
  |nil=>intro h;cases h
  |cons l g r _ ih=>
   intro h
   show dp k<=max (dp g) (dpW r)
   rcases List.mem_cons.mp h with w | w
   ·rw [w];exact Nat.le_max_left _ _
   ·exact Nat.le_trans (ih w) (Nat.le_max_right _ _)
  |fin=>trivial
  |deal=>trivial
  |move=>trivial
 cases g with
 |fin d=>cases hk
 |deal n ws=>exact Nat.lt_succ_of_le (aux hk)
 |move s n ws=>exact Nat.lt_succ_of_le (aux hk)
theorem abg {w:List Int}{g:Gm}:∀p∈bh w g,dp p.2<dp g:=λp hp=>by
 unfold bh at hp
 obtain ⟨q,hq,rfl⟩:=List.mem_map.mp hp
 have:q.1∈kids g:=by have:=List.mem_map_of_mem (f:=Prod.fst) hq;rwa [List.zipIdx_map_fst] at this
 exact Ob this
theorem yV (a:Sl):∀(N:Nat) (done st:List (List Int×Gm)) (s3 s4:Sl),szS st=N->(∀p∈st,iw p.2/\p.1.length+dp p.2<=100)->done.length+szS st<=10000000->
  ∃k s3' s4',wh kI lg k [a,.ow (.lst (done.map pD)),.ow (.lst ((st.map pD).reverse)),s3,s4]=some (.ok (.nx,[a,.ow (.lst ((done++st.flatMap λp=>plG p.1 p.2).map pD)),.ow (.lst []),s3',s4'])):=by
 intro N
 induction N using Nat.strongRecOn with
 |_ N ih=>
  intro done st s3 s4 hN hs hz
  cases st with
  |nil=>
   refine ⟨1,s3,s4,?_⟩
   simp only [List.map_nil,List.reverse_nil,List.flatMap_nil,List.append_nil]
   exact yJ (by simp [kI,aR,aU,dW,aa,aB,ak,fC,gGt])
  |cons p st=>
   obtain ⟨w,g⟩:=p
   have h1:iw g/\w.length+dp g<=100:=hs (w,g) (by simp)
   have sb:=YS w g
   have hsum:szS ((w,g)::st)=szG g+szS st:=rfl
   have ls:=NQ st
   have gp:=sG g
   obtain ⟨k,t3,t4,e⟩:=ih (szS (bh w g++st)) (by rw [Ms];omega) (done++[(w,g)]) (bh w g++st) (.fz (pD (w,g))) (.fz (.lst ((bh w g).map pD))) rfl (λp hp=>by
    rcases List.mem_append.mp hp with v | v
    ·have v1:=Xk h1.1 p v
     have v2:=abg p v
     exact ⟨v1.1,by omega⟩
    ·exact hs p (by simp [v])) (by rw [Ms,List.length_append];simp;omega)
   refine ⟨k+1,t3,t4,?_⟩
   have e3:done++((w,g)::st).flatMap (λp=>plG p.1 p.2)=done++[(w,g)]++(bh w g++st).flatMap λp=>plG p.1 p.2:=by
    rw [List.flatMap_cons,List.flatMap_append,Zk]
    simp
   rw [e3]
   refine yK ?_ (Fg h1.1 (by omega) (by omega)) e
   simp [kI,aR,aU,dW,aa,aB,ak,fC,gGt]
theorem JH {L:Zab}{d:D}{ps:List D}{s3 s4:Sl}(e:L [.fz d,.ow (.lst []),.ow (.lst [.tup [.tup [],d]]),.un,.un]=.ok (.nx,[.fz d,.ow (.lst ps),.ow (.lst []),s3,s4])):bj 5 1 (nU L) [d]=.ok (true,.lst ps):=by
 simp [bj,nU,aJ,eX,d8,aa,aB,bA,aG,e,nP]
theorem places_eq {g:Gm}(h:iw g)(hd:dp g<=50)(hz:szG g<=10000000):ou [dG g]=.ok (true,.lst ((plG [] g).map pD)):=by
 obtain ⟨k,s3,s4,e⟩:=yV (.fz (dG g)) _ [] [([],g)] .un .un rfl (λp hp=>by rw [List.mem_singleton.mp hp];exact ⟨h,by simp;omega⟩) (by show 0+(szG g+0)<=_;omega)
 have e2:=rZ k e
 simp only [List.nil_append,List.flatMap_cons,List.flatMap_nil,List.append_nil] at e2
 exact JH (s3:=s3) (s4:=s4) e2
noncomputable def kw (w:List Int):List Kt:=w.map λi=>.k (.inl i)
theorem FJ:∀{v w:List Int},kw v=kw w->v=w
 |[],[],_=>rfl
 |[],_::_,h=>by cases h
 |_::_,[],h=>by cases h
 |a::v,b::w,h=>by
  have h:(Kt.k (.inl a):Kt)::kw v=Kt.k (.inl b)::kw w:=h
  injection h with h1 h2
  injection h1 with h1
  injection h1 with h1
  rw [h1,FJ h2]
theorem Yv:∀w:List Int,j8 (ktD 7) (w.map D.int)=some (kw w)
 |[]=>rfl
 |a::w=>by
  show ((ktD 7 (.int a)).bind λk=>(j8 (ktD 7) (w.map D.int)).map λks=>k::ks)=_
  rw [Yv w]
  rfl
theorem Rf (w:List Int):um (.tup (w.map D.int))=some (kw w):=Yv w
theorem Tj {k:List Kt}:∀{ks:List (List Kt)} {ds:List D},k∉ks->cF ks ds k=none
 |[],_,_=>by simp [cF]
 |a::ks,[],_=>by simp [cF]
 |a::ks,d::ds,h=>by
  have h1:a≠k:=λe=>h (e ▸ List.mem_cons_self)
  have h2:k∉ks:=λe=>h (List.mem_cons_of_mem _ e)
  unfold cF
  rw [if_neg h1,Tj h2]
theorem Iu {k k':List Kt}{d:D}:∀{ks:List (List Kt)} {ds:List D},ks.length=ds.length->k∈ks->cF ks (tQ ks ds k d) k'=if k=k' then some d else cF ks ds k'
 |[],_,_,h=>by cases h
 |a::ks,[],h,_=>by simp at h
 |a::ks,x::ds,h,hk=>by
  have hl:ks.length=ds.length:=by simpa using h
  unfold tQ cF
  by_cases h1:a=k'
  ·rw [if_pos h1,if_pos h1]
   by_cases h2:a=k
   ·rw [if_pos h2,if_pos (h2 ▸ h1)]
   ·rw [if_neg h2,if_neg λe=>h2 (by rw [h1,e])]
  ·rw [if_neg h1,if_neg h1]
   by_cases h2:k∈ks
   ·exact Iu hl h2
   ·have h3:a=k:=by
     rcases List.mem_cons.mp hk with e | e
     ·exact e.symm
     ·exact absurd e h2
    have h4:k≠k':=λe=>h1 (by rw [h3,e])
    rw [if_neg h4]
    have e:∀{ks:List (List Kt)} {ds:List D},k∉ks->ks.length=ds.length->tQ ks ds k d=ds:=by
     intro ks
     induction ks with
     |nil=>intro ds _ hl;cases ds with
      |nil=>rfl
      |cons _ _=>simp at hl
     |cons b ks ih=>intro ds hn hl;cases ds with
      |nil=>simp at hl
      |cons y ds=>
       unfold tQ
       rw [if_neg (λ(e:b=k)=>hn (e ▸ List.mem_cons_self)),ih (λe=>hn (List.mem_cons_of_mem _ e)) (by simpa using hl)]
    rw [e h2 hl]
theorem Lq {k k':List Kt}{d:D}:∀{ks:List (List Kt)} {ds:List D},ks.length=ds.length->k∉ks->cF (ks++[k]) (ds++[d]) k'=if k=k' then some d else cF ks ds k'
 |[],[],_,_=>by simp [cF]
 |[],_::_,h,_=>by simp at h
 |a::ks,[],h,_=>by simp at h
 |a::ks,x::ds,h,hk=>by
  have ih:=Lq (k:=k) (k':=k') (d:=d) (ks:=ks) (ds:=ds) (by simpa using h) λe=>hk (List.mem_cons_of_mem _ e)
  have hn:a≠k:=λe=>hk (e ▸ List.mem_cons_self)
  show cF (a::(ks++[k])) (x::(ds++[d])) k'=_
  unfold cF
  rw [ih]
  by_cases h1:a=k'
  ·rw [if_pos h1,if_neg λe=>hn (by rw [h1,e]),if_pos h1]
  ·rw [if_neg h1,if_neg h1]
theorem Gw {k:List Kt}{ks:List (List Kt)}:ks.any (λx=>decide (x=k))=true↔k∈ks:=by
 rw [List.any_eq_true]
 constructor
 ·rintro ⟨x,hx,e⟩
  have:x=k:=by simpa using e
  rw [← this];exact hx
 ·intro h;exact ⟨k,h,by simp⟩
theorem Im {k:List Kt}{d:D}:∀{ks:List (List Kt)} {ds:List D},ks.length=ds.length->(tQ ks ds k d).length=ks.length
 |[],[],_=>rfl
 |[],_::_,h=>by simp at h
 |a::ks,[],h=>by simp at h
 |a::ks,x::ds,h=>by
  have:=Im (k:=k) (d:=d) (ks:=ks) (ds:=ds) (by simpa using h)
  simp [tQ,this]
theorem vg {ks:List (List Kt)}{ds:List D}{k k':List Kt}{d:D}(hl:ks.length=ds.length):cF (jk ks ds k d).1 (jk ks ds k d).2 k'=if k=k' then some d else cF ks ds k':=by
 unfold jk
 by_cases h:ks.any (λx=>decide (x=k))=true
 ·rw [if_pos h];exact Iu hl (Gw.mp h)
 ·rw [if_neg h];exact Lq hl λz=>h (Gw.mpr z)
theorem G4 {ks:List (List Kt)}{ds:List D}{k:List Kt}{d:D}(hl:ks.length=ds.length):(jk ks ds k d).1.length=(jk ks ds k d).2.length/\(jk ks ds k d).1.length<=ks.length+1:=by
 unfold jk
 by_cases h:ks.any (λx=>decide (x=k))=true
 ·rw [if_pos h];exact ⟨(Im hl).symm,by simp⟩
 ·rw [if_neg h];exact ⟨by simp [hl],by simp⟩
theorem cM {h:Zba}{g:Zab}{d:D}{ds:List D}{m m1 m2:Me}(h1:h d m=some m1)(h2:g m1=.ok (.nx,m2)):bJ h g (d::ds) m=bJ h g ds m2:=by
 rw [bJ,h1]
 simp only [h2]
abbrev Rc:=List D×List D
noncomputable def rD2 (r:Rc):D:=.tup [.tup r.1,.tup r.2]
noncomputable def rbm (s:Int)(n:Str)(r:Rc)(l:D):Rc:=if s=1 then (r.1++[.tup [.str n,l]],r.2) else (r.1,r.2++[.tup [.str n,l]])
noncomputable def eV:Ws->List D
 | .nil=>[]
 | .cons l _ r=>l::eV r
noncomputable def rbg:Gm->Rc->D->Rc
 | .move s n _,r,l=>rbm s n r l
 |_,r,_=>r
noncomputable def wZ:Gm->Ws
 | .fin _=>.nil
 | .deal _ ws=>ws
 | .move _ _ ws=>ws
mutual
noncomputable def prG:List Int->Rc->Gm->List (List Int×Gm×Rc)
 |w,r,.fin d=>[(w,.fin d,r)]
 |w,r,.deal n ws=>(w,.deal n ws,r)::prW w (λ_=>r) 0 ws
 |w,r,.move s n ws=>(w,.move s n ws,r)::prW w (rbm s n r) 0 ws
noncomputable def prW:List Int->(D->Rc)->Nat->Ws->List (List Int×Gm×Rc)
 |_,_,_,.nil=>[]
 |w,f,i,.cons l g r=>prG (w++[(i:Int)]) (f l) g++prW w f (i+1) r
end
mutual
theorem RT:∀(w:List Int) (r:Rc) (g:Gm),(prG w r g).map (λp=>(p.1,p.2.1))=plG w g
 |w,r,.fin d=>rfl
 |w,r,.deal n ws=>by
  show (w,Gm.deal n ws)::(prW w (λ_=>r) 0 ws).map _=(w,Gm.deal n ws)::plW w 0 ws
  rw [Kg w _ 0 ws]
 |w,r,.move s n ws=>by
  show (w,Gm.move s n ws)::(prW w (rbm s n r) 0 ws).map _=(w,Gm.move s n ws)::plW w 0 ws
  rw [Kg w _ 0 ws]
theorem Kg:∀(w:List Int) (f:D->Rc) (i:Nat) (ws:Ws),(prW w f i ws).map (λp=>(p.1,p.2.1))=plW w i ws
 |w,f,i,.nil=>rfl
 |w,f,i,.cons l g r=>by
  show (prG (w++[(i:Int)]) (f l) g++prW w f (i+1) r).map _=plG (w++[(i:Int)]) g++plW w (i+1) r
  rw [List.map_append,RT _ _ g,Kg w f (i+1) r]
end
noncomputable def trD (p:List Int×Gm×Rc):D:=.tup [.tup (p.1.map D.int),dG p.2.1,rD2 p.2.2]
theorem NP:∀(ws:Ws) (k:Nat) (l:D),(eV ws)[k]? = some l->∃g,(dWs ws)[k]? = some (.tup [l,g])
 | .nil,k,l,h=>by simp [eV] at h
 | .cons a g r,0,l,h=>by
  have:a=l:=by simpa [eV] using h
  exact ⟨dG g,by simp [dWs,this]⟩
 | .cons a g r,k+1,l,h=>by
  obtain ⟨x,e⟩:=NP r k l (by simpa [eV] using h)
  exact ⟨x,by simpa [dWs] using e⟩
theorem lB:∀ws:Ws,(eV ws).length=fK ws
 | .nil=>rfl
 | .cons _ _ r=>by simp [eV,fK,lB r]
theorem abo {g:Gm}{r:Rc}{k:Nat}{l:D}(hl:(eV (wZ g))[k]? = some l)(hg:iw g)(hr:r.1.length<=1000/\r.2.length<=1000)(hs:∀s n ws,g=.move s n ws->s=1\/s=2):
  dZ [dG g,rD2 r,.int (k:Int)]=.ok (false,rD2 (rbg g r l)):=by
 have x30:∀a b c:D,atI [a,b,c] 0=some a:=λ_ _ _=>rfl
 have x40:∀a b c d:D,atI [a,b,c,d] 0=some a:=λ_ _ _ _=>rfl
 have x41:∀a b c d:D,atI [a,b,c,d] 1=some b:=λ_ _ _ _=>rfl
 have x42:∀a b c d:D,atI [a,b,c,d] 2=some c:=λ_ _ _ _=>rfl
 have x43:∀a b c d:D,atI [a,b,c,d] 3=some d:=λ_ _ _ _=>rfl
 have x20:∀a b:D,atI [a,b] 0=some a:=λ_ _=>rfl
 have x21:∀a b:D,atI [a,b] 1=some b:=λ_ _=>rfl
 cases g with
 |fin d=>simp [wZ,eV] at hl
 |deal n ws=>simp [dZ,fQ,fU,bj,aJ,gIf,aR,aA,ak,fC,gIx,dG,x30,bD,aG,Me.let,Sl.let,rbg]
 |move s n ws=>
  obtain ⟨y,ey⟩:=NP ws k l hl
  have ez:=kj ey
  have z1:r.1.length+1<=16777216:=by omega
  have z2:r.2.length+1<=16777216:=by omega
  rcases hs s n ws rfl with rfl | rfl
  ·simp [dZ,fQ,fU,bj,aJ,gIf,aR,aA,ak,fC,gIx,dG,x40,x41,x42,x43,bD,aG,Me.let,Sl.let,rbg,gNx,aX,bA,aa,aB,ez,x20,x21,rD2,bY,z1,rbm]
  ·simp [dZ,fQ,fU,bj,aJ,gIf,aR,aA,ak,fC,gIx,dG,x40,x41,x42,x43,bD,aG,Me.let,Sl.let,rbg,gNx,aX,bA,aa,aB,ez,x20,x21,rD2,bY,z2,rbm]
theorem abO (w:List Int)(j:Int):kw (w++[j])≠kw w:=λh=>by
 have:=FJ h
 have:=congrArg List.length this
 simp at this
theorem Zn {w:List Int}{i j:Int}(h:i≠j):kw (w++[i])≠kw (w++[j]):=λe=>h (by simpa using FJ e)
theorem QB {g0 s2 s5:Sl}{ks:List (List Kt)}{ds:List D}{w:List Int}{g:Gm}{r:Rc}{k:Nat}{l:D}(hv:cF ks ds (kw w)=some (rD2 r))(hk:(eV (wZ g))[k]? = some l)(hg:iw g)(hr:r.1.length<=1000/\r.2.length<=1000)
  (hs:∀s n ws,g=.move s n ws->s=1\/s=2) (hz:ks.length<=10000000) (hw:w.length<=1000):
  cU [g0,.ow (.dcu ks ds),s2,.fz (.tup (w.map D.int)),.fz (dG g),.fz (.int (k:Int))]=.ok (.nx,[g0,.ow (.dcu (jk ks ds (kw (w++[(k:Int)])) (rD2 (rbg g r l))).1 (jk ks ds (kw (w++[(k:Int)])) (rD2 (rbg g r l))).2),s2,.fz (.tup (w.map D.int)),.fz (dG g),.fz (.int (k:Int))]):=by
 have e:=abo hk hg hr hs
 have z1:ks.length<16777216:=by omega
 have z2:w.length+1<=16777216:=by omega
 have kk:um (.tup (w.map D.int++[.int (k:Int)]))=some (kw (w++[(k:Int)])):=by
  rw [← Rf];simp
 have kk2:um (.tup (w.map D.int))=some (kw w):=Rf w
 simp [cU,Du,fFn,aa,aB,aG,aA,ak,vY,dcK,kk2,hv,e,GP,bA,bY,z2,kk,z1,rn]
theorem Hf {g0 s2:Sl}{w:List Int}{g:Gm}{r:Rc}(hg:iw g)(hr:r.1.length<=1000/\r.2.length<=1000)(hs:∀s n ws,g=.move s n ws->s=1\/s=2)(hw:w.length<=1000):
  ∀(c i:Nat) (ks:List (List Kt)) (ds:List D) (s5:Sl),i+c=(eV (wZ g)).length->ks.length=ds.length->cF ks ds (kw w)=some (rD2 r)->ks.length+c<=1000000->
   ∃ks' ds' s5',bJ (hName 5) cU ((List.range' i c).map λ(k:Nat)=>D.int k) [g0,.ow (.dcu ks ds),s2,.fz (.tup (w.map D.int)),.fz (dG g),s5]=.ok (.nx,[g0,.ow (.dcu ks' ds'),s2,.fz (.tup (w.map D.int)),.fz (dG g),s5'])/\ks'.length=ds'.length/\ks'.length<=ks.length+c/\
    (∀j l,i<=j->(eV (wZ g))[j]? = some l->cF ks' ds' (kw (w++[(j:Int)]))=some (rD2 (rbg g r l)))/\(∀k',(∀j:Nat,i<=j->k'≠kw (w++[(j:Int)]))->cF ks' ds' k'=cF ks ds k')
 |0,i,ks,ds,s5,hc,hl,hv,hz=>⟨ks,ds,s5,rfl,hl,by omega,λj l h1 h2=>by
   have:=(List.getElem?_eq_some_iff.mp h2).1
   omega,λ_ _=>rfl⟩
 |c+1,i,ks,ds,s5,hc,hl,hv,hz=>by
  have hi:i<(eV (wZ g)).length:=by omega
  obtain ⟨l,el⟩:∃l,(eV (wZ g))[i]? = some l:=⟨_,List.getElem?_eq_getElem hi⟩
  have st:=QB (g0:=g0) (s2:=s2) (s5:=s5) hv el hg hr hs (by omega) hw
  have hv1:cF (jk ks ds (kw (w++[(i:Int)])) (rD2 (rbg g r l))).1 (jk ks ds (kw (w++[(i:Int)])) (rD2 (rbg g r l))).2 (kw w)=some (rD2 r):=by rw [vg hl,if_neg (abO w i)];exact hv
  obtain ⟨l1,l2⟩:=G4 (k:=kw (w++[(i:Int)])) (d:=rD2 (rbg g r l)) hl
  obtain ⟨ks',ds',s5',e,a1,a2,a3,a4⟩:=Hf (g0:=g0) (s2:=s2) (w:=w) (g:=g) (r:=r) hg hr hs hw c (i+1) _ _ (.fz (.int (i:Int))) (by omega) l1 hv1 (by omega)
  refine ⟨ks',ds',s5',?_,a1,by omega,λj l' h1 h2=>?_,λk' h=>?_⟩
  ·rw [List.range'_succ,List.map_cons]
   rw [cM (m1:=[g0,.ow (.dcu ks ds),s2,.fz (.tup (w.map D.int)),.fz (dG g),.fz (.int (i:Int))]) rfl st]
   exact e
  ·by_cases q:i=j
   ·subst q
    rw [a4 _ λj hj=>Zn (by omega),vg hl,if_pos rfl]
    rw [el] at h2;cases h2;rfl
   ·exact a3 j l' (by omega) h2
  ·rw [a4 k' λj hj=>h j (by omega),vg hl,if_neg λq=>h i (Nat.le_refl _) q.symm]
mutual
def sdG:Gm->Prop
 | .fin _=>True
 | .deal _ ws=>sdW ws
 | .move s _ ws=>(s=1\/s=2)/\sdW ws
def sdW:Ws->Prop
 | .nil=>True
 | .cons _ g r=>sdG g/\sdW r
end
noncomputable abbrev hPl:Zba:=ig 2 (bu (hName 3) (bu (hName 4) ik))
theorem yW (g:Gm):kids g=iT (wZ g):=by cases g<;>rfl
theorem Am {g0 s3 s4 s5:Sl}{ks:List (List Kt)}{ds found:List D}{w:List Int}{g:Gm}{r:Rc}(hl:ks.length=ds.length)(hv:cF ks ds (kw w)=some (rD2 r))(hg:iw g)(hr:r.1.length<=1000/\r.2.length<=1000)
  (hs:∀s n ws,g=.move s n ws->s=1\/s=2) (hz:ks.length<=100000) (hf:found.length<=100000) (hw:w.length<=1000):
  ∃ks' ds' s5',(hPl (pD (w,g)) [g0,.ow (.dcu ks ds),.ow (.lst found),s3,s4,s5]=some [g0,.ow (.dcu ks ds),.ow (.lst found),.fz (.tup (w.map D.int)),.fz (dG g),s5])/\
   bc [g0,.ow (.dcu ks ds),.ow (.lst found),.fz (.tup (w.map D.int)),.fz (dG g),s5]=.ok (.nx,[g0,.ow (.dcu ks' ds'),.ow (.lst (found++[trD (w,g,r)])),.fz (.tup (w.map D.int)),.fz (dG g),s5'])/\ks'.length=ds'.length/\ks'.length<=ks.length+fK (wZ g)/\
    (∀(j:Nat) (l:D),(eV (wZ g))[j]? = some l->cF ks' ds' (kw (w++[(j:Int)]))=some (rD2 (rbg g r l)))/\(∀k',(∀j:Nat,k'≠kw (w++[(j:Int)]))->cF ks' ds' k'=cF ks ds k'):=by
 have hb:=xM hg
 have hk:=vR hg
 have ek:(kids g).length=(eV (wZ g)).length:=by rw [yW,gF,lB]
 obtain ⟨ks',ds',s5',e,a1,a2,a3,a4⟩:=Hf (g0:=g0) (s2:=.ow (.lst (found++[trD (w,g,r)]))) (w:=w) (g:=g) (r:=r) hg hr hs hw (kids g).length 0 ks ds s5 (by omega) hl hv (by omega)
 refine ⟨ks',ds',s5',rfl,?_,a1,by rw [← lB,← ek];exact a2,λj l h=>a3 j l (Nat.zero_le _) h,λk' h=>a4 k' λj _=>h j⟩
 have z1:found.length<16777216:=by omega
 have z3:((kids g).length:Int)<4611686018427387904:=by omega
 have kk2:um (.tup (w.map D.int))=some (kw w):=Rf w
 have eL:fZ [g0,.ow (.dcu ks ds),.ow (.lst (found++[trD (w,g,r)])),.fz (.tup (w.map D.int)),.fz (dG g),s5]=.ok (.nx,[g0,.ow (.dcu ks' ds'),.ow (.lst (found++[trD (w,g,r)])),.fz (.tup (w.map D.int)),.fz (dG g),s5']):=by
  have e1:(aa (aU dW (aa (fFn iZ (aa (aG 4) aB)) aB)) aB) [g0,.ow (.dcu ks ds),.ow (.lst (found++[trD (w,g,r)])),.fz (.tup (w.map D.int)),.fz (dG g),s5]=.ok [.int ((kids g).length:Int)]:=by
   simp [aU,dW,fFn,aa,aB,aG,hb]
  have e2:=BK e1 (by omega) (by omega)
  unfold fZ gZ
  rw [e2]
  show bJ (hName 5) cU ((List.range (kids g).length).map λ(k:Nat)=>D.int k) _=_
  rw [List.range_eq_range']
  exact e
 simp only [trD] at eL ⊢
 simp [bc,aJ,cR,bA,aa,aB,aG,aA,ak,vY,dcK,kk2,hv,jL,putL,z1,eL]
theorem Gp (ws:Ws):(iT ws).length<=((iT ws).map szG).sum:=by
 induction iT ws with
 |nil=>exact Nat.zero_le _
 |cons g l ih=>have:=sG g;simp;omega
mutual
theorem Fv:∀(w:List Int) (g:Gm),(plG w g).length=szG g
 |w,.fin d=>rfl
 |w,.deal n ws=>by show (plW w 0 ws).length+1=szW ws+1;rw [Ea w 0 ws]
 |w,.move s n ws=>by show (plW w 0 ws).length+1=szW ws+1;rw [Ea w 0 ws]
theorem Ea:∀(w:List Int) (i:Nat) (ws:Ws),(plW w i ws).length=szW ws
 |w,i,.nil=>rfl
 |w,i,.cons l g r=>by show (plG (w++[(i:Int)]) g++plW w (i+1) r).length=szG g+szW r;rw [List.length_append,Fv _ g,Ea w (i+1) r]
end
mutual
theorem Ry (g0:Sl):∀(g:Gm) (w:List Int) (r:Rc) (ks:List (List Kt)) (ds found:List D) (s3 s4 s5:Sl) (rest:List D),ks.length=ds.length->cF ks ds (kw w)=some (rD2 r)->iw g->sdG g->r.1.length+dp g<=1000->r.2.length+dp g<=1000->w.length+dp g<=1000->
  ks.length+szG g<=100001->found.length+szG g<=100000->
  ∃ks' ds' s3' s4' s5',bJ hPl bc ((plG w g).map pD++rest) [g0,.ow (.dcu ks ds),.ow (.lst found),s3,s4,s5]=bJ hPl bc rest [g0,.ow (.dcu ks' ds'),.ow (.lst (found++(prG w r g).map trD)),s3',s4',s5']/\ks'.length=ds'.length/\ks'.length+1<=ks.length+szG g/\
   (∀k',(∀u:List Int,u≠[]->k'≠kw (w++u))->cF ks' ds' k'=cF ks ds k')
 | .fin d,w,r,ks,ds,found,s3,s4,s5,rest,hl,hv,hg,hs,r1,r2,hw,hz,hf=>by
  have hsz:szG (.fin d)=1:=rfl
  obtain ⟨ks',ds',s5',e1,e2,a1,a2,a3,a4⟩:=Am (g0:=g0) (s3:=s3) (s4:=s4) (s5:=s5) (found:=found) (g:=.fin d) hl hv hg ⟨by omega,by omega⟩ (λ_ _ _ z=>by cases z) (by omega) (by omega) (by omega)
  refine ⟨ks',ds',.fz (.tup (w.map D.int)),.fz (dG (.fin d)),s5',?_,a1,by simpa [wZ,fK,szG] using a2,λk' h=>a4 k' λj=>h [(j:Int)] (by simp)⟩
  show bJ hPl bc (pD (w,.fin d)::rest) _=_
  rw [cM e1 e2]
  rfl
 | .deal n ws,w,r,ks,ds,found,s3,s4,s5,rest,hl,hv,hg,hs,r1,r2,hw,hz,hf=>by
  have hsz:szG (.deal n ws)=szW ws+1:=rfl
  have hdp:dp (.deal n ws)=dpW ws+1:=rfl
  have hlw:fK ws<=szW ws:=by rw [← gF,wB];exact Gp ws
  obtain ⟨ks',ds',s5',e1,e2,a1,a2,a3,a4⟩:=Am (g0:=g0) (s3:=s3) (s4:=s4) (s5:=s5) (found:=found) (g:=.deal n ws) hl hv hg ⟨by omega,by omega⟩ (λ_ _ _ z=>by cases z) (by omega) (by omega) (by omega)
  have a2:ks'.length<=ks.length+fK ws:=a2
  obtain ⟨kt,dt,t3,t4,t5,e,b1,b2,b3⟩:=Kd g0 ws w (λ_=>r) 0 ks' ds' (found++[trD (w,.deal n ws,r)]) (.fz (.tup (w.map D.int))) (.fz (dG (.deal n ws))) s5' rest a1 (λj l h=>by rw [Nat.zero_add];exact a3 j l h) hg.2 hs (λl=>by omega) (λl=>by omega) (by omega) (by omega) (by rw [List.length_append,List.length_singleton];omega)
  refine ⟨kt,dt,t3,t4,t5,?_,b1,by omega,λk' h=>?_⟩
  ·show bJ hPl bc (pD (w,.deal n ws)::((plW w 0 ws).map pD++rest)) _=_
   rw [cM e1 e2,e]
   show bJ _ _ _ [_,_,.ow (.lst (found++[trD (w,.deal n ws,r)]++(prW w (λ_=>r) 0 ws).map trD)),_,_,_]=bJ _ _ _ [_,_,.ow (.lst (found++(trD (w,.deal n ws,r)::(prW w (λ_=>r) 0 ws).map trD))),_,_,_]
   rw [List.append_assoc];rfl
  ·rw [b3 k' λj u hu=>h _ (by simp),a4 k' λj=>h [(j:Int)] (by simp)]
 | .move s n ws,w,r,ks,ds,found,s3,s4,s5,rest,hl,hv,hg,hs,r1,r2,hw,hz,hf=>by
  have hsz:szG (.move s n ws)=szW ws+1:=rfl
  have hdp:dp (.move s n ws)=dpW ws+1:=rfl
  have hlw:fK ws<=szW ws:=by rw [← gF,wB];exact Gp ws
  obtain ⟨ks',ds',s5',e1,e2,a1,a2,a3,a4⟩:=Am (g0:=g0) (s3:=s3) (s4:=s4) (s5:=s5) (found:=found) (g:=.move s n ws) hl hv hg ⟨by omega,by omega⟩ (λ_ _ _ z=>by cases z;exact hs.1) (by omega) (by omega) (by omega)
  have a2:ks'.length<=ks.length+fK ws:=a2
  have rl:∀l,(rbm s n r l).1.length<=r.1.length+1/\(rbm s n r l).2.length<=r.2.length+1:=λl=>by
   unfold rbm;split<;>simp
  obtain ⟨kt,dt,t3,t4,t5,e,b1,b2,b3⟩:=Kd g0 ws w (rbm s n r) 0 ks' ds' (found++[trD (w,.move s n ws,r)]) (.fz (.tup (w.map D.int))) (.fz (dG (.move s n ws))) s5' rest a1 (λj l h=>by rw [Nat.zero_add];exact a3 j l h) hg.2 hs.2 (λl=>by have:=(rl l).1;omega) (λl=>by have:=(rl l).2;omega) (by omega) (by omega) (by rw [List.length_append,List.length_singleton];omega)
  refine ⟨kt,dt,t3,t4,t5,?_,b1,by omega,λk' h=>?_⟩
  ·show bJ hPl bc (pD (w,.move s n ws)::((plW w 0 ws).map pD++rest)) _=_
   rw [cM e1 e2,e]
   show bJ _ _ _ [_,_,.ow (.lst (found++[trD (w,.move s n ws,r)]++(prW w (rbm s n r) 0 ws).map trD)),_,_,_]=bJ _ _ _ [_,_,.ow (.lst (found++(trD (w,.move s n ws,r)::(prW w (rbm s n r) 0 ws).map trD))),_,_,_]
   rw [List.append_assoc];rfl
  ·rw [b3 k' λj u hu=>h _ (by simp),a4 k' λj=>h [(j:Int)] (by simp)]
theorem Kd (g0:Sl):∀(ws:Ws) (w:List Int) (f:D->Rc) (i:Nat) (ks:List (List Kt)) (ds found:List D) (s3 s4 s5:Sl) (rest:List D),ks.length=ds.length->(∀(j:Nat) (l:D),(eV ws)[j]? = some l->cF ks ds (kw (w++[((i+j:Nat):Int)]))=some (rD2 (f l)))->yh ws->sdW ws->
  (∀l,(f l).1.length+dpW ws<=1000)->(∀l,(f l).2.length+dpW ws<=1000)->w.length+1+dpW ws<=1000->ks.length+szW ws<=100000+fK ws->found.length+szW ws<=100000->
  ∃ks' ds' s3' s4' s5',bJ hPl bc ((plW w i ws).map pD++rest) [g0,.ow (.dcu ks ds),.ow (.lst found),s3,s4,s5]=bJ hPl bc rest [g0,.ow (.dcu ks' ds'),.ow (.lst (found++(prW w f i ws).map trD)),s3',s4',s5']/\ks'.length=ds'.length/\ks'.length+fK ws<=ks.length+szW ws/\
   (∀k',(∀(j:Nat) (u:List Int),u≠[]->k'≠kw (w++((i+j:Nat):Int)::u))->cF ks' ds' k'=cF ks ds k')
 | .nil,w,f,i,ks,ds,found,s3,s4,s5,rest,hl,hv,hg,hs,r1,r2,hw,hz,hf=>⟨ks,ds,s3,s4,s5,by simp [plW,prW],hl,by simp [fK,szW],λ_ _=>rfl⟩
 | .cons l g r,w,f,i,ks,ds,found,s3,s4,s5,rest,hl,hv,hg,hs,r1,r2,hw,hz,hf=>by
  have hsz:szW (.cons l g r)=szG g+szW r:=rfl
  have hdp:dpW (.cons l g r)=max (dp g) (dpW r):=rfl
  have hlw:fK (.cons l g r)=fK r+1:=rfl
  have hl2:fK r<=szW r:=by rw [← gF,wB];exact Gp r
  have hp:=sG g
  have q1:=r1 l
  have q2:=r2 l
  obtain ⟨ks',ds',t3,t4,t5,e,a1,a2,a3⟩:=Ry g0 g (w++[(i:Int)]) (f l) ks ds found s3 s4 s5 ((plW w (i+1) r).map pD++rest) hl (hv 0 l rfl) hg.1 hs.1 (by omega) (by omega) (by rw [List.length_append,List.length_singleton];omega) (by omega) (by omega)
  have pl:(prG (w++[(i:Int)]) (f l) g).length=szG g:=by rw [← List.length_map (f:=λp=>(p.1,p.2.1)),RT];exact Fv _ g
  obtain ⟨kt,dt,u3,u4,u5,e',b1,b2,b3⟩:=Kd g0 r w f (i+1) ks' ds' (found++(prG (w++[(i:Int)]) (f l) g).map trD) t3 t4 t5 rest a1 (λj l' h=>by
   rw [a3 _ λu hu z=>?_,← hv (j+1) l' (by simpa [eV] using h),show i+(j+1)=i+1+j by omega]
   have:=FJ z
   simp at this
   omega) hg.2 hs.2 (λl=>by have:=r1 l;omega) (λl=>by have:=r2 l;omega) (by omega) (by omega) (by rw [List.length_append,List.length_map,pl];omega)
  refine ⟨kt,dt,u3,u4,u5,?_,b1,by omega,λk' h=>?_⟩
  ·show bJ _ _ ((plG (w++[(i:Int)]) g++plW w (i+1) r).map pD++rest) _=_
   rw [List.map_append,List.append_assoc,e,e']
   show _=bJ _ _ _ [_,_,.ow (.lst (found++(prG (w++[(i:Int)]) (f l) g++prW w f (i+1) r).map trD)),_,_,_]
   rw [List.map_append,List.append_assoc]
  ·rw [b3 k' λj u hu=>by have:=h (j+1) u hu;rw [show i+(j+1)=i+1+j by omega] at this;exact this]
   refine a3 k' λu hu=>?_
   have:=h 0 u hu
   simpa using this
end
theorem VR {L:Zab}{d:D}{ps:List D}{a s3 s4 s5:Sl}(e:L [.fz d,.ow (.dcu [[]] [rD2 ([],[])]),.ow (.lst []),.un,.un,.un]=.ok (.nx,[.fz d,a,.ow (.lst ps),s3,s4,s5])):bj 6 1 (eN L) [d]=.ok (true,.lst ps):=by
 have k0:um (.tup [])=some []:=rfl
 simp only [rD2] at e
 simp [bj,eN,aJ,eX,J2,bA,aB,aa,k0,d8,e,nP]
theorem YZ {g:Gm}(h:iw g)(hs:sdG g)(hd:dp g<=50)(hz:szG g<=10000):eQ [dG g]=.ok (true,.lst ((prG [] ([],[]) g).map trD)):=by
 have e:=places_eq h hd (by omega)
 obtain ⟨ks',ds',s3',s4',s5',e2,_⟩:=Ry (.fz (dG g)) g [] ([],[]) [[]] [rD2 ([],[])] [] .un .un .un [] rfl (by simp [cF,kw]) h hs (by simp;omega) (by simp;omega) (by simp;omega) (by simp;omega) (by simp;omega)
 refine VR (a:=.ow (.dcu ks' ds')) (s3:=s3') (s4:=s4') (s5:=s5') ?_
 have e1:jH (fFn ou (aa (aG 0) aB)) [.fz (dG g),.ow (.dcu [[]] [rD2 ([],[])]),.ow (.lst []),.un,.un,.un]=.ok ((plG [] g).map pD):=by
  simp [jH,fFn,aa,aB,aG,e]
 unfold jn gZ
 rw [e1]
 rw [List.append_nil] at e2
 exact e2
noncomputable def lW (r:Rc)(s:Int):List D:=if s=1 then r.1 else r.2
noncomputable def eU (s:Int)(n:Str)(ws:Ws)(r:Rc):D:=.tup [.int s,.str n,.tup (eV ws),.tup (lW r s)]
theorem wU:∀ws:Ws,dJ (ig 2 (bu (hName 0) (bu (hName 1) ik))) gQ (aG 0) [.un,.un] (dWs ws)=.ok (eV ws)
 | .nil=>rfl
 | .cons l g r=>by
  have ih:=wU r
  have e:aG 0 [.fz l,.fz (dG g)]=.ok l:=rfl
  unfold dWs dJ
  simp [ig,bu,hName,ik,gQ,e,ih,eV]
theorem Sd {s:Int}{n:Str}{ws:Ws}(h:fK ws<=100):p7 [dG (.move s n ws)]=.ok (false,.tup (eV ws)):=by
 have x4:∀a b c d:D,atI [a,b,c,d] 3=some d:=λ_ _ _ _=>rfl
 have hz:(eV ws).length<=16777216:=by rw [lB];omega
 have hz2:(dWs ws).length<=16777216:=by rw [mL];omega
 have e:pY [.fz (dG (.move s n ws))]=.ok (.lst (eV ws)):=by
  simp [pY,du,uE,aA,ak,fC,gIx,dG,x4,cMe,wU,hz,hz2]
 simp [p7,uF,uC,bj,bD,aU,aa,aB,Me.let,Sl.let,e,fH,hz]
theorem ZF {s:Int}{n:Str}{ws:Ws}{r:Rc}(h:fK ws<=100)(hs:s=1\/s=2):rH [dG (.move s n ws),rD2 r]=.ok (false,eU s n ws r):=by
 have e:=Sd (s:=s) (n:=n) h
 have x1:∀a b c d:D,atI [a,b,c,d] 1=some b:=λ_ _ _ _=>rfl
 have x2:∀a b c d:D,atI [a,b,c,d] 2=some c:=λ_ _ _ _=>rfl
 have y0:∀a b:D,atI [a,b] 0=some a:=λ_ _=>rfl
 have y1:∀a b:D,atI [a,b] 1=some b:=λ_ _=>rfl
 simp only [dG] at e
 rcases hs with rfl | rfl
 ·simp [rH,vQ,vq,bj,bD,Me.let,Sl.let,bA,aa,aB,aA,ak,fC,gIx,dG,x1,x2,fFn,aG,e,rD2,F.dB,y0,y1,eU,lW]
 ·simp [rH,vQ,vq,bj,bD,Me.let,Sl.let,bA,aa,aB,aA,ak,fC,gIx,dG,x1,x2,fFn,aG,e,rD2,F.dB,y0,y1,eU,lW]
abbrev Tb:=List (List Kt)×List D
noncomputable def kn (s:Int)(n:Str):List Kt:=[.k (.inl s),.k (.inr n)]
noncomputable def tst (T:Tb)(p:List Int×Gm×Rc):Tb:=match p.2.1 with
 | .move s n ws=>if (cF T.1 T.2 (kn s n)).isSome then T else (T.1++[kn s n],T.2++[eU s n ws p.2.2])
 |_=>T
noncomputable def tbl (l:List (List Int×Gm×Rc)):Tb:=l.foldl tst ([],[])
theorem NZ (T:Tb)(p:List Int×Gm×Rc):(tst T p).1.length<=T.1.length+1:=by
 unfold tst
 split
 ·split<;>simp
 ·omega
def okP (p:List Int×Gm×Rc):Prop:=match p.2.1 with
 | .move s _ ws=>(s=1\/s=2)/\fK ws<=100
 |_=>True
theorem Rq {g0 s2 s3 s4:Sl}{T:Tb}{p:List Int×Gm×Rc}(hp:okP p)(hz:T.1.length<=100000):∃m1,ig 3 (bu (hName 2) (bu (hName 3) (bu (hName 4) ik))) (trD p) [g0,.ow (.dcu T.1 T.2),s2,s3,s4]=some m1/\
  gj m1=.ok (.nx,[g0,.ow (.dcu (tst T p).1 (tst T p).2),.fz (.tup (p.1.map D.int)),.fz (dG p.2.1),.fz (rD2 p.2.2)]):=by
 refine ⟨[g0,.ow (.dcu T.1 T.2),.fz (.tup (p.1.map D.int)),.fz (dG p.2.1),.fz (rD2 p.2.2)],rfl,?_⟩
 obtain ⟨w,g,r⟩:=p
 have x20:∀a b:D,atI [a,b] 0=some a:=λ_ _=>rfl
 have x30:∀a b c:D,atI [a,b,c] 0=some a:=λ_ _ _=>rfl
 have x40:∀a b c d:D,atI [a,b,c,d] 0=some a:=λ_ _ _ _=>rfl
 have x41:∀a b c d:D,atI [a,b,c,d] 1=some b:=λ_ _ _ _=>rfl
 have x42:∀a b c d:D,atI [a,b,c,d] 2=some c:=λ_ _ _ _=>rfl
 cases g with
 |fin d=>simp [gj,gIf,aR,aA,ak,fC,gIx,dG,x20,gNx,tst]
 |deal n ws=>simp [gj,gIf,aR,aA,ak,fC,gIx,dG,x30,gNx,tst]
 |move s n ws=>
  have hp:(s=1\/s=2)/\fK ws<=100:=hp
  have e:=ZF (n:=n) (r:=r) hp.2 hp.1
  simp only [dG] at e
  have kk:um (.tup [.int s,.str n])=some (kn s n):=rfl
  have z1:T.1.length<16777216:=by omega
  by_cases q:(cF T.1 T.2 (kn s n)).isSome=true
  ·simp [gj,gIf,aR,aA,ak,fC,gIx,dG,x40,x41,x42,W7,GP,bA,aa,aB,fFn,aG,e,kk,z1,tst,q,rn]
  ·simp [gj,gIf,aR,aA,ak,fC,gIx,dG,x40,x41,x42,W7,GP,bA,aa,aB,fFn,aG,e,kk,z1,tst,q,rn]
theorem Jh {g0:Sl}:∀(l:List (List Int×Gm×Rc)) (T:Tb) (s2 s3 s4:Sl),(∀p∈l,okP p)->T.1.length+l.length<=100000->∃s2' s3' s4',bJ (ig 3 (bu (hName 2) (bu (hName 3) (bu (hName 4) ik)))) gj (l.map trD) [g0,.ow (.dcu T.1 T.2),s2,s3,s4]=.ok (.nx,[g0,.ow (.dcu (l.foldl tst T).1 (l.foldl tst T).2),s2',s3',s4'])
 |[],T,s2,s3,s4,_,_=>⟨s2,s3,s4,rfl⟩
 |p::l,T,s2,s3,s4,hp,hz=>by
  have hz':T.1.length+(l.length+1)<=100000:=hz
  obtain ⟨m1,e1,e2⟩:=Rq (g0:=g0) (s2:=s2) (s3:=s3) (s4:=s4) (T:=T) (hp p List.mem_cons_self) (by omega)
  have:=NZ T p
  obtain ⟨a,b,c,e⟩:=Jh l (tst T p) (.fz (.tup (p.1.map D.int))) (.fz (dG p.2.1)) (.fz (rD2 p.2.2)) (λq hq=>hp q (List.mem_cons_of_mem _ hq)) (by omega)
  exact ⟨a,b,c,by rw [List.map_cons,cM e1 e2,e];rfl⟩
theorem tab_run {L:Zab}{d:D}{ks:List (List Kt)}{ds:List D}{s2 s3 s4:Sl}(e:L [.fz d,.ow (.dcu [] []),.un,.un,.un]=.ok (.nx,[.fz d,.ow (.dcu ks ds),s2,s3,s4])):bj 5 1 (qz L) [d]=.ok (true,.lst ds):=by
 simp [bj,qz,aJ,eX,CQ,e,jP,Me.let,Sl.let,Js,ak]
mutual
theorem Cu:∀(w:List Int) (r:Rc) (g:Gm),iw g->sdG g->∀p∈prG w r g,okP p
 |w,r,.fin d,_,_,p,hp=>by
  have:p=(w,.fin d,r):=by simpa [prG] using hp
  rw [this];exact True.intro
 |w,r,.deal n ws,h,hs,p,hp=>by
  rcases List.mem_cons.mp (show p∈(w,Gm.deal n ws,r)::prW w (λ_=>r) 0 ws from hp) with e | e
  ·rw [e];exact True.intro
  ·exact Jt w _ 0 ws h.2 hs p e
 |w,r,.move s n ws,h,hs,p,hp=>by
  rcases List.mem_cons.mp (show p∈(w,Gm.move s n ws,r)::prW w (rbm s n r) 0 ws from hp) with e | e
  ·rw [e];exact ⟨hs.1,h.1⟩
  ·exact Jt w _ 0 ws h.2 hs.2 p e
theorem Jt:∀(w:List Int) (f:D->Rc) (i:Nat) (ws:Ws),yh ws->sdW ws->∀p∈prW w f i ws,okP p
 |w,f,i,.nil,_,_,p,hp=>by cases hp
 |w,f,i,.cons l g r,h,hs,p,hp=>by
  rcases List.mem_append.mp (show p∈prG (w++[(i:Int)]) (f l) g++prW w f (i+1) r from hp) with e | e
  ·exact Cu _ _ g h.1 hs.1 p e
  ·exact Jt w f (i+1) r h.2 hs.2 p e
end
theorem Eo (w:List Int)(r:Rc)(g:Gm):(prG w r g).length=szG g:=by rw [← List.length_map (f:=λp=>(p.1,p.2.1)),RT];exact Fv _ g
theorem table_eq {g:Gm}(h:iw g)(hs:sdG g)(hd:dp g<=50)(hz:szG g<=10000):uv [dG g]=.ok (true,.lst (tbl (prG [] ([],[]) g)).2):=by
 have e:=YZ h hs hd hz
 obtain ⟨a,b,c,e2⟩:=Jh (g0:=.fz (dG g)) (prG [] ([],[]) g) ([],[]) .un .un .un (Cu _ _ g h hs) (by rw [Eo];simp;omega)
 refine tab_run (ks:=(tbl (prG [] ([],[]) g)).1) (s2:=a) (s3:=b) (s4:=c) ?_
 have e1:jH (fFn eQ (aa (aG 0) aB)) [.fz (dG g),.ow (.dcu [] []),.un,.un,.un]=.ok ((prG [] ([],[]) g).map trD):=by
  simp [jH,fFn,aa,aB,aG,e]
 unfold v7 gZ
 rw [e1]
 exact e2
end Pk
namespace F
open PySem L2 Hd
noncomputable def rq (r:Rat):Q2:=(r.num,(r.den:Int))
noncomputable def rD (r:Rat):D:=qD (rq r)
theorem nJ (r:Rat):rD r=.tup [.int r.num,.int r.den]:=rfl
theorem iC (r:Rat):1<=(r.den:Int):=by have:=r.den_pos;omega
theorem QJ (r:Rat):gI r.num r.den=1:=by
 unfold gI
 have:=r.reduced
 unfold Nat.Coprime at this
 show ((Int.gcd r.num (r.den:Int):Nat):Int)=1
 unfold Int.gcd
 simp [this]
theorem Ec {t b:Int}(hb:b≠0):(lt t b,lb t b)=rq (Rat.divInt t b):=by
 have h:=Rat.num_divInt_den (Rat.divInt t b)
 have hd:((Rat.divInt t b).den:Int)≠0:=by have:=iC (Rat.divInt t b);omega
 have h2:=(Rat.divInt_eq_divInt_iff hd hb).mp h
 obtain ⟨z1,z2⟩:=aal hb (iC (Rat.divInt t b)) (QJ (Rat.divInt t b)) (t:=t) h2.symm
 exact Prod.ext z1 z2
theorem Ac (r:Rat):Rat.divInt r.num r.den=r:=Rat.num_divInt_den r
theorem Lp (a b:Rat):Rat.divInt (a.num*b.den+b.num*a.den) (a.den*b.den)=a+b:=by
 have ha:=iC a
 have hb:=iC b
 rw [← Rat.divInt_add_divInt _ _ (by omega) (by omega),Ac,Ac]
theorem T4 (a b:Rat):Rat.divInt (a.num*b.num) (a.den*b.den)=a*b:=by
 rw [← Rat.divInt_mul_divInt,Ac,Ac]
def Sz (k:Nat)(r:Rat):Prop:=r.num.natAbs<2 ^ k/\r.den<2 ^ k
theorem Sz.mono {k l:Nat}{r:Rat}(h:Sz k r)(e:k<=l):Sz l r:=⟨cJ h.1 e,cJ h.2 e⟩
theorem zN {t b:Int}{k:Nat}(hb:b≠0)(h1:t.natAbs<2 ^ k)(h2:b.natAbs<2 ^ k):Sz k (Rat.divInt t b):=by
 have e:=Ec (t:=t) hb
 have e1:=congrArg Prod.fst e
 have e2:=congrArg Prod.snd e
 have e1:lt t b=(Rat.divInt t b).num:=e1
 have e2:lb t b=((Rat.divInt t b).den:Int):=e2
 have l1:=X4 (t:=t) hb
 have l2:=Yp (t:=t) hb
 rw [e1] at l1
 rw [e2] at l2
 exact ⟨by omega,by omega⟩
theorem uz {a b:Rat}{k l:Nat}(ha:Sz k a)(hb:Sz l b):Sz (k+l+1) (a+b):=by
 rw [← Lp]
 have pa:=iC a
 have pb:=iC b
 have h1:(a.num*b.den).natAbs<2 ^ (k+l):=oK ha.1 (by simpa using hb.2)
 have h2:(b.num*a.den).natAbs<2 ^ (k+l):=by rw [Nat.add_comm];exact oK hb.1 (by simpa using ha.2)
 have h3:((a.den:Int)*b.den).natAbs<2 ^ (k+l):=oK (by simpa using ha.2) (by simpa using hb.2)
 refine zN ?_ (Zv h1 h2) (cJ h3 (by omega))
 exact Int.mul_ne_zero (by omega) (by omega)
theorem oF {a b:Rat}{k l:Nat}(ha:Sz k a)(hb:Sz l b):Sz (k+l) (a*b):=by
 rw [← T4]
 have pa:=iC a
 have pb:=iC b
 refine zN (Int.mul_ne_zero (by omega) (by omega)) (oK ha.1 hb.1) (oK (by simpa using ha.2) (by simpa using hb.2))
theorem rW:Sz 1 0:=⟨by decide,by decide⟩
theorem Ft:Sz 1 1:=⟨by decide,by decide⟩
theorem KD {k:Nat}{r:Rat}(h:Sz k r)(hk:k<=4000):Bq r.num/\Bq (r.den:Int):=⟨gP (cJ h.1 (by omega)),gP (cJ (by simpa using h.2) (by omega))⟩
theorem aaB {k l:Nat}{a b:Rat}(h:Sz k a)(g:Sz l b)(hk:k+l<=4000):Bq ((a.den:Int)*b.den):=gP (cJ (oK (by simpa using h.2) (by simpa using g.2)) (by omega))
theorem zp (a b:Rat):(a.den:Int)*b.den≠0:=Int.mul_ne_zero (by have:=iC a;omega) (by have:=iC b;omega)
end F
namespace Pk
open PySem L2 Hd F
theorem Wy (x y:Sl):∀(n:Nat) (a b:Int) (z:Sl),b.toNat=n->0<=a->0<=b->∃k z',wh jh ji k [x,y,.fz (.int a),.fz (.int b),z] =
  some (.ok (.nx,[x,y,.fz (.int (gI a b)),.fz (.int 0),z'])):=by
 intro n
 induction n using Nat.strongRecOn with
 |_ n ih=>
  intro a b z hn ha hb
  by_cases h0:b=0
  ·subst h0
   refine ⟨1,z,?_⟩
   rw [KH ha]
   exact yJ rfl
  ·have hb':0<b:=by omega
   have hm:=Int.emod_lt_of_pos a hb'
   have hm0:=Int.emod_nonneg a h0
   obtain ⟨k,z',e⟩:=ih (a % b).toNat (by omega) b (a % b) (.fz (.int (a % b))) rfl hb hm0
   rw [Mt ha hb'] at e
   refine ⟨k+1,z',yK (m':=[x,y,.fz (.int b),.fz (.int (a % b)),.fz (.int (a % b))]) ?_ ?_ e⟩
   ·simp [jh,aR,ak,fC,h0]
   ·simp [ji,aJ,aX,aA,ak,aG,bF,mdI,h0,hb']
theorem iH (a b:Int):fV [.int a,.int b]=.ok (false,.int (gI a b)):=by
 obtain ⟨k,z',e⟩:=Wy (.fz (.int a)) (.fz (.int b)) _ (if a<0 then -a else a) (if b<0 then -b else b) .un rfl (by split<;>omega) (by split<;>omega)
 rw [TJ] at e
 have e2:=rZ k e
 simp [fV,bj,jY,jR,ni,aJ,aX,aU,aa,aB,ak,PK,e2,bD,Me.let,Sl.let,aG]
theorem abD {i:Int}{k:Nat}(h:i.natAbs<2 ^ k)(hk:k<=4000:=by decide):Bq i:=gP (cJ h (by omega))
theorem Jb {t b:Int}(hb:b≠0)(hB:Bq b):mV [.int t,.int b]=.ok (false,.tup [.int (lt t b),.int (lb t b)]):=by
 have hd:=Ma (t:=t) hb
 have hB':Bq (dv t b):=by
  have h1:=Yu (a:=t) hb
  have h2:=UG t b
  unfold Bq at hB ⊢
  omega
 have e1:dvI t (dv t b)=lt t b:=by
  unfold dvI lt
  split
  ·rw [Int.fdiv_eq_ediv_of_nonneg t (by omega)]
  ·rfl
 have e2:dvI b (dv t b)=lb t b:=by
  unfold dvI lb
  split
  ·rw [Int.fdiv_eq_ediv_of_nonneg b (by omega)]
  ·rfl
 by_cases h:b<0
 ·have e:dv t b=-gI t b:=if_pos h
  rw [e] at e1 e2 hd hB'
  have hg:gI t b≠0:=by omega
  simp [hg,mV,bj,v5,vB,aJ,aX,fFn,aa,aB,aG,ak,iH,gIf,aR,fC,gLt,h,fUn,uO,bD,Me.let,Sl.let,bA,aA,dC,hB',e1,e2]
 ·have e:dv t b=gI t b:=if_neg h
  rw [e] at e1 e2 hd hB'
  have hg:gI t b≠0:=by omega
  simp [hg,mV,bj,v5,vB,aJ,aX,fFn,aa,aB,aG,ak,iH,gIf,aR,fC,gLt,h,gNx,bD,Me.let,Sl.let,bA,aA,dC,hB',e1,e2,hd]
theorem ix0 {a b:D}:atI [a,b] 0=some a:=rfl
theorem ix1 {a b:D}:atI [a,b] 1=some b:=rfl
theorem uI {t b:Int}(hb:b≠0)(hB:Bq b):mV [.int t,.int b]=.ok (false,rD (Rat.divInt t b)):=by
 rw [Jb hb hB]
 have e:=Ec (t:=t) hb
 show _=Res.ok (false,qD (rq (Rat.divInt t b)))
 rw [← e]
 rfl
theorem Q8 {a b:Rat}{k l:Nat}(ha:Sz k a)(hb:Sz l b)(hk:k+l<=4000):uK [rD a,rD b]=.ok (false,rD (a+b)):=by
 obtain ⟨a1,a2⟩:=KD ha (by omega)
 obtain ⟨b1,b2⟩:=KD hb (by omega)
 have e:=uI (t:=a.num*b.den+b.num*a.den) (zp a b) (aaB ha hb hk)
 rw [Lp] at e
 simp [uK,bj,GK,Fe,bD,Me.let,Sl.let,fFn,aa,aB,aA,ak,fC,gIx,nJ,ix0,ix1,f9,bY,a1,a2,b1,b2]
 rw [e]
 simp [nJ]
theorem Qx {a b:Rat}{k l:Nat}(ha:Sz k a)(hb:Sz l b)(hk:k+l<=4000):yZ [rD a,rD b]=.ok (false,.bl (decide (a.num*b.den<b.num*a.den))):=by
 obtain ⟨a1,a2⟩:=KD ha (by omega)
 obtain ⟨b1,b2⟩:=KD hb (by omega)
 simp [yZ,bj,Gz,GQ,bD,Me.let,Sl.let,mK,aa,aB,aA,ak,fC,gIx,nJ,ix0,ix1,f9,a1,a2,b1,b2,gLt]
theorem Hh {a:Sl}(k:Nat):∀(l:List Rat) (q:Rat) (j:Nat) (s2:Sl),Sz j q->(∀x∈l,Sz k x)->j+l.length*(k+1)<=2000->k<=2000->
  ∃s2',bJ (hName 2) xr (l.map rD) [a,.fz (rD q),s2]=.ok (.nx,[a,.fz (rD (q+l.sum)),s2'])
 |[],q,j,s2,_,_,_,_=>⟨s2,by simp [bJ,Rat.add_zero]⟩
 |x::l,q,j,s2,hq,hl,hj,hk=>by
  have hx:=hl x List.mem_cons_self
  have hj':j+(l.length+1)*(k+1)<=2000:=hj
  rw [Nat.add_mul] at hj'
  have e:=Q8 hq hx (by omega)
  obtain ⟨s2',e'⟩:=Hh k l (q+x) (j+k+1) (.fz (rD x)) (uz hq hx) (λy hy=>hl y (List.mem_cons_of_mem _ hy)) (by omega) hk
  refine ⟨s2',?_⟩
  rw [List.map_cons,cM (m1:=[a,.fz (rD q),.fz (rD x)]) (m2:=[a,.fz (rD (q+x)),.fz (rD x)]) rfl (by simp [xr,aX,fFn,aa,aB,aG,e]),e',List.sum_cons,Rat.add_assoc]
theorem PL {l:List Rat}{k:Nat}(hl:∀x∈l,Sz k x)(hj:1+l.length*(k+1)<=2000)(hk:k<=2000):yQ [.lst (l.map rD)]=.ok (false,rD l.sum):=by
 obtain ⟨s2',e⟩:=Hh (a:=.fz (.lst (l.map rD))) k l 0 1 .un rW hl hj hk
 have e0:rD 0=.tup [.int 0,.int 1]:=rfl
 rw [Rat.zero_add,e0] at e
 simp [yQ,bj,Fi,GR,Dq,aJ,aX,fC,gZ,jH,aG,ak,e,bD,Me.let,Sl.let]
theorem Cz {α:Type}{f:α->D}{b:α->Bool}:∀l:List α,(∀x∈l,f x=.bl (b x))->Be (l.map f)=some (l.map b)
 |[],_=>rfl
 |x::l,h=>by
  have ih:=Cz l λy hy=>h y (List.mem_cons_of_mem _ hy)
  simp [Be,h x List.mem_cons_self,ih]
noncomputable def sdD:D->Int
 | .tup [.int s,_,_,_]=>s
 |_=>0
noncomputable def wdD:D->Nat
 | .tup [_,_,.tup ws,_]=>ws.length
 |_=>0
def Cp (d:D):Prop:=∃s n ws r,d=eU s n ws r
theorem xY {h:Zba}{ft:Zaf}{fe:Zae}{m0:Me}(P:D->Bool):∀ds:List D,(∀d∈ds,∃m1,h d m0=some m1/\ft m1=.ok (P d)/\fe m1=.ok d)->dJ h ft fe m0 ds=.ok (ds.filter P)
 |[],_=>rfl
 |d::ds,H=>by
  obtain ⟨m1,e1,e2,e3⟩:=H d List.mem_cons_self
  have ih:=xY P ds λd hd=>H d (List.mem_cons_of_mem _ hd)
  unfold dJ
  rw [List.filter_cons]
  by_cases q:P d=true
  ·simp only [e1,e2,q,e3,ih,if_pos]
  ·have q':P d=false:=by simpa using q
   simp only [e1,e2,q',ih]
   simp
theorem yP:∀(l:List (List Int×Gm×Rc)) (T:Tb) (d:D),d∈(l.foldl tst T).2->d∈T.2\/∃p∈l,∃s n ws,p.2.1=.move s n ws/\d=eU s n ws p.2.2
 |[],T,d,h=>.inl h
 |p::l,T,d,h=>by
  rcases yP l (tst T p) d h with e | ⟨q,hq,e⟩
  ·unfold tst at e
   split at e
   ·rename_i s n ws ep
    split at e
    ·exact .inl e
    ·rcases List.mem_append.mp e with e | e
     ·exact .inl e
     ·exact .inr ⟨p,List.mem_cons_self,s,n,ws,ep,by simpa using e⟩
   ·exact .inl e
  ·exact .inr ⟨q,List.mem_cons_of_mem _ hq,e⟩
theorem uR {l:List (List Int×Gm×Rc)}{d:D}(h:d∈(tbl l).2):Cp d:=by
 rcases yP l ([],[]) d h with e | ⟨p,_,s,n,ws,_,e⟩
 ·cases e
 ·exact ⟨s,n,ws,p.2.2,e⟩
theorem Xp {g:Gm}{s:Int}(h:iw g)(hs:sdG g)(hd:dp g<=50)(hz:szG g<=10000):rT [dG g,.int s]=.ok (true,.lst ((tbl (prG [] ([],[]) g)).2.filter λd=>decide (sdD d=s))):=by
 have e:=table_eq h hs hd hz
 have ec:dJ (hName 0) (aR gEq (aA gIx (ak 0) (fC (.int 0))) (ak 1)) (aG 0) [.un,.fz (.int s)] (tbl (prG [] ([],[]) g)).2=.ok ((tbl (prG [] ([],[]) g)).2.filter λd=>decide (sdD d=s)):=xY _ _ λd hd=>by
  obtain ⟨a,n,ws,r,rfl⟩:=uR hd
  refine ⟨[.fz (eU a n ws r),.fz (.int s)],rfl,?_,rfl⟩
  have x0:∀a b c d:D,atI [a,b,c,d] 0=some a:=λ_ _ _ _=>rfl
  simp [aR,aA,ak,fC,gIx,eU,x0,sdD]
  exact decide_eq_decide.mpr Iff.rfl
 have z1:(tbl (prG [] ([],[]) g)).2.length<=16777216:=by
  have:∀(l:List (List Int×Gm×Rc)) (T:Tb),(l.foldl tst T).2.length<=T.2.length+l.length:=by
   intro l
   induction l with
   |nil=>intro T;simp
   |cons p l ih=>
    intro T
    have:=ih (tst T p)
    have q:(tst T p).2.length<=T.2.length+1:=by
     unfold tst
     split
     ·split<;>simp
     ·omega
    simp only [List.foldl_cons,List.length_cons]
    omega
  have:=this (prG [] ([],[]) g) ([],[])
  rw [Eo] at this
  simp at this
  have e:tbl (prG [] ([],[]) g)=(prG [] ([],[]) g).foldl tst ([],[]):=rfl
  rw [e]
  omega
 have eq:qQ [.fz (dG g),.fz (.int s)]=.ok (.lst ((tbl (prG [] ([],[]) g)).2.filter λd=>decide (sdD d=s))):=by
  simp [qQ,du,jH,fFn,aa,aB,aG,e,cMe,Sl.bor,ec,z1]
 simp [rT,wX,wg,bj,jP,Me.let,Sl.let,eq]
def okT (l:List D)(s:Int):Prop:=(l.filter λd=>decide (sdD d=s)).length<=8/\((l.filter λd=>decide (sdD d=s)).map λd=>(wdD d:Int)).sum<=24
def smQ (d:Q2):Prop:=d.1.natAbs<=999999999999/\d.2<=999
def Zx (ws:Ws):Prop:=∃l:List Rat,eV ws=l.map rD/\(∀x∈l,Sz 20 x/\smQ (rq x)/\0<x.num)/\l.length<=3/\l.sum=1
def okF (g:Gm):Prop:=match g with
 | .fin d=>smQ d
 | .deal _ ws=>Zx ws
 |_=>True
theorem Mx {α:Type}{f:α->D}{l:List α}(h:∀x∈l,f x=.bl true):VN [.lst (l.map f)]=some (.bl true):=by
 have:=Cz (b:=λ_=>true) l h
 show (Be (l.map f)).map (λbs=>D.bl (bs.all id))=_
 rw [this]
 simp
def okR (d:D):Prop:=okD d=true/\pZ d<=20
theorem ZL {s t:Int}{n m:Str}(h:kn s n=kn t m):s=t/\n=m:=by
 unfold kn at h
 injection h with h1 h2
 injection h1 with h1
 injection h1 with h1
 injection h2 with h2
 injection h2 with h2
 injection h2 with h2
 exact ⟨h1,h2⟩
def UW (ρ:Int->Str->D)(p:List Int×Gm×Rc):Prop:=∀s n ws,p.2.1=.move s n ws->eU s n ws p.2.2=ρ s n/\okR (ρ s n)
structure Gd (g:Gm):Prop where
 len:iw g
 sd:sdG g
 dep:dp g<=12
 sz:szG g<=64
 row:∃ρ,∀p∈prG [] ([],[]) g,UW ρ p
 fr:∀p∈prG [] ([],[]) g,okF p.2.1/\iw p.2.1
 t1:okT (tbl (prG [] ([],[]) g)).2 1
 t2:okT (tbl (prG [] ([],[]) g)).2 2
end Pk
namespace Lw
open PySem L2 Hd F Pk
section
noncomputable def jA:Zab:=
 (aJ (gIf (aR gLt (ak 1) (aU dW (aa (ak 0) aB))) (bD (aA gIx (ak 0) (ak 1))) gNx)
 (bD (fC (.int 0))))
noncomputable def jD:Zab:=
 jA
noncomputable def fY:Zac:=bj 2 2 jD
noncomputable def lK:Zaf:=
 (aR gNe (ak 3) (fC (.int 0)))
noncomputable def lR:Zab:=
 (aai 2 3 (aa (aG 3) (aa (aA bF (ak 2) (ak 3)) aB)))
def qM:Zab:=
 (m5 lK lR)
noncomputable def oZ (l_3:Zab):Zab:=
 (aJ (aX 2 (aU PK (aa (ak 0) aB)))
 (aJ (aX 3 (aG 1))
 (aJ l_3
 (bD (bA (aa (aA dC (ak 0) (ak 2)) (aa (aA dC (ak 1) (ak 2)) aB)))))))
def oV:Zab:=
 (oZ qM)
def cP:Zac:=bj 4 2 oV
noncomputable def iR:Zab:=
 (aJ (cR 4 (aA bF (ak 0) (fC (.int 36))))
 (aX 0 (aA dC (ak 0) (fC (.int 36)))))
noncomputable def oG:Zab:=
 (gZ (pQ (aa (ak 3) aB)) (hName 5) iR)
noncomputable def oW:Zae:=
 (aA gIx (ak 1) (ak 0))
noncomputable def oM:Zae:=
 (du 1 [2] (jH (ak 4)) (hName 0) gQ oW)
noncomputable def kY:Zae:=
 (fSl (aA Q0 (fC (.int 8)) (ak 1)) fO0 (fO1 (ak 0)))
noncomputable def oA:Zae:=
 (du 1 [6] (La (aa (fC (.int 1)) (aa (fC (.int 9)) aB))) (hName 0) gQ kY)
noncomputable def iQ:Zab:=
 (aJ (aX 9 (aA gIx (ak 2) (aA bF (aA bY (aA gIx (ak 4) (ak 7)) (aA f9 (fC (.int 4)) (ak 5))) (fC (.int 36)))))
 (cR 8 (aA bY (aA bY (fSl (ak 6) fO0 (fO1 (ak 7))) (ak 9)) (fSl (ak 6) (fO1 (aA bY (ak 7) (fC (.int 1)))) fO0))))
noncomputable def sX:Zab:=
 (gZ (pQ (aa (fC (.int 8)) aB)) (hName 5) iQ)
noncomputable def jo (l_2:Zab)(l_4:Zae)(l_6:Zae)(l_8:Zab):Zab:=
 (aJ (aX 2 (fC (.str "abcdefghijklmnopqrstuvwxyz0123456789")))
 (aJ (aX 3 (aA bY (fC (.int 1)) (aA bF (ak 0) (fC (.int 8)))))
 (aJ (aX 0 (aA dC (ak 0) (fC (.int 8))))
 (aJ (eX 4 (d8 aB))
 (aJ l_2
 (aJ (aX 6 (Nf "str" Jf (fC (.str "")) (aa l_4 aB)))
 (aJ (gIf (aR gEq (aA bF (aA dC (ak 1) (fC (.int 8))) (fC (.int 3))) (fC (.int 1))) (jP l_6) gNx)
 (aJ (aX 7 (aA bF (ak 1) (ak 3)))
 (aJ (eX 8 (d8 aB))
 (aJ l_8
 (nP 8)))))))))))
noncomputable def xR:Zab:=
 (jo oG oM oA sX)
noncomputable def qZ:Zac:=bj 10 2 xR
noncomputable def mC (φ__law_lowest:Zac):Zab:=
 (aJ (gIf (aR gEq (aA bF (ak 0) (fC (.int 8))) (fC (.int 3))) (bD (fFn φ__law_lowest (aa (aA dB (aA bF (aA f9 (ak 0) (fC (.int 48271))) (fC (.int 1999999999999))) (fC (.int 999999999999))) (aa (aA bY (fC (.int 1)) (aA bF (aA dC (ak 0) (fC (.int 8))) (fC (.int 999)))) aB)))) gNx)
 (bD (fFn φ__law_lowest (aa (aA dB (aA bF (aA dC (ak 0) (fC (.int 8))) (fC (.int 13))) (fC (.int 6))) (aa (aA bY (fC (.int 1)) (aA bF (aA dC (ak 0) (fC (.int 104))) (fC (.int 3)))) aB)))))
def mO:Zab:=
 (mC cP)
def cz:Zac:=bj 1 1 mO
noncomputable def eZ:Zab:=
 (aJ (cR 2 (aA bY (aA bY (fC (.int 1)) (aA bF (ak 0) (fC (.int 4)))) (aA f9 (aA dC (aA bF (aA dC (ak 0) (fC (.int 4))) (fC (.int 8))) (fC (.int 7))) (aA bF (aA dC (ak 0) (fC (.int 32))) (fC (.int 200))))))
 (aX 0 (aA bF (aA f9 (ak 0) (fC (.int 48271))) (fC (.int 2147483647)))))
noncomputable def jg:Zab:=
 (gZ (pQ (aa (ak 1) aB)) (hName 3) eZ)
def lV:Zae:=
 (fFn cP (aa (aG 0) (aa (aU JT (aa (ak 1) aB)) aB)))
def lL:Zae:=
 (du 1 [2] (jH (ak 2)) (hName 0) gQ lV)
noncomputable def kJ (l_2:Zab)(l_4:Zae):Zab:=
 (aJ (eX 2 (d8 aB))
 (aJ l_2
 (jP l_4)))
def tK:Zab:=
 (kJ jg lL)
def lu:Zac:=bj 4 2 tK
noncomputable def ur:Zab:=
 (bD (aA bF (aA f9 (aA bY (aA bF (ak 0) (fC (.int 2147483647))) (fC (.int 1))) (aA bY (fC (.int 48271)) (aA f9 (fC (.int 7)) (ak 1)))) (fC (.int 2147483647))))
noncomputable def uq:Zab:=
 ur
noncomputable def cB:Zac:=bj 2 2 uq
noncomputable def d9:Zab:=
 (aJ (aX 5 (bA (aa (aG 1) (aa (aG 2) (aa (aG 3) (aa (aG 4) aB))))))
 (aJ (gIf (aR vh (ak 5) (wA 6 (aA cg (ak 0) (fC (.str "names"))))) (aJ (uU 6 (aA cg (ak 0) (fC (.str "names"))) (aG 5) (aA gIx (wA 7 (aA cg (ak 0) (fC (.str "many")))) (aA dB (ak 1) (fC (.int 1)))))
 (sH 7 (aA cg (ak 0) (fC (.str "many"))) (aA dB (ak 1) (fC (.int 1))) (aA bY (aA gIx (wA 7 (aA cg (ak 0) (fC (.str "many")))) (aA dB (ak 1) (fC (.int 1)))) (fC (.int 1))))) gNx)
 (bD (aA vY (wA 6 (aA cg (ak 0) (fC (.str "names")))) (ak 5)))))
noncomputable def d7:Zab:=
 d9
noncomputable def cT:List D->D->Addr×D->Addr×D->Res (D×D×D×D):=runST 0 8 5 d7
noncomputable def gD (Φb:List D->D->Addr×D->Addr×D->Res (D×D×D×D)):Zab:=
 (aJ (aX 12 (aA gIx (ak 8) (aA bF (aA bY (aA bY (aA f9 (fC (.int 3)) (ak 7)) (ak 11)) (aA dC (aA cg (ak 1) (fC (.str "turn"))) (fC (.int 8)))) (fC (.int 8)))))
 (aJ (eX 13 (aU rB (aa (ak 3) aB)))
 (aJ (lU 13 (aA dB (ak 5) (fC (.int 1))) (aA bY (aA gIx (ak 13) (aA dB (ak 5) (fC (.int 1)))) (bA (aa (bA (aa (aG 9) (aa (aG 12) aB))) aB))))
 (S8 13 (pG 10 (Cr (qT (fX (aG 12)) (qT (uA Φb 1 1 14 15 (aa (aG 0) (aa (aA dB (ak 2) (fC (.int 1))) (aa (aG 13) aB)))) Dh))))))))
noncomputable def km (Φb:List D->D->Addr×D->Addr×D->Res (D×D×D×D)):Zab:=
 (gZ (pQ (aa (ak 6) aB)) (hName 11) (gD Φb))
noncomputable def jl (φ__law_stake:Zac)(φ__law_name_number:List D->D->Addr×D->Addr×D->Res (D×D×D×D))(l_2:Zab):Zab:=
 (aJ (aX 5 (aA bY (fC (.int 1)) (aA bF (ak 4) (fC (.int 2)))))
 (aJ (aX 6 (aA bY (fC (.int 1)) (aA bF (aA dC (ak 4) (fC (.int 16))) (fC (.int 3)))))
 (aJ (Nv 7 (uA φ__law_name_number 1 0 14 15 (aa (aG 5) (aa (aA gIx (ak 3) (aA dB (ak 5) (fC (.int 1)))) (aa (aG 6) (aa (aA bF (aA dC (ak 4) (fC (.int 48))) (fC (.int 2))) aB))))))
 (aJ (gIf (aR gGe (ak 7) (fC (.int 8))) (bD (bA (aa (fC (.str "end")) (aa (fFn φ__law_stake (aa (aG 4) aB)) aB)))) gNx)
 (aJ (iM 1 (fC (.str "room")) (aA dB (aA cg (ak 1) (fC (.str "room"))) (ak 6)))
 (aJ (aX 8 (aA cg (ak 1) (fC (.str "pool"))))
 (aJ (aX 9 (aA gIx (ak 8) (aA bF (aA bY (ak 7) (aA cg (ak 1) (fC (.str "turn")))) (fC (.int 8)))))
 (aJ (eX 10 (d8 aB))
 (aJ l_2
 (bD (bA (aa (fC (.str "move")) (aa (aG 5) (aa (aG 9) (aa (aU fH (aa (ak 10) aB)) aB)))))))))))))))
def lA (Φb:List D->D->Addr×D->Addr×D->Res (D×D×D×D)):List D->D->Addr×D->Addr×D->Res (D×D×D×D):=runST 1 16 5 ((jl cz cT (km Φb)))
noncomputable def jt (Φ:List D->D->Addr×D->Addr×D->Res (D×D×D×D)):Zab:=
 (pG 8 (Cr (qT (fX (aG 9)) (qT (uA Φ 1 1 10 11 (aa (aG 0) (aa (aA dB (ak 2) (fC (.int 1))) (aa (aG 3) aB)))) Dh))))
def fM (Φ:List D->D->Addr×D->Addr×D->Res (D×D×D×D)):Zab:=
 (gZ (jH (fFn lu (aa (aG 5) (aa (aG 7) aB)))) (hName 9) (jt Φ))
def dN (φ__law_stake:Zac)(φ__law_mix:Zac)(φ__law_built:List D->D->Addr×D->Addr×D->Res (D×D×D×D))(l_2:Zab):Zab:=
 (aJ (aX 4 (aA cg (ak 1) (fC (.str "at"))))
 (aJ (iM 1 (fC (.str "at")) (aA bY (ak 4) (fC (.int 1))))
 (aJ (gIf (aR gGe (ak 4) (aU dW (aa (ak 0) aB))) (bD (bA (aa (fC (.str "end")) (aa (fFn φ__law_stake (aa (fFn φ__law_mix (aa (aA bY (aA gIx (ak 0) (fUn uO (fC (.int 1)))) (aA f9 (ak 4) (ak 4))) (aa (aG 4) aB))) aB)) aB)))) gNx)
 (aJ (aX 5 (fFn φ__law_mix (aa (aA gIx (ak 0) (ak 4)) (aa (aG 4) aB))))
 (aJ (aX 6 (aG 5))
 (aJ (gIf (fTv (aA cg (ak 1) (fC (.str "level")))) (aX 6 (aA bY (aA dB (ak 5) (aA bF (ak 5) (fC (.int 48)))) (aA bF (fFn φ__law_mix (aa (aA gIx (ak 0) (aA bF (ak 2) (aU dW (aa (ak 0) aB)))) (aa (aG 2) aB))) (fC (.int 48))))) gNx)
 (aJ (gIf (rM (aR gEq (ak 2) (fC (.int 0))) (rM (aR gLt (aA cg (ak 1) (fC (.str "room"))) (fC (.int 3))) (qJ (aR gEq (aA bF (ak 6) (fC (.int 8))) (fC (.int 0))) (aR gGt (ak 4) (fC (.int 0)))))) (bD (bA (aa (fC (.str "end")) (aa (fFn φ__law_stake (aa (aG 5) aB)) aB)))) gNx)
 (aJ (gIf (aR gGt (aA bF (ak 6) (fC (.int 8))) (fC (.int 2))) (uh (uA (lA φ__law_built) 1 1 10 11 (aa (aG 0) (aa (aG 2) (aa (aG 3) (aa (aG 6) aB)))))) gNx)
 (aJ (aX 7 (aA bY (fC (.int 1)) (aA bF (aA dC (ak 6) (fC (.int 16))) (fC (.int 3)))))
 (aJ (iM 1 (fC (.str "room")) (aA dB (aA cg (ak 1) (fC (.str "room"))) (ak 7)))
 (aJ (eX 8 (d8 aB))
 (aJ l_2
 (bD (bA (aa (fC (.str "deal")) (aa (aA gIx (aA cg (ak 1) (fC (.str "pool"))) (aA bF (aA dC (ak 5) (fC (.int 48))) (fC (.int 8)))) (aa (aU fH (aa (ak 8) aB)) aB)))))))))))))))))
def bf:Nat->List D->D->Addr×D->Addr×D->Res (D×D×D×D)
 |0=>λ_ _ _ _=>.stuck
 |n+1=>runST 1 12 4
   (dN cz cB (bf n) (fM (bf n)))
def nR (φ__law_built:List D->D->Addr×D->Addr×D->Res (D×D×D×D)):Zab:=
 (Yg 5 6 7 [((fC (.str "at")),(fC (.int 0))),((fC (.str "room")),(aG 3))] (fC (.str "names")) CQ (fC (.str "many")) (d8 (aa (fC (.int 0)) (aa (fC (.int 0)) aB))) [((fC (.str "pool")),(aG 4))]
 (aJ (iM 5 (fC (.str "turn")) (aA bF (ak 1) (fC (.int 64))))
 (aJ (iM 5 (fC (.str "level")) (mK gEq (aA bF (aA dC (ak 1) (fC (.int 64))) (fC (.int 2))) (fC (.int 1))))
 (uh (uA φ__law_built 5 1 6 7 (aa (aG 0) (aa (aG 2) (aa (d8 (aa (bA aB) (aa (bA aB) aB))) aB))))))))
def xQ:Zab:=
 (nR (bf 13))
def qO:Zac:=bj 8 5 xQ
noncomputable def lY:Zae:=
 (bA (aa (aG 1) (aa (aG 2) aB)))
noncomputable def lO:Zae:=
 (du 2 [5] (uE (aA gIx (ak 4) (fC (.int 2)))) (ig 2 (bu (hName 0) (bu (hName 1) ik))) gQ lY)
noncomputable def gC:Zab:=
 (aJ (eX 9 (aU rB (aa (ak 5) aB)))
 (aJ (lU 9 (aA dB (aA gIx (ak 4) (fC (.int 1))) (fC (.int 1))) (aA bY (aA gIx (ak 9) (aA dB (aA gIx (ak 4) (fC (.int 1))) (fC (.int 1)))) (bA (aa (bA (aa (aA gIx (ak 4) (fC (.int 2))) (aa (aG 7) aB))) aB))))
 (cR 6 (bA (aa (aG 8) (aa (aU fH (aa (ak 9) aB)) aB))))))
noncomputable def lX:Zab:=
 (gZ (uE (aA gIx (ak 4) (fC (.int 3)))) (ig 2 (bu (hName 7) (bu (hName 8) ik))) gC)
noncomputable def je:Zab:=
 (cR 2 (bA (aa (aA bY (ak 3) (bA (aa (aG 10) aB))) (aa (aA gIx (aA gIx (ak 6) (ak 10)) (fC (.int 0))) (aa (aA gIx (aA gIx (ak 6) (ak 10)) (fC (.int 1))) aB)))))
noncomputable def lH:Zab:=
 (gZ (Xy (aa (aA dB (aU dW (aa (ak 6) aB)) (fC (.int 1))) (aa (fUn uO (fC (.int 1))) (aa (fUn uO (fC (.int 1))) aB)))) (hName 10) je)
noncomputable def jb:Zaf:=
 (aR gGt (aU dW (aa (ak 2) aB)) (fC (.int 0)))
noncomputable def eY:Zab:=
 (aJ (Ip (Hc 2) (ig 3 (bu (hName 3) (bu (hName 4) (bu (hName 5) ik)))))
 (aJ (cR 1 (bA (aa (aG 3) (aa (aG 4) (aa (aG 5) aB)))))
 (aJ (eX 6 (d8 aB))
 (aJ (gIf (aR gEq (aA gIx (ak 4) (fC (.int 0))) (fC (.str "deal"))) (eX 6 lO) gNx)
 (aJ (gIf (aR gEq (aA gIx (ak 4) (fC (.int 0))) (fC (.str "move"))) lX gNx)
 lH)))))
def yt:Zab:=
 (m5 jb eY)
noncomputable def kW (l_9:Zab):Zab:=
 (aJ (eX 1 (d8 aB))
 (aJ (eX 2 (d8 (aa (bA (aa (bA aB) (aa (aG 0) (aa (bA (aa (bA aB) (aa (bA aB) aB))) aB)))) aB)))
 (aJ l_9
 (nP 1))))
def sY:Zab:=
 (kW yt)
def kh:Zac:=bj 11 1 sY
noncomputable def nG:Zae:=
 (du 2 [] (uE (aA gIx (ak 4) (fC (.int 3)))) (ig 2 (bu (hName 0) (bu (hName 1) ik))) gQ (aG 0))
noncomputable def dq:Zab:=
 (gIf (qJ (aR gEq (aA gIx (ak 4) (fC (.int 0))) (fC (.str "move"))) (aR vh (bA (aa (aA gIx (ak 4) (fC (.int 1))) (aa (aA gIx (ak 4) (fC (.int 2))) aB))) (ak 2))) (aJ (Du 2 (bA (aa (aA gIx (ak 4) (fC (.int 1))) (aa (aA gIx (ak 4) (fC (.int 2))) aB))) (fC (.bl true)))
 (aJ (aX 6 (aU fH (aa nG aB)))
 (cR 1 (bA (aa (aA gIx (ak 4) (fC (.int 1))) (aa (aA gIx (ak 4) (fC (.int 2))) (aa (aG 6) (aa (aA gIx (ak 5) (aA dB (aA gIx (ak 4) (fC (.int 1))) (fC (.int 1)))) aB)))))))) gNx)
def nu:Zab:=
 (gZ (jH (fFn kh (aa (aG 0) aB))) (ig 3 (bu (hName 3) (bu (hName 4) (bu (hName 5) ik)))) dq)
noncomputable def qi (l_3:Zab):Zab:=
 (aJ (eX 1 (d8 aB))
 (aJ (eX 2 CQ)
 (aJ l_3
 (nP 1))))
def pR:Zab:=
 (qi nu)
def mG:Zac:=bj 7 1 pR
end
theorem itD {f:Zad}{m:Me}{i j:Int}(h:f m=.ok [.int i,.int j,.int (-1)])(h1:-1000000000<=i)(h2:i<=1000000000)(h3:-1000000000<=j)(h4:j<=1000000000):Xy f m=.ok ((List.range (i-j).toNat).map λ(k:Nat)=>D.int (i-k)):=by
 unfold Xy
 rw [h]
 show (if -1000000000<=i/\i<=1000000000/\-1000000000<=j/\j<=1000000000 then _ else _)=_
 rw [if_pos ⟨h1,h2,h3,h4⟩]
noncomputable def ptW (f:D->Rc):Ws->List (Gm×Rc)
 | .nil=>[]
 | .cons l g r=>(g,f l)::ptW f r
noncomputable def ptG (g:Gm)(r:Rc):List (Gm×Rc):=ptW (rbg g r) (wZ g)
noncomputable def iB (p:Gm×Rc):D:=.tup [dG p.1,rD2 p.2]
noncomputable def ch (w:List Int)(L:List (Gm×Rc))(i:Nat):List (List Int×Gm×Rc):=(L.zipIdx i).map λp=>(w++[(p.2:Int)],p.1.1,p.1.2)
theorem Kv (w:List Int)(f:D->Rc):∀(i:Nat) (ws:Ws),prW w f i ws=(ch w (ptW f ws) i).flatMap λp=>prG p.1 p.2.2 p.2.1
 |i,.nil=>rfl
 |i,.cons l g r=>by
  show prG (w++[(i:Int)]) (f l) g++prW w f (i+1) r=_
  rw [Kv w f (i+1) r]
  rfl
theorem Zb (w:List Int)(r:Rc)(g:Gm):prG w r g=(w,g,r)::(ch w (ptG g r) 0).flatMap λp=>prG p.1 p.2.2 p.2.1:=by
 cases g with
 |fin d=>rfl
 |deal n ws=>show (w,Gm.deal n ws,r)::prW w (λ_=>r) 0 ws=_;rw [Kv];rfl
 |move s n ws=>show (w,Gm.move s n ws,r)::prW w (rbm s n r) 0 ws=_;rw [Kv];rfl
theorem LK (f:D->Rc):∀ws:Ws,(ptW f ws).length=fK ws
 | .nil=>rfl
 | .cons l g r=>by show (ptW f r).length+1=_;rw [LK f r];rfl
theorem Ek (f:D->Rc):∀ws:Ws,(ptW f ws).map (·.1)=iT ws
 | .nil=>rfl
 | .cons l g r=>by show g::(ptW f r).map (·.1)=_;rw [Ek f r];rfl
theorem zY {n:Str}{r:Rc}:∀ws:Ws,dJ (ig 2 (bu (hName 0) (bu (hName 1) ik))) gQ lY [.un,.un,.fz (rD2 r)] (dWs ws)=.ok ((ptW (λ_=>r) ws).map iB)
 | .nil=>rfl
 | .cons l g rr=>by
  have ih:=zY (n:=n) (r:=r) rr
  have e:lY [.fz l,.fz (dG g),.fz (rD2 r)]=.ok (iB (g,r)):=rfl
  unfold dWs dJ
  simp [ig,bu,hName,ik,gQ,e,ih,ptW]
theorem zq {g0 s1 s2 s3 s10:Sl}{s:Int}{n:Str}{W:D}{r:Rc}(hs:s=1\/s=2)(hr:r.1.length<=1000/\r.2.length<=1000):∀(ws:Ws) (P:List D) (s7 s8 s9:Sl),P.length+fK ws<=1000->
  ∃s7' s8' s9',bJ (ig 2 (bu (hName 7) (bu (hName 8) ik))) gC (dWs ws) [g0,s1,s2,s3,.fz (.tup [.str "move",.int s,.str n,W]),.fz (rD2 r),.ow (.lst P),s7,s8,s9,s10]=.ok (.nx,[g0,s1,s2,s3,.fz (.tup [.str "move",.int s,.str n,W]),.fz (rD2 r),.ow (.lst (P++(ptW (rbm s n r) ws).map iB)),s7',s8',s9',s10])
 | .nil,P,s7,s8,s9,_=>⟨s7,s8,s9,by simp [dWs,bJ,ptW]⟩
 | .cons l g rr,P,s7,s8,s9,hz=>by
  have hz':P.length+(fK rr+1)<=1000:=hz
  obtain ⟨a,b,c,e⟩:=zq (g0:=g0) (s1:=s1) (s2:=s2) (s3:=s3) (s10:=s10) (s:=s) (n:=n) (W:=W) (r:=r) hs hr rr (P++[iB (g,rbm s n r l)]) (.fz l) (.fz (dG g)) (.ow (.lst [.tup (rbm s n r l).1,.tup (rbm s n r l).2])) (by rw [List.length_append,List.length_singleton];omega)
  refine ⟨a,b,c,?_⟩
  have x41:∀a b c d:D,atI [a,b,c,d] 1=some b:=λ_ _ _ _=>rfl
  have x42:∀a b c d:D,atI [a,b,c,d] 2=some c:=λ_ _ _ _=>rfl
  have x20:∀a b:D,atI [a,b] 0=some a:=λ_ _=>rfl
  have x21:∀a b:D,atI [a,b] 1=some b:=λ_ _=>rfl
  have n0:ixN 2 0=some 0:=rfl
  have n1:ixN 2 1=some 1:=rfl
  have z1:r.1.length+1<=16777216:=by omega
  have z2:r.2.length+1<=16777216:=by omega
  have z3:P.length<16777216:=by omega
  have st:gC [g0,s1,s2,s3,.fz (.tup [.str "move",.int s,.str n,W]),.fz (rD2 r),.ow (.lst P),.fz l,.fz (dG g),s9,s10]=.ok (.nx,[g0,s1,s2,s3,.fz (.tup [.str "move",.int s,.str n,W]),.fz (rD2 r),.ow (.lst (P++[iB (g,rbm s n r l)])),.fz l,.fz (dG g),.ow (.lst [.tup (rbm s n r l).1,.tup (rbm s n r l).2]),s10]):=by
   rcases hs with rfl | rfl
   ·simp [gC,aJ,eX,aU,rB,aa,aB,ak,rD2,lU,aA,gIx,x41,x42,fC,F.dB,x20,x21,jL,putL,bA,aG,bY,z1,n0,cR,fH,z3,iB,rbm]
   ·simp [gC,aJ,eX,aU,rB,aa,aB,ak,rD2,lU,aA,gIx,x41,x42,fC,F.dB,x20,x21,jL,putL,bA,aG,bY,z2,n1,cR,fH,z3,iB,rbm]
  show bJ _ _ (.tup [l,dG g]::dWs rr) _=_
  rw [cM (m1:=[g0,s1,s2,s3,.fz (.tup [.str "move",.int s,.str n,W]),.fz (rD2 r),.ow (.lst P),.fz l,.fz (dG g),s9,s10]) rfl st,e]
  rw [List.append_assoc]
  rfl
theorem Ai {g0 s1 s4 s5 s7 s8 s9:Sl}{w:List Int}{L:List (Gm×Rc)}(hw:w.length<=1000):∀(c:Nat) (S:List D) (s10:Sl),c<=L.length->S.length+c<=100000->
  ∃s10',bJ (hName 10) je ((List.range c).map λ(k:Nat)=>D.int ((c:Int) - 1-k)) [g0,s1,.ow (.lst S),.fz (.tup (w.map D.int)),s4,s5,.ow (.lst (L.map iB)),s7,s8,s9,s10]=.ok (.nx,[g0,s1,.ow (.lst (S++(((ch w L 0).take c).map trD).reverse)),.fz (.tup (w.map D.int)),s4,s5,.ow (.lst (L.map iB)),s7,s8,s9,s10'])
 |0,S,s10,_,_=>⟨s10,by simp [bJ]⟩
 |c+1,S,s10,hc,hz=>by
  have hi:c<L.length:=by omega
  obtain ⟨a,e⟩:=Ai (g0:=g0) (s1:=s1) (s4:=s4) (s5:=s5) (s7:=s7) (s8:=s8) (s9:=s9) (L:=L) hw c (S++[trD (w++[(c:Int)],L[c].1,L[c].2)]) (.fz (.int (c:Int))) (by omega) (by rw [List.length_append,List.length_singleton];omega)
  refine ⟨a,?_⟩
  have el:(L.map iB)[c]? = some (iB L[c]):=by rw [List.getElem?_map,List.getElem?_eq_getElem hi];rfl
  have ea:=kj el
  have x20:∀a b:D,atI [a,b] 0=some a:=λ_ _=>rfl
  have x21:∀a b:D,atI [a,b] 1=some b:=λ_ _=>rfl
  have z1:w.length+1<=16777216:=by omega
  have z2:S.length<16777216:=by omega
  have st:je [g0,s1,.ow (.lst S),.fz (.tup (w.map D.int)),s4,s5,.ow (.lst (L.map iB)),s7,s8,s9,.fz (.int (c:Int))]=.ok (.nx,[g0,s1,.ow (.lst (S++[trD (w++[(c:Int)],L[c].1,L[c].2)])),.fz (.tup (w.map D.int)),s4,s5,.ow (.lst (L.map iB)),s7,s8,s9,.fz (.int (c:Int))]):=by
   simp [je,cR,jL,putL,bA,aa,aB,aA,ak,aG,bY,z1,gIx,ea,iB,x20,x21,fC,z2,trD]
  have er:(List.range (c+1)).map (λ(k:Nat)=>D.int (((c+1:Nat):Int) - 1-k))=D.int (c:Int)::(List.range c).map λ(k:Nat)=>D.int ((c:Int) - 1-k):=by
   rw [List.range_succ_eq_map,List.map_cons,List.map_map]
   congr 1
   ·congr 1;omega
   ·refine List.map_congr_left λk _=>?_
    show D.int _=D.int _
    congr 1
    simp only [Nat.succ_eq_add_one]
    omega
  rw [er,cM (m1:=[g0,s1,.ow (.lst S),.fz (.tup (w.map D.int)),s4,s5,.ow (.lst (L.map iB)),s7,s8,s9,.fz (.int (c:Int))]) rfl st,e]
  have et:(ch w L 0).take (c+1)=(ch w L 0).take c++[(w++[(c:Int)],L[c].1,L[c].2)]:=by
   have hl:c<(ch w L 0).length:=by unfold ch;simp;exact hi
   rw [List.take_succ_eq_append_getElem hl]
   congr 1
   simp [ch]
  rw [et,List.map_append,List.reverse_append]
  simp
theorem Wq {g0 s3 s4 s5 s6 s7 s8 s9 s10:Sl}{F0 S:List D}{w:List Int}{g:Gm}{r:Rc}(h:iw g)(hs:∀s n ws,g=.move s n ws->s=1\/s=2)(hr:r.1.length<=1000/\r.2.length<=1000)(hw:w.length<=1000)(hf:F0.length<=100000)(hS:S.length<=90000):
  ∃t3 t4 t5 t6 t7 t8 t9 t10,eY [g0,.ow (.lst F0),.ow (.lst (S++[trD (w,g,r)])),s3,s4,s5,s6,s7,s8,s9,s10]=.ok (.nx,[g0,.ow (.lst (F0++[trD (w,g,r)])),.ow (.lst (S++((ch w (ptG g r) 0).map trD).reverse)),t3,t4,t5,t6,t7,t8,t9,t10]):=by
 have x20:∀a b:D,atI [a,b] 0=some a:=λ_ _=>rfl
 have x30:∀a b c:D,atI [a,b,c] 0=some a:=λ_ _ _=>rfl
 have x32:∀a b c:D,atI [a,b,c] 2=some c:=λ_ _ _=>rfl
 have x40:∀a b c d:D,atI [a,b,c,d] 0=some a:=λ_ _ _ _=>rfl
 have x43:∀a b c d:D,atI [a,b,c,d] 3=some d:=λ_ _ _ _=>rfl
 have z1:F0.length<16777216:=by omega
 have main:∀(P:List (Gm×Rc)) (u7 u8 u9:Sl),P=ptG g r->P.length<=100->∃t10,lH [g0,.ow (.lst (F0++[trD (w,g,r)])),.ow (.lst S),.fz (.tup (w.map D.int)),.fz (dG g),.fz (rD2 r),.ow (.lst (P.map iB)),u7,u8,u9,s10] =
   .ok (.nx,[g0,.ow (.lst (F0++[trD (w,g,r)])),.ow (.lst (S++((ch w (ptG g r) 0).map trD).reverse)),.fz (.tup (w.map D.int)),.fz (dG g),.fz (rD2 r),.ow (.lst (P.map iB)),u7,u8,u9,t10]):=λP u7 u8 u9 hP hl=>by
  obtain ⟨t10,e⟩:=Ai (g0:=g0) (s1:=.ow (.lst (F0++[trD (w,g,r)]))) (s4:=.fz (dG g)) (s5:=.fz (rD2 r)) (s7:=u7) (s8:=u8) (s9:=u9) (w:=w) (L:=P) hw P.length S s10 (Nat.le_refl _) (by omega)
  refine ⟨t10,?_⟩
  have e1:(aa (aA dB (aU dW (aa (ak 6) aB)) (fC (.int 1))) (aa (fUn uO (fC (.int 1))) (aa (fUn uO (fC (.int 1))) aB))) [g0,.ow (.lst (F0++[trD (w,g,r)])),.ow (.lst S),.fz (.tup (w.map D.int)),.fz (dG g),.fz (rD2 r),.ow (.lst (P.map iB)),u7,u8,u9,s10]=.ok [.int ((P.length:Int) - 1),.int (-1),.int (-1)]:=by
   simp [aa,aB,aA,aU,dW,ak,fC,F.dB,fUn,uO]
  have e2:=itD e1 (by omega) (by omega) (by omega) (by omega)
  unfold lH gZ
  rw [e2]
  have e3:((P.length:Int) - 1 - -1).toNat=P.length:=by omega
  rw [e3]
  have e4:(ch w P 0).take P.length=ch w P 0:=List.take_of_length_le (by unfold ch;simp)
  rw [e4,hP] at e
  rw [hP]
  exact e
 have hlp:(ptG g r).length<=100:=by
  unfold ptG
  rw [LK,← gF,← yW]
  exact vR h
 cases g with
 |fin d=>
  obtain ⟨t10,e⟩:=main [] s7 s8 s9 rfl (by simp)
  refine ⟨.fz (.tup (w.map D.int)),.fz (dG (.fin d)),.fz (rD2 r),.ow (.lst []),s7,s8,s9,t10,?_⟩
  simp only [trD,dG,List.map_nil] at e ⊢
  simp [eY,aJ,Ip,Hc,jL,putL,ig,bu,hName,ik,cR,bA,aa,aB,aG,z1,eX,d8,gIf,aR,aA,ak,fC,gIx,x20,gNx,e]
 |deal n ws=>
  obtain ⟨t10,e⟩:=main (ptW (λ_=>r) ws) s7 s8 s9 rfl hlp
  have ec:=zY (n:=n) (r:=r) ws
  have hz2:(dWs ws).length<=16777216:=by rw [mL];have:=h.1;omega
  have eq:∀a b c,lO [g0,a,b,c,.fz (dG (.deal n ws)),.fz (rD2 r),.ow (.lst []),s7,s8,s9,s10]=.ok (.lst ((ptW (λ_=>r) ws).map iB)):=λa b c=>by
   simp [lO,du,uE,aA,ak,fC,gIx,dG,x32,cMe,Sl.bor,ec,hz2]
  refine ⟨.fz (.tup (w.map D.int)),.fz (dG (.deal n ws)),.fz (rD2 r),.ow (.lst ((ptW (λ_=>r) ws).map iB)),s7,s8,s9,t10,?_⟩
  simp only [trD,dG] at e eq ⊢
  simp [eY,aJ,Ip,Hc,jL,putL,ig,bu,hName,ik,cR,bA,aa,aB,aG,z1,eX,d8,gIf,aR,aA,ak,fC,gIx,x30,gNx,eq,e]
 |move s n ws=>
  obtain ⟨u7,u8,u9,em⟩:=zq (g0:=g0) (s1:=.ow (.lst (F0++[trD (w,.move s n ws,r)]))) (s2:=.ow (.lst S)) (s3:=.fz (.tup (w.map D.int))) (s10:=s10) (n:=n) (W:=.tup (dWs ws)) (hs s n ws rfl) hr ws [] s7 s8 s9 (by have:=h.1;simp;omega)
  obtain ⟨t10,e⟩:=main (ptW (rbm s n r) ws) u7 u8 u9 rfl hlp
  have hz2:(dWs ws).length<=16777216:=by rw [mL];have:=h.1;omega
  have eL:lX [g0,.ow (.lst (F0++[trD (w,.move s n ws,r)])),.ow (.lst S),.fz (.tup (w.map D.int)),.fz (dG (.move s n ws)),.fz (rD2 r),.ow (.lst []),s7,s8,s9,s10]=.ok (.nx,[g0,.ow (.lst (F0++[trD (w,.move s n ws,r)])),.ow (.lst S),.fz (.tup (w.map D.int)),.fz (dG (.move s n ws)),.fz (rD2 r),.ow (.lst ((ptW (rbm s n r) ws).map iB)),u7,u8,u9,s10]):=by
   have ei:uE (aA gIx (ak 4) (fC (.int 3))) [g0,.ow (.lst (F0++[trD (w,.move s n ws,r)])),.ow (.lst S),.fz (.tup (w.map D.int)),.fz (dG (.move s n ws)),.fz (rD2 r),.ow (.lst []),s7,s8,s9,s10]=.ok (dWs ws):=by
    simp [uE,aA,ak,fC,gIx,dG,x43]
   unfold lX gZ
   rw [ei]
   rw [List.nil_append] at em
   exact em
  refine ⟨.fz (.tup (w.map D.int)),.fz (dG (.move s n ws)),.fz (rD2 r),.ow (.lst ((ptW (rbm s n r) ws).map iB)),u7,u8,u9,t10,?_⟩
  simp only [trD,dG] at e eL ⊢
  simp [eY,aJ,Ip,Hc,jL,putL,ig,bu,hName,ik,cR,bA,aa,aB,aG,z1,eX,d8,gIf,aR,aA,ak,fC,gIx,x40,gNx,eL,e]
abbrev Tr:=List Int×Gm×Rc
noncomputable def szT (st:List Tr):Nat:=(st.map λp=>szG p.2.1).sum
theorem aaD (w:List Int)(g:Gm)(r:Rc):szT (ch w (ptG g r) 0)+1=szG g:=by
 have e:∀(i:Nat) (L:List (Gm×Rc)),(ch w L i).map (λp=>szG p.2.1)=L.map λp=>szG p.1:=by
  intro i L
  induction L generalizing i with
  |nil=>rfl
  |cons x L ih=>
   show szG x.1::((ch w L (i+1)).map λp=>szG p.2.1)=_
   rw [ih];rfl
 unfold szT
 rw [e,Us,yW,← Ek (rbg g r),List.map_map]
 rfl
theorem Nh:∀st:List Tr,st.length<=szT st
 |[]=>Nat.zero_le _
 |p::st=>by
  have:=Nh st
  have:=sG p.2.1
  show st.length+1<=szG p.2.1+szT st
  omega
theorem K4 (a b:List Tr):szT (a++b)=szT a+szT b:=by unfold szT;rw [List.map_append,List.sum_append]
def wt (p:Tr):Prop:=iw p.2.1/\sdG p.2.1/\p.1.length+dp p.2.1<=100/\p.2.2.1.length+dp p.2.1<=100/\p.2.2.2.length+dp p.2.1<=100
theorem Al:∀{ws:Ws} {k:Gm},sdW ws->k∈iT ws->sdG k
 | .cons l g r,k,h,hk=>by
  rcases List.mem_cons.mp hk with e | e
  ·rw [e];exact h.1
  ·exact Al h.2 e
theorem XR {g k:Gm}(h:sdG g)(hk:k∈kids g):sdG k:=by
 cases g with
 |fin d=>cases hk
 |deal n ws=>exact Al h hk
 |move s n ws=>exact Al h.2 hk
theorem Ml (f:D->Rc):∀{ws:Ws} {p:Gm×Rc},p∈ptW f ws->∃l,p.2=f l
 | .cons l g r,p,h=>by
  rcases List.mem_cons.mp h with e | e
  ·exact ⟨l,by rw [e]⟩
  ·exact Ml f e
theorem Va (g:Gm)(r:Rc)(l:D):(rbg g r l).1.length<=r.1.length+1/\(rbg g r l).2.length<=r.2.length+1:=by
 cases g with
 |fin d=>exact ⟨by simp [rbg],by simp [rbg]⟩
 |deal n ws=>exact ⟨by simp [rbg],by simp [rbg]⟩
 |move s n ws=>by_cases hs:s=1<;>simp [rbg,rbm,hs]
theorem ab1 {w:List Int}{g:Gm}{r:Rc}(h:wt (w,g,r)):∀p∈ch w (ptG g r) 0,wt p:=λp hp=>by
 unfold ch at hp
 obtain ⟨q,hq,rfl⟩:=List.mem_map.mp hp
 have h1:q.1∈ptG g r:=by have:=List.mem_map_of_mem (f:=Prod.fst) hq;rwa [List.zipIdx_map_fst] at this
 have h2:q.1.1∈kids g:=by
  rw [yW,← Ek (rbg g r)]
  exact List.mem_map_of_mem h1
 obtain ⟨l,el⟩:=Ml _ h1
 have hd:=Ob h2
 obtain ⟨a,b,c,d,e⟩:=h
 have rl:=Va g r l
 simp only at a b c d e
 refine ⟨(Dt a h2).1,XR b h2,?_,?_,?_⟩
 ·show (w++[_]).length+dp q.1.1<=100
  rw [List.length_append,List.length_singleton]
  omega
 ·show q.1.2.1.length+dp q.1.1<=100
  rw [el]
  omega
 ·show q.1.2.2.length+dp q.1.1<=100
  rw [el]
  omega
theorem Vz (a:Sl):∀(N:Nat) (done st:List Tr) (s3 s4 s5 s6 s7 s8 s9 s10:Sl),szT st=N->(∀p∈st,wt p)->done.length+szT st<=50000->
  ∃k m',wh jb eY k [a,.ow (.lst (done.map trD)),.ow (.lst ((st.map trD).reverse)),s3,s4,s5,s6,s7,s8,s9,s10]=some (.ok (.nx,a::.ow (.lst ((done++st.flatMap λp=>prG p.1 p.2.2 p.2.1).map trD))::m')):=by
 intro N
 induction N using Nat.strongRecOn with
 |_ N ih=>
  intro done st s3 s4 s5 s6 s7 s8 s9 s10 hN hs hz
  cases st with
  |nil=>
   refine ⟨1,[.ow (.lst []),s3,s4,s5,s6,s7,s8,s9,s10],?_⟩
   simp only [List.map_nil,List.reverse_nil,List.flatMap_nil,List.append_nil]
   exact yJ (by simp [jb,aR,aU,dW,aa,aB,ak,fC,gGt])
  |cons p st=>
   obtain ⟨w,g,r⟩:=p
   have h1:wt (w,g,r):=hs _ (by simp)
   have sb:=aaD w g r
   have hsum:szT ((w,g,r)::st)=szG g+szT st:=rfl
   have ls:=Nh st
   have gp:=sG g
   obtain ⟨wa,wb,wc,wd,we⟩:=h1
   simp only at wa wb wc wd we
   obtain ⟨t3,t4,t5,t6,t7,t8,t9,t10,e1⟩:=Wq (g0:=a) (s3:=s3) (s4:=s4) (s5:=s5) (s6:=s6) (s7:=s7) (s8:=s8) (s9:=s9) (s10:=s10) (F0:=done.map trD) (S:=(st.map trD).reverse) (w:=w) (g:=g) (r:=r) wa (λs n ws e=>by rw [e] at wb;exact wb.1) ⟨by omega,by omega⟩ (by omega) (by simp;omega) (by simp;omega)
   obtain ⟨k,m',e⟩:=ih (szT (ch w (ptG g r) 0++st)) (by rw [K4];omega) (done++[(w,g,r)]) (ch w (ptG g r) 0++st) t3 t4 t5 t6 t7 t8 t9 t10 rfl (λp hp=>by
    rcases List.mem_append.mp hp with v | v
    ·exact ab1 ⟨wa,wb,wc,wd,we⟩ p v
    ·exact hs p (by simp [v])) (by rw [K4,List.length_append];simp;omega)
   refine ⟨k+1,m',?_⟩
   have e3:done++((w,g,r)::st).flatMap (λp=>prG p.1 p.2.2 p.2.1)=done++[(w,g,r)]++(ch w (ptG g r) 0++st).flatMap λp=>prG p.1 p.2.2 p.2.1:=by
    rw [List.flatMap_cons,List.flatMap_append,Zb]
    simp
   rw [e3]
   refine yK (m':=[a,.ow (.lst ((done++[(w,g,r)]).map trD)),.ow (.lst (((ch w (ptG g r) 0++st).map trD).reverse)),t3,t4,t5,t6,t7,t8,t9,t10]) ?_ ?_ e
   ·simp [jb,aR,aU,dW,aa,aB,ak,fC,gGt]
   ·rw [List.map_cons,List.reverse_cons,e1,List.map_append,List.map_append,List.reverse_append]
    rfl
theorem Hr {L:Zab}{d:D}{ps:List D}{m':Me}(e:L [.fz d,.ow (.lst []),.ow (.lst [.tup [.tup [],d,.tup [.tup [],.tup []]]]),.un,.un,.un,.un,.un,.un,.un,.un]=.ok (.nx,.fz d::.ow (.lst ps)::m')):bj 11 1 (kW L) [d]=.ok (true,.lst ps):=by
 simp [bj,kW,aJ,eX,d8,aa,aB,bA,aG,e,nP]
theorem JP {g:Gm}(h:iw g)(hs:sdG g)(hd:dp g<=50)(hz:szG g<=10000):kh [dG g]=.ok (true,.lst ((prG [] ([],[]) g).map trD)):=by
 obtain ⟨k,m',e⟩:=Vz (.fz (dG g)) _ [] [([],g,([],[]))] .un .un .un .un .un .un .un .un rfl (λp hp=>by rw [List.mem_singleton.mp hp];exact ⟨h,hs,by simp;omega,by simp;omega,by simp;omega⟩) (by show 0+(szG g+0)<=_;omega)
 have e2:=rZ k e
 simp only [List.nil_append,List.flatMap_cons,List.flatMap_nil,List.append_nil] at e2
 exact Hr e2
noncomputable def tru (ks:List (List Kt)):List D:=ks.map λ_=>.bl true
theorem Lz {k:List Kt}:∀{ks:List (List Kt)} {ds:List D},ks.length=ds.length->(cF ks (tru ks) k).isSome=(cF ks ds k).isSome
 |[],[],_=>rfl
 |[],_::_,h=>by simp at h
 |_::_,[],h=>by simp at h
 |a::ks,d::ds,h=>by
  show (cF (a::ks) (.bl true::tru ks) k).isSome=_
  unfold cF
  split
  ·rfl
  ·exact Lz (by simpa using h)
theorem Xe {k:List Kt}{ks:List (List Kt)}(h:(cF ks (tru ks) k).isSome=false):jk ks (tru ks) k (.bl true)=(ks++[k],tru (ks++[k])):=by
 have hn:k∉ks:=λhk=>by
  have:∀{ks:List (List Kt)},k∈ks->(cF ks (tru ks) k).isSome=true:=by
   intro ks
   induction ks with
   |nil=>intro h;cases h
   |cons a ks ih=>
    intro h
    show (cF (a::ks) (.bl true::tru ks) k).isSome=true
    unfold cF
    split
    ·rfl
    ·rename_i q
     rcases List.mem_cons.mp h with e | e
     ·exact absurd e.symm q
     ·exact ih e
  rw [this hk] at h;cases h
 unfold jk
 rw [if_neg λz=>hn (Gw.mp z)]
 simp [tru]
theorem Xh {g0 s3 s4 s5 s6:Sl}{T:Tb}{p:Tr}(hp:okP p)(hl:T.1.length=T.2.length)(hz:T.1.length<=100000):∃m1 s6',ig 3 (bu (hName 3) (bu (hName 4) (bu (hName 5) ik))) (trD p) [g0,.ow (.lst T.2),.ow (.dcu T.1 (tru T.1)),s3,s4,s5,s6]=some m1/\
  dq m1=.ok (.nx,[g0,.ow (.lst (tst T p).2),.ow (.dcu (tst T p).1 (tru (tst T p).1)),.fz (.tup (p.1.map D.int)),.fz (dG p.2.1),.fz (rD2 p.2.2),s6'])/\(tst T p).1.length=(tst T p).2.length:=by
 obtain ⟨w,g,r⟩:=p
 have x20:∀a b:D,atI [a,b] 0=some a:=λ_ _=>rfl
 have x21:∀a b:D,atI [a,b] 1=some b:=λ_ _=>rfl
 have x30:∀a b c:D,atI [a,b,c] 0=some a:=λ_ _ _=>rfl
 have x40:∀a b c d:D,atI [a,b,c,d] 0=some a:=λ_ _ _ _=>rfl
 have x41:∀a b c d:D,atI [a,b,c,d] 1=some b:=λ_ _ _ _=>rfl
 have x42:∀a b c d:D,atI [a,b,c,d] 2=some c:=λ_ _ _ _=>rfl
 have x43:∀a b c d:D,atI [a,b,c,d] 3=some d:=λ_ _ _ _=>rfl
 cases g with
 |fin d=>exact ⟨_,s6,rfl,by simp [dq,gIf,qJ,aR,aA,ak,fC,gIx,dG,x20,gNx,tst],by simpa [tst] using hl⟩
 |deal n ws=>exact ⟨_,s6,rfl,by simp [dq,gIf,qJ,aR,aA,ak,fC,gIx,dG,x30,gNx,tst],by simpa [tst] using hl⟩
 |move s n ws=>
  have hp:(s=1\/s=2)/\fK ws<=100:=hp
  have kk:um (.tup [.int s,.str n])=some (kn s n):=rfl
  have z1:T.1.length<16777216:=by omega
  have z2:T.2.length<16777216:=by omega
  have hz1:(eV ws).length<=16777216:=by rw [lB];omega
  have hz2:(dWs ws).length<=16777216:=by rw [mL];omega
  have vt:=Lz (k:=kn s n) hl
  have eq:∀a b c,nG [g0,a,b,c,.fz (dG (.move s n ws)),.fz (rD2 r),s6]=.ok (.lst (eV ws)):=λa b c=>by
   simp [nG,du,uE,aA,ak,fC,gIx,dG,x43,cMe,wU,hz1,hz2]
  simp only [dG,rD2] at eq
  by_cases q:(cF T.1 T.2 (kn s n)).isSome=true
  ·rw [q] at vt
   refine ⟨_,s6,rfl,?_,by simp [tst,q,hl]⟩
   simp [dq,gIf,qJ,aR,aA,ak,fC,gIx,dG,x40,x41,x42,gNx,tst,q,vh,J0,dcK,bA,aa,aB,kk,vt]
  ·have q':(cF T.1 T.2 (kn s n)).isSome=false:=by simpa using q
   rw [q'] at vt
   have pt:=Xe vt
   refine ⟨_,.fz (.tup (eV ws)),rfl,?_,by simp [tst,q',hl]⟩
   rcases hp.1 with rfl | rfl
   ·simp [dq,gIf,qJ,aR,aA,ak,fC,gIx,dG,x40,x41,x42,aJ,Du,GP,rn,tst,q',vh,J0,dcK,bA,aa,aB,kk,vt,z1,pt,aX,aU,fH,eq,hz1,cR,jL,putL,z2,aG,rD2,F.dB,x20,x21,eU,lW]
   ·simp [dq,gIf,qJ,aR,aA,ak,fC,gIx,dG,x40,x41,x42,aJ,Du,GP,rn,tst,q',vh,J0,dcK,bA,aa,aB,kk,vt,z1,pt,aX,aU,fH,eq,hz1,cR,jL,putL,z2,aG,rD2,F.dB,x20,x21,eU,lW]
theorem MF {g0:Sl}:∀(l:List Tr) (T:Tb) (s3 s4 s5 s6:Sl),(∀p∈l,okP p)->T.1.length=T.2.length->T.1.length+l.length<=100000->∃m',bJ (ig 3 (bu (hName 3) (bu (hName 4) (bu (hName 5) ik)))) dq (l.map trD) [g0,.ow (.lst T.2),.ow (.dcu T.1 (tru T.1)),s3,s4,s5,s6]=.ok (.nx,g0::.ow (.lst (l.foldl tst T).2)::m')
 |[],T,s3,s4,s5,s6,_,_,_=>⟨_,rfl⟩
 |p::l,T,s3,s4,s5,s6,hp,hl,hz=>by
  have hz':T.1.length+(l.length+1)<=100000:=hz
  obtain ⟨m1,s6',e1,e2,e3⟩:=Xh (g0:=g0) (s3:=s3) (s4:=s4) (s5:=s5) (s6:=s6) (T:=T) (hp p List.mem_cons_self) hl (by omega)
  have:=NZ T p
  obtain ⟨m',e⟩:=MF l (tst T p) (.fz (.tup (p.1.map D.int))) (.fz (dG p.2.1)) (.fz (rD2 p.2.2)) s6' (λq hq=>hp q (List.mem_cons_of_mem _ hq)) e3 (by omega)
  exact ⟨m',by rw [List.map_cons,cM e1 e2,e];rfl⟩
theorem O7 {g:Gm}(h:iw g)(hs:sdG g)(hd:dp g<=50)(hz:szG g<=10000):mG [dG g]=.ok (true,.lst (tbl (prG [] ([],[]) g)).2):=by
 have e:=JP h hs hd hz
 obtain ⟨m',e2⟩:=MF (g0:=.fz (dG g)) (prG [] ([],[]) g) ([],[]) .un .un .un .un (Cu _ _ g h hs) rfl (by rw [Eo];simp;omega)
 have eL:nu [.fz (dG g),.ow (.lst []),.ow (.dcu [] []),.un,.un,.un,.un]=.ok (.nx,.fz (dG g)::.ow (.lst (tbl (prG [] ([],[]) g)).2)::m'):=by
  have e1:jH (fFn kh (aa (aG 0) aB)) [.fz (dG g),.ow (.lst []),.ow (.dcu [] []),.un,.un,.un,.un]=.ok ((prG [] ([],[]) g).map trD):=by
   simp [jH,fFn,aa,aB,aG,e]
  unfold nu gZ
  rw [e1]
  exact e2
 simp [mG,pR,qi,bj,aJ,eX,d8,aB,CQ,eL,nP]
def prd (d:D):Prop:=∃a b:Str,d=.tup [.str a,.str b]
theorem V1 (x y:Sl):∀(n:Nat) (a b:Int),b.toNat=n->0<=a->0<=b->∃k,wh lK lR k [x,y,.fz (.int a),.fz (.int b)] =
  some (.ok (.nx,[x,y,.fz (.int (gI a b)),.fz (.int 0)])):=by
 intro n
 induction n using Nat.strongRecOn with
 |_ n ih=>
  intro a b hn ha hb
  by_cases h0:b=0
  ·subst h0
   refine ⟨1,?_⟩
   rw [KH ha]
   exact yJ rfl
  ·have hb':0<b:=by omega
   have hm:=Int.emod_lt_of_pos a hb'
   have hm0:=Int.emod_nonneg a h0
   obtain ⟨k,e⟩:=ih (a % b).toNat (by omega) b (a % b) rfl hb hm0
   rw [Mt ha hb'] at e
   refine ⟨k+1,yK (m':=[x,y,.fz (.int b),.fz (.int (a % b))]) ?_ ?_ e⟩
   ·simp [lK,aR,ak,fC,h0]
   ·simp [lR,aai,aa,aB,aA,ak,aG,bF,mdI,h0,hb']
theorem rE {t b:Int}(hb:0<b)(hB:Bq b):cP [.int t,.int b]=.ok (false,rD (Rat.divInt t b)):=by
 obtain ⟨k,e⟩:=V1 (.fz (.int t)) (.fz (.int b)) _ (if t<0 then -t else t) b rfl (by split<;>omega) (by omega)
 have eb:(if b<0 then -b else b)=b:=if_neg (by omega)
 have ga:=TJ t b
 rw [eb] at ga
 rw [ga] at e
 have e2:=rZ k e
 have hg:=Fz (a:=t) (show b≠0 by omega)
 have hdv:dv t b=gI t b:=if_neg (by omega)
 have hB':Bq (gI t b):=by
  have h1:=Yu (a:=t) (show b≠0 by omega)
  unfold Bq at hB ⊢
  omega
 have e3:dvI t (gI t b)=lt t b:=by
  unfold dvI lt
  rw [if_pos hg,hdv,Int.fdiv_eq_ediv_of_nonneg t (by omega)]
 have e4:dvI b (gI t b)=lb t b:=by
  unfold dvI lb
  rw [if_pos hg,hdv,Int.fdiv_eq_ediv_of_nonneg b (by omega)]
 have el:=Ec (t:=t) (show b≠0 by omega)
 have hr:rD (Rat.divInt t b)=.tup [.int (lt t b),.int (lb t b)]:=by
  show qD (rq (Rat.divInt t b))=_
  rw [← el];rfl
 have hne:gI t b≠0:=by omega
 rw [hr]
 simp [cP,oV,oZ,bj,qM,aJ,aX,aU,PK,aa,aB,ak,aG,e2,bD,Me.let,Sl.let,bA,aA,dC,hne,hB',e3,e4]
theorem wC {t b:Int}(hb:0<b)(h1:t.natAbs<=999999999999)(h2:b<=999):smQ (rq (Rat.divInt t b)):=by
 have e:=Ec (t:=t) (show b≠0 by omega)
 have e1:lt t b=(Rat.divInt t b).num:=congrArg Prod.fst e
 have e2:lb t b=((Rat.divInt t b).den:Int):=congrArg Prod.snd e
 have l1:=X4 (t:=t) (show b≠0 by omega)
 have l2:=Yp (t:=t) (show b≠0 by omega)
 rw [e1] at l1
 rw [e2] at l2
 exact ⟨by show (Rat.divInt t b).num.natAbs<=_;omega,by show ((Rat.divInt t b).den:Int)<=_;omega⟩
theorem bgS {i:Int}(h:i.natAbs<=10000000000000):Bq i:=by
 refine abD (k:=50) ?_
 have:(2:Nat) ^ 50=1125899906842624:=by decide
 omega
def sm (x:Int):Prop:=0<=x/\x<2147483647
theorem zM {x:Int}(h:0<=x/\x<=9000000000):∃q:Rat,cz [.int x]=.ok (false,rD q)/\smQ (rq q):=by
 obtain ⟨h0,h1⟩:=h
 have b1:Bq x:=bgS (by omega)
 have b2:Bq 48271:=bgS (by decide)
 have b3:Bq 8:=bgS (by decide)
 have b4:Bq 104:=bgS (by decide)
 by_cases q:x % 8=3
 ·have hb:0<1+x / 8 % 999:=by omega
  have hb2:1+x / 8 % 999<=999:=by omega
  have e:=rE (t:=x*48271 % 1999999999999 - 999999999999) hb (bgS (by omega))
  refine ⟨_,?_,wC hb (t:=x*48271 % 1999999999999 - 999999999999) (by omega) hb2⟩
  simp [cz,mO,mC,bj,aJ,gIf,aR,aA,ak,fC,bF,mdI,q,bD,Me.let,Sl.let,fFn,aa,aB,f9,b1,b2,F.dB,bY,dC,dvI,b3,e]
 ·have hb:0<1+x / 104 % 3:=by omega
  have hb2:1+x / 104 % 3<=999:=by omega
  have e:=rE (t:=x / 8 % 13 - 6) hb (bgS (by omega))
  refine ⟨_,?_,wC hb (t:=x / 8 % 13 - 6) (by omega) hb2⟩
  simp [cz,mO,mC,bj,aJ,gIf,aR,aA,ak,fC,bF,mdI,q,gNx,bD,Me.let,Sl.let,fFn,aa,aB,F.dB,bY,dC,dvI,b3,b4,e]
theorem xF (c k:Int)(hk:0<=k/\k<=1000):∃x,cB [.int c,.int k]=.ok (false,.int x)/\sm x:=by
 have b1:Bq (c % 2147483647+1):=bgS (by omega)
 have b2:Bq (48271+7*k):=bgS (by omega)
 have b3:Bq 7:=bgS (by decide)
 have b4:Bq k:=bgS (by omega)
 refine ⟨(c % 2147483647+1)*(48271+7*k) % 2147483647,?_,by constructor<;>omega⟩
 simp [cB,uq,ur,bj,bD,Me.let,Sl.let,aA,ak,fC,bF,mdI,f9,bY,b1,b2,b3,b4]
noncomputable def pt (x:Int):Int:=1+x % 4+x / 4 % 8 / 7*(x / 32 % 200)
theorem abx (x:Int):1<=pt x/\pt x<=203:=by
 unfold pt
 have h1:x / 4 % 8 / 7=0\/x / 4 % 8 / 7=1:=by omega
 rcases h1 with h | h<;>rw [h]<;>omega
theorem VL {s1 s3:Sl}{x:Int}{P:List D}(h:sm x)(hP:P.length<=100):eZ [.fz (.int x),s1,.ow (.lst P),s3]=.ok (.nx,[.fz (.int (x*48271 % 2147483647)),s1,.ow (.lst (P++[.int (pt x)])),s3]):=by
 obtain ⟨h0,h1⟩:=h
 have b1:Bq x:=bgS (by omega)
 have b2:Bq 48271:=bgS (by decide)
 have b3:Bq 4:=bgS (by decide)
 have b4:Bq 7:=bgS (by decide)
 have b5:Bq 32:=bgS (by decide)
 have b6:Bq (x / 4 % 8 / 7):=bgS (by omega)
 have b7:Bq (x / 32 % 200):=bgS (by omega)
 have z1:P.length<16777216:=by omega
 simp [eZ,aJ,cR,jL,putL,aA,ak,fC,bY,bF,mdI,f9,dC,dvI,b1,b2,b3,b4,b5,b6,b7,z1,aX,pt]
theorem Ng {s1:Sl}:∀(c i:Nat) (x:Int) (P:List Int) (s3:Sl),sm x->P.length+c<=100->(∀p∈P,1<=p/\p<=203)->∃(x' s3':Sl) (Q:List Int),bJ (hName 3) eZ ((List.range' i c).map λ(k:Nat)=>D.int k) [.fz (.int x),s1,.ow (.lst (P.map D.int)),s3]=.ok (.nx,[x',s1,.ow (.lst (Q.map D.int)),s3'])/\Q.length=P.length+c/\∀p∈Q,1<=p/\p<=203
 |0,i,x,P,s3,_,_,hp=>⟨_,s3,P,rfl,rfl,hp⟩
 |c+1,i,x,P,s3,hx,hz,hp=>by
  have st:=VL (s1:=s1) (s3:=.fz (.int (i:Int))) (P:=P.map D.int) hx (by simp;omega)
  obtain ⟨x',s',Q,e,l,h⟩:=Ng (s1:=s1) c (i+1) (x*48271 % 2147483647) (P++[pt x]) (.fz (.int (i:Int))) (by constructor<;>omega) (by simp;omega) λp hp'=>by
   rcases List.mem_append.mp hp' with e | e
   ·exact hp p e
   ·rw [List.mem_singleton.mp e];exact abx x
  refine ⟨x',s',Q,?_,by rw [l];simp;omega,h⟩
  rw [List.range'_succ,List.map_cons,cM (m1:=[.fz (.int x),s1,.ow (.lst (P.map D.int)),.fz (.int (i:Int))]) rfl st]
  rw [List.map_append] at e
  exact e
theorem yS (S:Int):∀Q:List Int,(Q.map λp=>Rat.divInt p S).sum=Rat.divInt Q.sum S
 |[]=>by simp
 |p::Q=>by
  rw [List.map_cons,List.sum_cons,List.sum_cons,yS S Q,Rat.divInt_eq_div,Rat.divInt_eq_div,Rat.divInt_eq_div,Rat.div_def,Rat.div_def,Rat.div_def,← Rat.add_mul,Rat.intCast_add]
theorem div_self {S:Int}(h:0<S):Rat.divInt S S=1:=by
 rw [Rat.divInt_self' (by omega)]
theorem div_pos {p S:Int}(hp:0<p)(h:0<S):0<(Rat.divInt p S).num:=by
 have hd:0<((Rat.divInt p S).den:Int):=by have:=iC (Rat.divInt p S);omega
 have h2:=(Rat.divInt_eq_divInt_iff (by omega) (by omega)).mp (Rat.num_divInt_den (Rat.divInt p S))
 have h3:0<p*((Rat.divInt p S).den:Int):=Int.mul_pos hp hd
 rw [← h2] at h3
 exact Int.pos_of_mul_pos_left h3 h
theorem Ux:∀Q:List Int,(∀p∈Q,1<=p/\p<=203)->(Q.length:Int)<=Q.sum/\Q.sum<=203*Q.length
 |[],_=>by simp
 |p::Q,h=>by
  have:=Ux Q λx hx=>h x (List.mem_cons_of_mem _ hx)
  have:=h p List.mem_cons_self
  simp only [List.sum_cons,List.length_cons]
  omega
theorem Ir:∀Q:List Int,zX (Q.map D.int)=some Q
 |[]=>rfl
 |p::Q=>by simp [zX,Ir Q]
theorem zg (Q:List Int):JT [.lst (Q.map D.int)]=some (.int Q.sum):=by
 show (zX _).map _=_
 rw [Ir];rfl
theorem YC {Q:List Int}{u v:Sl}{c:Int}(hS:0<Q.sum)(hS2:Q.sum<=609)(z1:Q.length<=1000):lL [u,.fz (.int c),.fz (.lst (Q.map D.int)),v]=.ok (.lst (Q.map λp=>rD (Rat.divInt p Q.sum))):=by
 have bS:Bq Q.sum:=bgS (by omega)
 have ec':dJ (hName 0) gQ lV [.un,.fz (.lst (Q.map D.int))] (Q.map D.int)=.ok (Q.map λp=>rD (Rat.divInt p Q.sum)):=gH Q λp hp=>by
  refine ⟨[.fz (.int p),.fz (.lst (Q.map D.int))],rfl,rfl,?_⟩
  have el:=rE (t:=p) hS bS
  simp [lV,fFn,aa,aB,aG,aU,ak,zg Q,el]
 have z2:Q.length<=16777216:=by omega
 simp [lL,du,jH,ak,cMe,Sl.bor,ec',z2]
theorem aaf {x:Int}{c:Nat}{x' s':Sl}{Q:List Int}(hc:c<=3)(e:bJ (hName 3) eZ ((List.range' 0 c).map λ(k:Nat)=>D.int k) [.fz (.int x),.fz (.int (c:Int)),.ow (.lst []),.un]=.ok (.nx,[x',.fz (.int (c:Int)),.ow (.lst (Q.map D.int)),s'])):
  jg [.fz (.int x),.fz (.int (c:Int)),.ow (.lst []),.un]=.ok (.nx,[x',.fz (.int (c:Int)),.ow (.lst (Q.map D.int)),s']):=by
 have e1:(aa (ak 1) aB) [.fz (.int x),.fz (.int (c:Int)),.ow (.lst []),.un]=.ok [.int (c:Int)]:=by simp [aa,ak,aB]
 have e2:=BK e1 (by omega) (by omega)
 unfold jg gZ
 rw [e2]
 show bJ (hName 3) eZ ((List.range c).map λ(k:Nat)=>D.int k) _=_
 rw [List.range_eq_range']
 exact e
theorem Jr {L:Zab}{QQ:Zae}{x c r:D}{x' s':Sl}{l:D}(eL:L [.fz x,.fz c,.ow (.lst []),.un]=.ok (.nx,[x',.fz c,.ow l,s']))(eq:∀u v:Sl,QQ [u,.fz c,.fz l,v]=.ok r):bj 4 2 (kJ L QQ) [x,c]=.ok (true,r):=by
 simp [bj,kJ,aJ,eX,d8,aB,eL,jP,Me.let,Sl.let,eq]
theorem YJ {x:Int}{c:Nat}{x' s':Sl}{Q:List Int}(hS:0<Q.sum)(hS2:Q.sum<=609)(z1:Q.length<=1000)(eL:jg [.fz (.int x),.fz (.int (c:Int)),.ow (.lst []),.un]=.ok (.nx,[x',.fz (.int (c:Int)),.ow (.lst (Q.map D.int)),s'])):
  lu [.int x,.int (c:Int)]=.ok (true,.lst (Q.map λp=>rD (Rat.divInt p Q.sum))):=
 Jr eL λu v=>YC hS hS2 z1
theorem Kq {x:Int}{c:Nat}(h:sm x)(hc:1<=c/\c<=3):∃l:List Rat,lu [.int x,.int (c:Int)]=.ok (true,.lst (l.map rD))/\(∀q∈l,Sz 20 q/\smQ (rq q)/\0<q.num)/\l.length=c/\l.sum=1:=by
 obtain ⟨x',s',Q,e,hl,hQ⟩:=Ng (s1:=.fz (.int (c:Int))) c 0 x [] .un h (by simp;omega) (λ_ z=>by cases z)
 have hl:Q.length=c:=by simpa using hl
 have sb:=Ux Q hQ
 have hS:0<Q.sum:=by omega
 have hS2:Q.sum<=609:=by omega
 refine ⟨Q.map λp=>Rat.divInt p Q.sum,?_,λq hq=>?_,by simp [hl],by rw [yS,div_self hS]⟩
 ·rw [List.map_map]
  exact YJ hS hS2 (by omega) (aaf hc.2 e)
 ·obtain ⟨p,hp,rfl⟩:=List.mem_map.mp hq
  have hb:=hQ p hp
  have p20:(1000:Nat)<2 ^ 20:=by decide
  exact ⟨zN (by omega) (Nat.lt_of_le_of_lt (show p.natAbs<=1000 by omega) p20) (Nat.lt_of_le_of_lt (show Q.sum.natAbs<=1000 by omega) p20),wC hS (by omega) (by omega),div_pos (by omega) hS⟩
structure En where
 cells:List Int
 pool:List Str
 turn:Int
 lev:Bool
noncomputable def sk (x:String):Key:=.inr (Str.ofString x)
noncomputable def wu:List Key:=[sk "at",sk "room",sk "names",sk "many",sk "pool",sk "turn",sk "level"]
noncomputable def stD (e:En)(A:Addr×Addr)(at_ room:Int):D:=.dct wu [.int at_,.int room,.adr A.1,.adr A.2,.lst (e.pool.map D.str),.int e.turn,.bl e.lev]
theorem abN (e:En)(A:Addr×Addr)(a r:Int):cg (stD e A a r) (.str "at")=some (.int a):=by
 simp [cg,stD,wu,m6,qN,sk]
theorem Fq (e:En)(A:Addr×Addr)(a r:Int):cg (stD e A a r) (.str "room")=some (.int r):=by
 simp [cg,stD,wu,m6,qN,sk]
theorem G7 (e:En)(A:Addr×Addr)(a r:Int):cg (stD e A a r) (.str "names")=some (.adr A.1):=by
 simp [cg,stD,wu,m6,qN,sk]
theorem Nb (e:En)(A:Addr×Addr)(a r:Int):cg (stD e A a r) (.str "many")=some (.adr A.2):=by
 simp [cg,stD,wu,m6,qN,sk]
theorem My (e:En)(A:Addr×Addr)(a r:Int):cg (stD e A a r) (.str "pool")=some (.lst (e.pool.map D.str)):=by
 simp [cg,stD,wu,m6,qN,sk]
theorem Nz (e:En)(A:Addr×Addr)(a r:Int):cg (stD e A a r) (.str "turn")=some (.int e.turn):=by
 simp [cg,stD,wu,m6,qN,sk]
theorem Ti (e:En)(A:Addr×Addr)(a r:Int):cg (stD e A a r) (.str "level")=some (.bl e.lev):=by
 simp [cg,stD,wu,m6,qN,sk]
theorem aab {fk fv:Zae}{m:Me}{e:En}{A:Addr×Addr}{a r a':Int}{i:Nat}(h:m[i]? = some (.io (stD e A a r)))(hk:fk m=.ok (.str "at"))(hv:fv m=.ok (.int a')):iM i fk fv m=.ok (.nx,m.set i (.io (stD e A a' r))):=by
 have ho:BR m i=some (false,wu,[.int a,.int r,.adr A.1,.adr A.2,.lst (e.pool.map D.str),.int e.turn,.bl e.lev]):=by
  unfold BR;rw [h];rfl
 unfold iM
 rw [hv,ho]
 simp [hk,m6,Dy,putD,wu,sk,xO,stD]
theorem Hk {fk fv:Zae}{m:Me}{e:En}{A:Addr×Addr}{a r r':Int}{i:Nat}(h:m[i]? = some (.io (stD e A a r)))(hk:fk m=.ok (.str "room"))(hv:fv m=.ok (.int r')):iM i fk fv m=.ok (.nx,m.set i (.io (stD e A a r'))):=by
 have ho:BR m i=some (false,wu,[.int a,.int r,.adr A.1,.adr A.2,.lst (e.pool.map D.str),.int e.turn,.bl e.lev]):=by
  unfold BR;rw [h];rfl
 unfold iM
 rw [hv,ho]
 simp [hk,m6,Dy,putD,wu,sk,xO,stD]
noncomputable def kp:D->Kt
 | .tup [.str a,.str b]=>.t [.k (.inr a),.k (.inr b)]
 |_=>.t []
noncomputable def kN (s:Int)(rc:List D)(c b:Int):List Kt:=[.k (.inl s),.t (rc.map kp),.k (.inl c),.k (.inl b)]
abbrev Pr (rc:List D):Prop:=∀d∈rc,prd d
theorem Ye {n:Nat}:∀{rc:List D},Pr rc->j8 (ktD (n+1)) rc=some (rc.map kp)
 |[],_=>rfl
 |d::rc,h=>by
  obtain ⟨a,b,rfl⟩:=h d List.mem_cons_self
  have ih:=Ye (n:=n) λx hx=>h x (List.mem_cons_of_mem _ hx)
  have e:ktD (n+1) (.tup [.str a,.str b])=some (.t [.k (.inr a),.k (.inr b)]):=by
   cases n<;>rfl
  show ((ktD (n+1) (.tup [.str a,.str b])).bind λk=>(j8 (ktD (n+1)) rc).map λks=>k::ks)=_
  rw [e,ih]
  rfl
theorem aa9 {s:Int}{rc:List D}{c b:Int}(h:Pr rc):um (.tup [.int s,.tup rc,.int c,.int b])=some (kN s rc c b):=by
 have e:ktD 7 (.tup rc)=some (.t (rc.map kp)):=by
  show (j8 (ktD 6) rc).map Kt.t=_
  rw [Ye h];rfl
 show ((ktD 7 (.int s)).bind λk=>((ktD 7 (.tup rc)).bind λk=>((ktD 7 (.int c)).bind λk=>((ktD 7 (.int b)).bind λk=>(some []).map λks=>k::ks).map λks=>k::ks).map λks=>k::ks).map λks=>k::ks)=_
 rw [e]
 rfl
theorem T8:∀{r r':List D},Pr r->Pr r'->r.map kp=r'.map kp->r=r'
 |[],[],_,_,_=>rfl
 |[],_::_,_,_,h=>by cases h
 |_::_,[],_,_,h=>by cases h
 |d::r,d'::r',h1,h2,h=>by
  obtain ⟨a,b,rfl⟩:=h1 d List.mem_cons_self
  obtain ⟨a',b',rfl⟩:=h2 d' List.mem_cons_self
  have h:Kt.t [.k (.inr a),.k (.inr b)]::r.map kp=Kt.t [.k (.inr a'),.k (.inr b')]::r'.map kp:=h
  injection h with e1 e2
  injection e1 with e1
  injection e1 with e3 e4
  injection e3 with e3
  injection e3 with e3
  injection e4 with e4 _
  injection e4 with e4
  injection e4 with e4
  rw [e3,e4,T8 (λx hx=>h1 x (List.mem_cons_of_mem _ hx)) (λx hx=>h2 x (List.mem_cons_of_mem _ hx)) e2]
theorem Gj {s s':Int}{r r':List D}{c b c' b':Int}(h1:Pr r)(h2:Pr r')(h:kN s r c b=kN s' r' c' b'):s=s'/\r=r'/\c=c'/\b=b':=by
 unfold kN at h
 injection h with e1 h
 injection h with e2 h
 injection h with e3 h
 injection h with e4 _
 injection e1 with e1
 injection e1 with e1
 injection e2 with e2
 injection e3 with e3
 injection e3 with e3
 injection e4 with e4
 injection e4 with e4
 exact ⟨e1,T8 h1 h2 e2,e3,e4⟩
abbrev Nd:=List (List Kt)×List D
noncomputable def mOf (m:Int×Int)(s:Int):Int:=if s=1 then m.1 else m.2
structure oH (N:Nd)(m:Int×Int):Prop where
 len:N.1.length=N.2.length
 sz:N.1.length<=1000
 nn:0<=m.1/\0<=m.2
 num:∀s rc c b d,(s=1\/s=2)->Pr rc->cF N.1 N.2 (kN s rc c b)=some d->∃n:Int,d=.int n/\0<=n/\n<mOf m s
 inj:∀s rc c b rc' c' b' d,(s=1\/s=2)->Pr rc->Pr rc'->cF N.1 N.2 (kN s rc c b)=some d->cF N.1 N.2 (kN s rc' c' b')=some d->rc=rc'/\c=c'
def Sub (N N':Nd):Prop:=∀k d,cF N.1 N.2 k=some d->cF N'.1 N'.2 k=some d
noncomputable def upM (m:Int×Int)(s:Int):Int×Int:=if s=1 then (m.1+1,m.2) else (m.1,m.2+1)
theorem Zt {N:Nd}{m:Int×Int}{s:Int}{rc:List D}{c b:Int}(I:oH N m)(hs:s=1\/s=2)(hr:Pr rc)(hz:N.1.length<1000)(hn:cF N.1 N.2 (kN s rc c b)=none):
  oH (jk N.1 N.2 (kN s rc c b) (.int (mOf m s))) (upM m s)/\Sub N (jk N.1 N.2 (kN s rc c b) (.int (mOf m s))):=by
 have hp:=λk'=>vg (ks:=N.1) (ds:=N.2) (k:=kN s rc c b) (k':=k') (d:=.int (mOf m s)) I.len
 obtain ⟨l1,l2⟩:=G4 (ks:=N.1) (ds:=N.2) (k:=kN s rc c b) (d:=.int (mOf m s)) I.len
 have nn:=I.nn
 have m0:0<=mOf m s:=by unfold mOf;split<;>omega
 have mle:∀t,mOf m t<=mOf (upM m s) t:=λt=>by
  unfold mOf upM
  by_cases q:s=1<;>by_cases q2:t=1<;>simp [q,q2]<;>omega
 have mlt:mOf m s<mOf (upM m s) s:=by
  unfold mOf upM
  by_cases q:s=1<;>simp [q]<;>omega
 refine ⟨⟨l1,by omega,?_,?_,?_⟩,?_⟩
 ·unfold upM;split<;>simp<;>omega
 ·intro t r c' b' d ht hr' h
  rw [hp] at h
  by_cases q:kN s rc c b=kN t r c' b'
  ·rw [if_pos q] at h
   cases h
   obtain ⟨rfl,_⟩:=Gj hr hr' q
   exact ⟨_,rfl,m0,mlt⟩
  ·rw [if_neg q] at h
   obtain ⟨n,e,h0,h1⟩:=I.num t r c' b' d ht hr' h
   exact ⟨n,e,h0,Int.lt_of_lt_of_le h1 (mle t)⟩
 ·intro t r c1 b1 r' c2 b2 d ht h1 h2 e1 e2
  rw [hp] at e1 e2
  by_cases q1:kN s rc c b=kN t r c1 b1
  ·rw [if_pos q1] at e1
   cases e1
   obtain ⟨rfl,rfl,rfl,rfl⟩:=Gj hr h1 q1
   by_cases q2:kN s rc c b=kN s r' c2 b2
   ·obtain ⟨_,rfl,rfl,_⟩:=Gj hr h2 q2
    exact ⟨rfl,rfl⟩
   ·rw [if_neg q2] at e2
    obtain ⟨n,e,_,h⟩:=I.num s r' c2 b2 _ ht h2 e2
    cases e
    omega
  ·rw [if_neg q1] at e1
   by_cases q2:kN s rc c b=kN t r' c2 b2
   ·rw [if_pos q2] at e2
    cases e2
    obtain ⟨rfl,rfl,rfl,rfl⟩:=Gj hr h2 q2
    obtain ⟨n,e,_,h⟩:=I.num s r c1 b1 _ ht h1 e1
    cases e
    omega
   ·rw [if_neg q2] at e2
    exact I.inj t r c1 b1 r' c2 b2 d ht h1 h2 e1 e2
 ·intro k d h
  rw [hp,if_neg λq=>by rw [← q,hn] at h;cases h]
  exact h
theorem Qp {e:En}{N:Nd}{m:Int×Int}{s a r:Int}{rc:List D}{c b:Int}(I:oH N m)(hs:s=1\/s=2)(hr:Pr rc)(hz:N.1.length<1000):
  ∃(n:Int) (N':Nd) (m':Int×Int),(∀A:Addr×Addr,cT [.int s,.tup rc,.int c,.int b] (stD e A a r) (A.1,.dcu N.1 N.2) (A.2,.lst [.int m.1,.int m.2])=.ok (.int n,stD e A a r,.dcu N'.1 N'.2,.lst [.int m'.1,.int m'.2]))/\
   0<=n/\cF N'.1 N'.2 (kN s rc c b)=some (.int n)/\oH N' m'/\Sub N N'/\N'.1.length<=N.1.length+1:=by
 have kk:=aa9 (s:=s) (c:=c) (b:=b) hr
 have z1:N.1.length<16777216:=by omega
 have x0:∀a b:D,atI [a,b] 0=some a:=λ_ _=>rfl
 have x1:∀a b:D,atI [a,b] 1=some b:=λ_ _=>rfl
 have n0:ixN 2 0=some 0:=rfl
 have n1:ixN 2 1=some 1:=rfl
 cases q:cF N.1 N.2 (kN s rc c b) with
 |some d=>
  obtain ⟨n,rfl,h0,h1⟩:=I.num s rc c b d hs hr q
  refine ⟨n,N,m,λA=>?_,h0,q,I,λ_ _ h=>h,by omega⟩
  have g1:=G7 e A a r
  have g2:=Nb e A a r
  generalize hst:stD e A a r=ST at *
  simp [cT,d7,d9,F.runST,jM,aJ,aX,bA,aa,aB,aG,gIf,aR,ak,wA,aA,fC,g1,g2,vh,J0,vY,dcK,kk,q,gNx,bD,Me.let,Sl.let,pO,jr]
 |none=>
  obtain ⟨I',S'⟩:=Zt I hs hr hz q
  have l2:=(G4 (ks:=N.1) (ds:=N.2) (k:=kN s rc c b) (d:=.int (mOf m s)) I.len).2
  have hv:cF (jk N.1 N.2 (kN s rc c b) (.int (mOf m s))).1 (jk N.1 N.2 (kN s rc c b) (.int (mOf m s))).2 (kN s rc c b)=some (.int (mOf m s)):=by rw [vg I.len,if_pos rfl]
  have m0:0<=mOf m s:=by have:=I.nn;unfold mOf;split<;>omega
  refine ⟨mOf m s,jk N.1 N.2 (kN s rc c b) (.int (mOf m s)),upM m s,λA=>?_,m0,hv,I',S',l2⟩
  have g1:=G7 e A a r
  have g2:=Nb e A a r
  generalize hst:stD e A a r=ST at *
  rcases hs with rfl | rfl
  ·simp only [mOf,upM,show ((1:Int)=1)=True by simp,if_true] at hv ⊢
   simp [cT,d7,d9,F.runST,jM,aJ,aX,bA,aa,aB,aG,gIf,aR,ak,wA,aA,fC,g1,g2,vh,J0,vY,dcK,kk,q,bD,Me.let,Sl.let,pO,jr,uU,sH,vM,gIx,F.dB,x0,x1,n0,n1,z1,bY,hv]
  ·simp only [mOf,upM,show ((2:Int)=1)=False by simp,if_false] at hv ⊢
   simp [cT,d7,d9,F.runST,jM,aJ,aX,bA,aa,aB,aG,gIf,aR,ak,wA,aA,fC,g1,g2,vh,J0,vY,dcK,kk,q,bD,Me.let,Sl.let,pO,jr,uU,sH,vM,gIx,F.dB,x0,x1,n0,n1,z1,bY,hv]
noncomputable def nameAt (e:En)(n:Int):Str:=e.pool.getD ((n+e.turn) % 8).toNat ⟨#[]⟩
noncomputable def wordAt (e:En)(n k:Int):Str:=e.pool.getD ((3*n+k+e.turn / 8) % 8).toNat ⟨#[]⟩
structure nA (e:En):Prop where
 c1:1<=e.cells.length
 c2:e.cells.length<=100
 p8:e.pool.length=8
 t0:0<=e.turn/\e.turn<64
 pok:∀x∈e.pool,PyData.strOk x=true
theorem Eu {e:En}(E:nA e){i:Int}(h:0<=i/\i<8):atI (e.pool.map D.str) i=some (.str (e.pool.getD i.toNat ⟨#[]⟩)):=by
 have hl:i.toNat<e.pool.length:=by rw [E.p8];omega
 have e1:(e.pool.map D.str)[i.toNat]? = some (.str (e.pool.getD i.toNat ⟨#[]⟩)):=by
  rw [List.getElem?_map,List.getElem?_eq_getElem hl,List.getD_eq_getElem?_getD,List.getElem?_eq_getElem hl]
  rfl
 have:=kj e1
 rwa [show ((i.toNat:Nat):Int)=i by omega] at this
theorem zc {e:En}(E:nA e)(i:Nat)(h:i<8):PyData.strOk (e.pool.getD i ⟨#[]⟩)=true:=by
 have hl:i<e.pool.length:=by rw [E.p8];exact h
 rw [List.getD_eq_getElem?_getD,List.getElem?_eq_getElem hl]
 exact E.pok _ (List.getElem_mem hl)
def Row (e:En)(N:Nd)(s:Int)(nm:Str)(d:D):Prop:=∃(rc:List D) (c:Nat) (b n:Int),Pr rc/\oO rc=true/\cF N.1 N.2 (kN s rc (c:Int) b)=some (.int n)/\0<=n/\n<8/\(1<=c/\c<=3)/\nm=nameAt e n/\d=.tup [.int s,.str nm,.tup ((List.range c).map λ(k:Nat)=>.str (wordAt e n k)),.tup rc]
theorem Row.mono {e:En}{N N':Nd}{s:Int}{nm:Str}{d:D}(h:Row e N s nm d)(S:Sub N N'):Row e N' s nm d:=by
 obtain ⟨rc,c,b,n,h1,h2,h3,h4⟩:=h
 exact ⟨rc,c,b,n,h1,h2,S _ _ h3,h4⟩
def Ug (e:En)(N:Nd)(p:Tr):Prop:=match p.2.1 with
 | .fin d=>smQ d/\∃q:Rat,d=rq q
 | .deal n ws=>Zx ws/\n∈e.pool
 | .move s n ws=>Row e N s n (eU s n ws p.2.2)
theorem Ug.mono {e:En}{N N':Nd}{p:Tr}(h:Ug e N p)(S:Sub N N'):Ug e N' p:=by
 obtain ⟨w,g,r⟩:=p
 cases g with
 |fin d=>exact h
 |deal n ws=>exact h
 |move s n ws=>exact Row.mono h S
structure Grw (e:En)(N:Nd)(rc:Rc)(g:Gm)(dep:Nat):Prop where
 len:iw g
 sd:sdG g
 dep:dp g<=dep
 pl:∀w,∀p∈prG w rc g,Ug e N p
theorem Grw.mono {e:En}{N N':Nd}{rc:Rc}{g:Gm}{dep:Nat}(h:Grw e N rc g dep)(S:Sub N N'):Grw e N' rc g dep:=⟨h.len,h.sd,h.dep,λw p hp=>(h.pl w p hp).mono S⟩
abbrev Bf:=List D->D->Addr×D->Addr×D->Res (D×D×D×D)
def Jj (rc:Rc)(dep:Nat):Prop:=Pr rc.1/\Pr rc.2/\oO rc.1=true/\oO rc.2=true/\rc.1.length+dep<=12/\rc.2.length+dep<=12
noncomputable def cD (e:En):D:=.lst (e.cells.map D.int)
noncomputable def rcD (rc:Rc):D:=.lst [.tup rc.1,.tup rc.2]
noncomputable def nD (N:Nd):D:=.dcu N.1 N.2
noncomputable def mD (m:Int×Int):D:=.lst [.int m.1,.int m.2]
def Gives (e:En)(R:Addr×Addr->Res (D×D×D×D))(a r:Nat)(N:Nd)(rc:Rc)(dep:Nat):Prop:=∃(g:Gm) (a' r':Nat) (N':Nd) (m':Int×Int),(∀A,R A=.ok (dG g,stD e A a' r',nD N',mD m'))/\oH N' m'/\Sub N N'/\N'.1.length<=a'/\r'+szG g=r+1/\a'+r'=a+r+1/\Grw e N' rc g dep
def SpB (e:En)(Φ:Bf)(dep:Nat):Prop:=∀(a r:Nat) (N:Nd) (m:Int×Int) (rc:Rc),oH N m->N.1.length<=a->a+r<=63->Jj rc dep->Gives e (λA=>Φ [cD e,.int (dep:Int),rcD rc] (stD e A a r) (A.1,nD N) (A.2,mD m)) a r N rc dep
noncomputable def ofL:List (D×Gm)->Ws
 |[]=>.nil
 |p::l=>.cons p.1 p.2 (ofL l)
theorem JZ:∀l:List (D×Gm),dWs (ofL l)=l.map λp=>.tup [p.1,dG p.2]
 |[]=>rfl
 |p::l=>by show _::dWs (ofL l)=_;rw [JZ l];rfl
theorem Dz:∀l:List (D×Gm),eV (ofL l)=l.map (·.1)
 |[]=>rfl
 |p::l=>by show _::eV (ofL l)=_;rw [Dz l];rfl
noncomputable def mvM (e:En)(A:Addr×Addr)(a r:Int)(N:Nd)(m:Int×Int)(rc:Rc)(dep draw s c n:Int)(seen:Str)(ways:List D)(s11 s12 s13:Sl):Me:=
 [.fz (cD e),.io (stD e A a r),.fz (.int dep),.fz (rcD rc),.fz (.int draw),.fz (.int s),.fz (.int c),.fz (.int n),.fz (.lst (e.pool.map D.str)),.fz (.str seen),.ow (.lst ways),s11,s12,s13,.hd false A.1 (nD N),.hd false A.2 (mD m)]
theorem YG {rc:Rc}{dep:Nat}{s:Int}{n x:Str}(h:Jj rc (dep+1))(hn:PyData.strOk n=true)(hx:PyData.strOk x=true):Jj (rbm s n rc (.str x)) dep:=by
 obtain ⟨h1,h2,h3,h4,h5,h6⟩:=h
 have app:∀l:List D,oO l=true->oO (l++[.tup [.str n,.str x]])=true:=by
  intro l
  induction l with
  |nil=>intro _;simp [oO,okD,hn,hx]
  |cons d l ih=>intro h;simp [oO] at h ⊢;exact ⟨h.1,ih h.2⟩
 have prp:∀l:List D,Pr l->Pr (l++[.tup [.str n,.str x]]):=λl h d hd=>by
  rcases List.mem_append.mp hd with e | e
  ·exact h d e
  ·exact ⟨n,x,List.mem_singleton.mp e⟩
 unfold rbm
 split
 ·exact ⟨prp _ h1,h2,app _ h3,h4,by simp;omega,by simp;omega⟩
 ·exact ⟨h1,prp _ h2,h3,app _ h4,by simp;omega,by simp;omega⟩
theorem VP {e:En}(E:nA e){Φ:Bf}{dep:Nat}(hΦ:SpB e Φ dep){a r:Nat}{N:Nd}{m:Int×Int}{rc:Rc}{draw s c n k:Int}{seen:Str}{ways:List D}{s12 s13:Sl}(I:oH N m)(hN:N.1.length<=a)(har:a+r<=63)(hr:Jj rc (dep+1))(hs:s=1\/s=2)(hn:0<=n/\n<8)(hk:0<=k/\k<3)(hse:PyData.strOk seen=true)(hw:ways.length<=100):
  ∃(g:Gm) (a' r':Nat) (N':Nd) (m':Int×Int) (t12 t13:Sl),(∀A:Addr×Addr,gD Φ (mvM e A a r N m rc (dep+1:Nat) draw s c n seen ways (.fz (.int k)) s12 s13)=.ok (.nx,mvM e A a' r' N' m' rc (dep+1:Nat) draw s c n seen (ways++[.tup [.str (wordAt e n k),dG g]]) (.fz (.int k)) t12 t13))/\
   oH N' m'/\Sub N N'/\N'.1.length<=a'/\r'+szG g=r+1/\a'+r'=a+r+1/\Grw e N' (rbm s seen rc (.str (wordAt e n k))) g dep:=by
 have t0:=E.t0
 have hwok:PyData.strOk (wordAt e n k)=true:=zc E _ (by omega)
 obtain ⟨g,a',r',N',m',e1,i1,i2,i3,i4,i5,i6⟩:=hΦ a r N m _ I hN har (YG (s:=s) hr hse hwok)
 refine ⟨g,a',r',N',m',.fz (.str (wordAt e n k)),.fz (rcD (rbm s seen rc (.str (wordAt e n k)))),λA=>?_,i1,i2,i3,i4,i5,i6⟩
 have e1:Φ [cD e,.int (dep:Int),rcD (rbm s seen rc (.str (wordAt e n k)))] (stD e A a r) (A.1,nD N) (A.2,mD m)=.ok (dG g,stD e A a' r',nD N',mD m'):=e1 A
 have pa:=Eu E (i:=(3*n+k+e.turn / 8) % 8) (by omega)
 have b3:Bq 3:=bgS (by decide)
 have bn:Bq n:=bgS (by omega)
 have b8:Bq 8:=bgS (by decide)
 have gt:=Nz e A a r
 have x0:∀a b:D,atI [a,b] 0=some a:=λ_ _=>rfl
 have x1:∀a b:D,atI [a,b] 1=some b:=λ_ _=>rfl
 have n0:ixN 2 0=some 0:=rfl
 have n1:ixN 2 1=some 1:=rfl
 have z1:rc.1.length+1<=16777216:=by have:=hr.2.2.2.2.1;omega
 have z2:rc.2.length+1<=16777216:=by have:=hr.2.2.2.2.2;omega
 have z3:ways.length<16777216:=by omega
 have ed:((dep+1:Nat):Int) - 1=(dep:Int):=by omega
 have wd:wordAt e n k=e.pool.getD ((3*n+k+e.turn / 8) % 8).toNat ⟨#[]⟩:=rfl
 rw [← wd] at pa
 simp only [mvM]
 generalize wordAt e n k=X at *
 generalize hst:stD e A a r=ST at *
 generalize hst':stD e A (a':Int) (r':Int)=ST' at *
 generalize cD e=C at *
 generalize nD N=NN at *
 generalize nD N'=NN' at *
 generalize mD m=MM at *
 generalize mD m'=MM' at *
 generalize hdp:((dep+1:Nat):Int)=DP at *
 rcases hs with rfl | rfl
 ·simp only [rbm,rcD,if_pos] at e1
  simp [gD,aJ,aX,aA,ak,gIx,bF,mdI,bY,f9,fC,gt,dC,dvI,b3,bn,b8,hst,hst',pa,eX,aU,rB,aa,aB,rcD,lU,F.dB,x0,x1,jL,putL,n0,n1,bA,aG,z1,z2,S8,pG,Cr,qT,fX,uA,FQ,vM,ed,e1,yx,Dh,z3,rbm]
 ·simp only [rbm,rcD,show ((2:Int)=1)=False by simp,if_false] at e1
  simp [gD,aJ,aX,aA,ak,gIx,bF,mdI,bY,f9,fC,gt,dC,dvI,b3,bn,b8,hst,hst',pa,eX,aU,rB,aa,aB,rcD,lU,F.dB,x0,x1,jL,putL,n0,n1,bA,aG,z1,z2,S8,pG,Cr,qT,fX,uA,FQ,vM,ed,e1,yx,Dh,z3,rbm]
noncomputable def szL (L:List (D×Gm)):Nat:=(L.map λp=>szG p.2).sum
noncomputable def Kr (p:D×Gm):D:=.tup [p.1,dG p.2]
theorem Sub.refl (N:Nd):Sub N N:=λ_ _ h=>h
theorem Sub.trans {A B C:Nd}(h:Sub A B)(k:Sub B C):Sub A C:=λx d z=>k x d (h x d z)
theorem KR {e:En}(E:nA e){Φ:Bf}{dep:Nat}(hΦ:SpB e Φ dep){rc:Rc}{draw s cc n:Int}{seen:Str}(hr:Jj rc (dep+1))(hs:s=1\/s=2)(hn:0<=n/\n<8)(hse:PyData.strOk seen=true):
  ∀(c i a r:Nat) (N:Nd) (m:Int×Int) (ways:List D) (s11 s12 s13:Sl),oH N m->N.1.length<=a->a+r+c<=64->i+c<=3->ways.length+c<=100->
  ∃(L:List (D×Gm)) (a' r':Nat) (N':Nd) (m':Int×Int) (t11 t12 t13:Sl),(∀A:Addr×Addr,bJ (hName 11) (gD Φ) ((List.range' i c).map λ(k:Nat)=>D.int k) (mvM e A a r N m rc (dep+1:Nat) draw s cc n seen ways s11 s12 s13)=.ok (.nx,mvM e A a' r' N' m' rc (dep+1:Nat) draw s cc n seen (ways++L.map Kr) t11 t12 t13))/\
   oH N' m'/\Sub N N'/\N'.1.length<=a'/\r'+szL L=r+c/\a'+r'=a+r+c/\L.map (·.1)=(List.range' i c).map (λ(k:Nat)=>D.str (wordAt e n k))/\∀p∈L,Grw e N' (rbm s seen rc p.1) p.2 dep
 |0,i,a,r,N,m,ways,s11,s12,s13,I,hN,har,hi,hw=>⟨[],a,r,N,m,s11,s12,s13,λA=>by simp [bJ],I,Sub.refl N,hN,by simp [szL],by omega,rfl,λ_ z=>by cases z⟩
 |c+1,i,a,r,N,m,ways,s11,s12,s13,I,hN,har,hi,hw=>by
  obtain ⟨g,a1,r1,N1,m1,t12,t13,e1,i1,i2,i3,i4,i5,i6⟩:=VP E hΦ (a:=a) (r:=r) (draw:=draw) (c:=cc) (s12:=s12) (s13:=s13) (k:=(i:Int)) I hN (by omega) hr hs hn (by omega) hse (by omega:ways.length<=100)
  obtain ⟨L,a',r',N',m',u11,u12,u13,e2,j1,j2,j3,j4,j5,j6,j7⟩:=KR E hΦ (draw:=draw) (cc:=cc) (n:=n) (seen:=seen) hr hs hn hse c (i+1) a1 r1 N1 m1 (ways++[.tup [.str (wordAt e n i),dG g]]) (.fz (.int (i:Int))) t12 t13 i1 i3 (by omega) (by omega) (by simp;omega)
  refine ⟨(.str (wordAt e n i),g)::L,a',r',N',m',u11,u12,u13,λA=>?_,j1,i2.trans j2,j3,?_,by omega,?_,λp hp=>?_⟩
  ·rw [List.range'_succ,List.map_cons,cM (m1:=mvM e A a r N m rc (dep+1:Nat) draw s cc n seen ways (.fz (.int (i:Int))) s12 s13) rfl (e1 A),e2 A,List.append_assoc]
   rfl
  ·show r'+(szG g+szL L)=r+(c+1)
   omega
  ·rw [List.range'_succ,List.map_cons,List.map_cons,j6]
  ·rcases List.mem_cons.mp hp with q | q
   ·rw [q];exact i6.mono j2
   ·exact j7 p q
theorem J9:∀L:List (D×Gm),szW (ofL L)=szL L
 |[]=>rfl
 |p::L=>by show szG p.2+szW (ofL L)=szG p.2+szL L;rw [J9 L]
theorem DG:∀L:List (D×Gm),fK (ofL L)=L.length
 |[]=>rfl
 |p::L=>by show fK (ofL L)+1=_;rw [DG L];rfl
theorem zE:∀L:List (D×Gm),(∀p∈L,iw p.2)->yh (ofL L)
 |[],_=>trivial
 |p::L,h=>⟨h p List.mem_cons_self,zE L λq hq=>h q (List.mem_cons_of_mem _ hq)⟩
theorem Jp:∀L:List (D×Gm),(∀p∈L,sdG p.2)->sdW (ofL L)
 |[],_=>trivial
 |p::L,h=>⟨h p List.mem_cons_self,Jp L λq hq=>h q (List.mem_cons_of_mem _ hq)⟩
theorem Km {k:Nat}:∀L:List (D×Gm),(∀p∈L,dp p.2<=k)->dpW (ofL L)<=k
 |[],_=>Nat.zero_le _
 |p::L,h=>Nat.max_le.mpr ⟨h p List.mem_cons_self,Km L λq hq=>h q (List.mem_cons_of_mem _ hq)⟩
theorem JS {w:List Int}{f:D->Rc}:∀(L:List (D×Gm)) (i:Nat) (p:Tr),p∈prW w f i (ofL L)->∃q∈L,∃w',p∈prG w' (f q.1) q.2
 |[],i,p,h=>by cases h
 |q::L,i,p,h=>by
  rcases List.mem_append.mp (show p∈prG (w++[(i:Int)]) (f q.1) q.2++prW w f (i+1) (ofL L) from h) with z | z
  ·exact ⟨q,List.mem_cons_self,_,z⟩
  ·obtain ⟨q',h1,h2⟩:=JS L (i+1) p z
   exact ⟨q',List.mem_cons_of_mem _ h1,h2⟩
theorem RW {e:En}{N:Nd}{rc:Rc}{dep:Nat}{s:Int}{nm:Str}{L:List (D×Gm)}(hs:s=1\/s=2)(hl:L.length<=3)(h:∀p∈L,Grw e N (rbm s nm rc p.1) p.2 dep)(hrow:Row e N s nm (eU s nm (ofL L) rc)):Grw e N rc (.move s nm (ofL L)) (dep+1) where
 len:=⟨by rw [DG];omega,zE L λp hp=>(h p hp).len⟩
 sd:=⟨hs,Jp L λp hp=>(h p hp).sd⟩
 dep:=Nat.succ_le_succ (Km L λp hp=>(h p hp).dep)
 pl:=λw p hp=>by
  rcases List.mem_cons.mp (show p∈(w,Gm.move s nm (ofL L),rc)::prW w (rbm s nm rc) 0 (ofL L) from hp) with z | z
  ·rw [z];exact hrow
  ·obtain ⟨q,hq,w',h2⟩:=JS L 0 p z
   exact (h q hq).pl w' p h2
theorem Rz {e:En}{N:Nd}{rc:Rc}{dep:Nat}{nm:Str}{L:List (D×Gm)}(hl:L.length<=3)(h:∀p∈L,Grw e N rc p.2 dep)(hsh:Zx (ofL L))(hnm:nm∈e.pool):Grw e N rc (.deal nm (ofL L)) (dep+1) where
 len:=⟨by rw [DG];omega,zE L λp hp=>(h p hp).len⟩
 sd:=Jp L λp hp=>(h p hp).sd
 dep:=Nat.succ_le_succ (Km L λp hp=>(h p hp).dep)
 pl:=λw p hp=>by
  rcases List.mem_cons.mp (show p∈(w,Gm.deal nm (ofL L),rc)::prW w (λ_=>rc) 0 (ofL L) from hp) with z | z
  ·rw [z];exact ⟨hsh,hnm⟩
  ·obtain ⟨q,hq,w',h2⟩:=JS L 0 p z
   exact (h q hq).pl w' p h2
theorem Nq {e:En}{N:Nd}{rc:Rc}{dep:Nat}{q:Rat}(h:smQ (rq q)):Grw e N rc (.fin (rq q)) dep where
 len:=trivial
 sd:=trivial
 dep:=Nat.zero_le _
 pl:=λw p hp=>by
  have:p=(w,.fin (rq q),rc):=by simpa [prG] using hp
  rw [this];exact ⟨h,q,rfl⟩
theorem gs {g k:Zab}{m m1:Me}(h:g m=.ok (.nx,m1)):aJ g k m=k m1:=by unfold aJ;rw [h]
theorem Nt {g k:Zab}{m m1:Me}{f:Bool}{d:D}(h:g m=.ok (.rt f d,m1)):aJ g k m=.ok (.rt f d,m1):=by unfold aJ;rw [h]
theorem zQ {p N n:Nat}{g:Zab}{ds:List D}{d:D}{x y:Addr×D}{m0 m':Me}{fr:Bool}{r d' e f:D}(hl:ds.length+1=n)(h0:jM p (.io d) (ds.map Sl.fz)++(List.replicate (N-n - 2) Sl.un++[.hd false x.1 x.2,.hd false y.1 y.2])=m0)(hg:g m0=.ok (.rt fr r,m'))(h1:pO m' p=some d')(h2:jr m' (N - 2) x.1=some e)(h3:jr m' (N - 1) y.1=some f):
  F.runST p N n g ds d x y=.ok (r,d',e,f):=by
 unfold F.runST
 rw [if_pos hl,h0,hg]
 simp [h1,h2,h3]
noncomputable def mx (e:En)(A:Addr×Addr)(a r:Int)(N:Nd)(m:Int×Int)(rc:Rc)(dep draw:Int)(s5 s6 s7 s8 s9 s10 s11 s12 s13:Sl):Me:=
 [.fz (cD e),.io (stD e A a r),.fz (.int dep),.fz (rcD rc),.fz (.int draw),s5,s6,s7,s8,s9,s10,s11,s12,s13,.hd false A.1 (nD N),.hd false A.2 (mD m)]
theorem Rx {φs:Zac}{φn:Bf}{L:Zab}{e:En}{A:Addr×Addr}{a r:Nat}{N N1:Nd}{m m1:Int×Int}{rc:Rc}{DP draw s c b n:Int}(E:nA e)
  (hs:s=1+draw % 2) (hc:c=1+draw / 16 % 3) (hb:b=draw / 48 % 2) (en:φn [.int s,.tup (lW rc s),.int c,.int b] (stD e A a r) (A.1,nD N) (A.2,mD m)=.ok (.int n,stD e A a r,nD N1,mD m1)):
  (8<=n->∀q,φs [.int draw]=.ok (false,q)->F.runST 1 16 5 (jl φs φn L) [cD e,.int DP,rcD rc,.int draw] (stD e A a r) (A.1,nD N) (A.2,mD m)=.ok (.tup [.str "end",q],stD e A a r,nD N1,mD m1))/\
  (0<=n->n<8->∀(a' r':Nat) (N':Nd) (m':Int×Int) (ws:List D) (t11 t12 t13:Sl),ws.length<=100->L (mvM e A a ((r:Int)-c) N1 m1 rc DP draw s c n (nameAt e n) [] .un .un .un)=.ok (.nx,mvM e A a' r' N' m' rc DP draw s c n (nameAt e n) ws t11 t12 t13)->
   F.runST 1 16 5 (jl φs φn L) [cD e,.int DP,rcD rc,.int draw] (stD e A a r) (A.1,nD N) (A.2,mD m)=.ok (.tup [.str "move",.int s,.str (nameAt e n),.tup ws],stD e A a' r',nD N',mD m')):=by
 have b16:Bq 16:=bgS (by decide)
 have b48:Bq 48:=bgS (by decide)
 have x0:∀a b:D,atI [a,b] 0=some a:=λ_ _=>rfl
 have x1:∀a b:D,atI [a,b] 1=some b:=λ_ _=>rfl
 have hs1:s=1\/s=2:=by omega
 have ex:gIx (rcD rc) (.int (s - 1))=some (.tup (lW rc s)):=by
  rcases hs1 with q | q
  ·rw [q];exact x0 _ _
  ·rw [q];exact x1 _ _
 have e1:∀k,aJ (aX 5 (aA bY (fC (.int 1)) (aA bF (ak 4) (fC (.int 2))))) k (mx e A a r N m rc DP draw .un .un .un .un .un .un .un .un .un)=k (mx e A a r N m rc DP draw (.fz (.int s)) .un .un .un .un .un .un .un .un):=λk=>gs (by
  simp [mx,aX,aA,fC,ak,bF,mdI,bY,hs])
 have e2:∀k,aJ (aX 6 (aA bY (fC (.int 1)) (aA bF (aA dC (ak 4) (fC (.int 16))) (fC (.int 3))))) k (mx e A a r N m rc DP draw (.fz (.int s)) .un .un .un .un .un .un .un .un)=k (mx e A a r N m rc DP draw (.fz (.int s)) (.fz (.int c)) .un .un .un .un .un .un .un):=λk=>gs (by
  simp [mx,aX,aA,fC,ak,bF,mdI,bY,dC,dvI,b16,hc])
 have e3:∀k,aJ (Nv 7 (uA φn 1 0 14 15 (aa (aG 5) (aa (aA gIx (ak 3) (aA dB (ak 5) (fC (.int 1)))) (aa (aG 6) (aa (aA bF (aA dC (ak 4) (fC (.int 48))) (fC (.int 2))) aB)))))) k (mx e A a r N m rc DP draw (.fz (.int s)) (.fz (.int c)) .un .un .un .un .un .un .un)=k (mx e A a r N1 m1 rc DP draw (.fz (.int s)) (.fz (.int c)) (.fz (.int n)) .un .un .un .un .un .un):=λk=>gs (by
  rw [hb] at en
  simp [mx,Nv,uA,FQ,vM,aa,aB,aG,aA,ak,fC,F.dB,ex,bF,mdI,dC,dvI,b48,en,yx])
 have start:jM 1 (.io (stD e A a r)) ([cD e,.int DP,rcD rc,.int draw].map Sl.fz)++(List.replicate (16 - 5 - 2) Sl.un++[.hd false A.1 (nD N),.hd false A.2 (mD m)])=mx e A a r N m rc DP draw .un .un .un .un .un .un .un .un .un:=rfl
 constructor
 ·intro h8 q eq
  have e4:∀k,aJ (gIf (aR gGe (ak 7) (fC (.int 8))) (bD (bA (aa (fC (.str "end")) (aa (fFn φs (aa (aG 4) aB)) aB)))) gNx) k (mx e A a r N1 m1 rc DP draw (.fz (.int s)) (.fz (.int c)) (.fz (.int n)) .un .un .un .un .un .un)=.ok (.rt false (.tup [.str "end",q]),mx e A a r N1 m1 rc DP draw (.fz (.int s)) (.fz (.int c)) (.fz (.int n)) .un .un .un .un .un .un):=λk=>Nt (by
   have:n ≥ 8:=h8
   simp [mx,gIf,aR,ak,fC,gGe,this,bD,Me.let,Sl.let,bA,aa,aB,fFn,aG,eq])
  refine zQ (m0:=mx e A a r N m rc DP draw .un .un .un .un .un .un .un .un .un) (m':=mx e A a r N1 m1 rc DP draw (.fz (.int s)) (.fz (.int c)) (.fz (.int n)) .un .un .un .un .un .un) (fr:=false) rfl start ?_ rfl (by simp [mx,jr]) (by simp [mx,jr])
  unfold jl
  rw [e1,e2,e3,e4]
 ·intro h0 h8 a' r' N' m' ws t11 t12 t13 hw eL
  have t0:=E.t0
  have pa:=Eu E (i:=(n+e.turn) % 8) (by omega)
  have wd:nameAt e n=e.pool.getD ((n+e.turn) % 8).toNat ⟨#[]⟩:=rfl
  rw [← wd] at pa
  have gt:=Nz e A a ((r:Int)-c)
  have gp:=My e A a ((r:Int)-c)
  have gr:=Fq e A a r
  have e4:∀k,aJ (gIf (aR gGe (ak 7) (fC (.int 8))) (bD (bA (aa (fC (.str "end")) (aa (fFn φs (aa (aG 4) aB)) aB)))) gNx) k (mx e A a r N1 m1 rc DP draw (.fz (.int s)) (.fz (.int c)) (.fz (.int n)) .un .un .un .un .un .un)=k (mx e A a r N1 m1 rc DP draw (.fz (.int s)) (.fz (.int c)) (.fz (.int n)) .un .un .un .un .un .un):=λk=>gs (by
   have:¬n ≥ 8:=by omega
   simp [mx,gIf,aR,ak,fC,gGe,this,gNx])
  have e5:∀k,aJ (iM 1 (fC (.str "room")) (aA dB (aA cg (ak 1) (fC (.str "room"))) (ak 6))) k (mx e A a r N1 m1 rc DP draw (.fz (.int s)) (.fz (.int c)) (.fz (.int n)) .un .un .un .un .un .un)=k (mx e A a ((r:Int)-c) N1 m1 rc DP draw (.fz (.int s)) (.fz (.int c)) (.fz (.int n)) .un .un .un .un .un .un):=λk=>gs (Hk (e:=e) (A:=A) (a:=a) (r:=r) rfl rfl (by
   simp [mx,aA,ak,fC,gr,F.dB]))
  have e6:∀k,aJ (aX 8 (aA cg (ak 1) (fC (.str "pool")))) k (mx e A a ((r:Int)-c) N1 m1 rc DP draw (.fz (.int s)) (.fz (.int c)) (.fz (.int n)) .un .un .un .un .un .un)=k (mx e A a ((r:Int)-c) N1 m1 rc DP draw (.fz (.int s)) (.fz (.int c)) (.fz (.int n)) (.fz (.lst (e.pool.map D.str))) .un .un .un .un .un):=λk=>gs (by
   simp [mx,aX,aA,ak,fC,gp])
  have e7:∀k,aJ (aX 9 (aA gIx (ak 8) (aA bF (aA bY (ak 7) (aA cg (ak 1) (fC (.str "turn")))) (fC (.int 8))))) k (mx e A a ((r:Int)-c) N1 m1 rc DP draw (.fz (.int s)) (.fz (.int c)) (.fz (.int n)) (.fz (.lst (e.pool.map D.str))) .un .un .un .un .un)=k (mx e A a ((r:Int)-c) N1 m1 rc DP draw (.fz (.int s)) (.fz (.int c)) (.fz (.int n)) (.fz (.lst (e.pool.map D.str))) (.fz (.str (nameAt e n))) .un .un .un .un):=λk=>gs (by
   simp [mx,aX,aA,ak,fC,gt,gIx,bF,mdI,bY,pa])
  have e8:∀k,aJ (eX 10 (d8 aB)) k (mx e A a ((r:Int)-c) N1 m1 rc DP draw (.fz (.int s)) (.fz (.int c)) (.fz (.int n)) (.fz (.lst (e.pool.map D.str))) (.fz (.str (nameAt e n))) .un .un .un .un)=k (mvM e A a ((r:Int)-c) N1 m1 rc DP draw s c n (nameAt e n) [] .un .un .un):=λk=>gs (by
   simp [mx,mvM,eX,d8,aB])
  have e9:∀k,aJ L k (mvM e A a ((r:Int)-c) N1 m1 rc DP draw s c n (nameAt e n) [] .un .un .un)=k (mvM e A a' r' N' m' rc DP draw s c n (nameAt e n) ws t11 t12 t13):=λk=>gs eL
  have z1:ws.length<=16777216:=by omega
  refine zQ (m0:=mx e A a r N m rc DP draw .un .un .un .un .un .un .un .un .un) (m':=Me.let (mvM e A a' r' N' m' rc DP draw s c n (nameAt e n) ws t11 t12 t13)) (fr:=false) rfl start ?_ rfl (by simp [mvM,jr,Me.let,Sl.let]) (by simp [mvM,jr,Me.let,Sl.let])
  unfold jl
  rw [e1,e2,e3,e4,e5,e6,e7,e8,e9]
  simp [mvM,bD,Me.let,Sl.let,bA,aa,aB,fC,aG,aU,ak,fH,z1]
theorem XF {e:En}(E:nA e){Φ:Bf}{dep:Nat}(hΦ:SpB e Φ dep){a r:Nat}{N:Nd}{m:Int×Int}{rc:Rc}{draw:Int}(I:oH N m)(hN:N.1.length+1<=a)(har:a+r<=64)(h3:3<=r)(hr:Jj rc (dep+1))(hd:0<=draw/\draw<=9000000000):
  ∃(g:Gm) (a' r':Nat) (N':Nd) (m':Int×Int),(∀A:Addr×Addr,lA Φ [cD e,.int ((dep+1:Nat):Int),rcD rc,.int draw] (stD e A a r) (A.1,nD N) (A.2,mD m)=.ok (dG g,stD e A a' r',nD N',mD m'))/\oH N' m'/\Sub N N'/\N'.1.length<=a'/\r'+szG g=r+1/\a'+r'=a+r/\Grw e N' rc g (dep+1):=by
 obtain ⟨cN,hcN⟩:∃cN:Nat,(cN:Int)=1+draw / 16 % 3:=⟨(1+draw / 16 % 3).toNat,by omega⟩
 have hs:1+draw % 2=1\/1+draw % 2=2:=by omega
 have hpr:Pr (lW rc (1+draw % 2))/\oO (lW rc (1+draw % 2))=true:=by
  unfold lW
  split
  ·exact ⟨hr.1,hr.2.2.1⟩
  ·exact ⟨hr.2.1,hr.2.2.2.1⟩
 have hsz:N.1.length<1000:=by omega
 obtain ⟨n,N1,m1,en,n0,nv,I1,S1,l1⟩:=Qp (e:=e) (a:=a) (r:=r) (c:=(cN:Int)) (b:=draw / 48 % 2) I hs hpr.1 hsz
 have W:=λA:Addr×Addr=>Rx (A:=A) (φs:=cz) (φn:=cT) (L:=km Φ) (DP:=((dep+1:Nat):Int)) E rfl hcN rfl (en A)
 by_cases h8:8<=n
 ·obtain ⟨q,eq,hq⟩:=zM (x:=draw) hd
  exact ⟨.fin (rq q),a,r,N1,m1,λA=>(W A).1 h8 _ eq,I1,S1,by omega,rfl,rfl,Nq hq⟩
 ·have h8':n<8:=by omega
  have hsub:(r:Int)-(cN:Int)=((r-cN:Nat):Int):=by omega
  have t0:=E.t0
  obtain ⟨L,a',r',N',m',t11,t12,t13,eL,j1,j2,j3,j4,j5,j6,j7⟩:=KR E hΦ (rc:=rc) (draw:=draw) (cc:=(cN:Int)) (seen:=nameAt e n) hr hs ⟨n0,h8'⟩ (zc E _ (by omega)) cN 0 a (r-cN) N1 m1 [] .un .un .un I1 (by omega) (by omega) (by omega) (by simp;omega)
  have hL:L.length=cN:=by
   have:=congrArg List.length j6
   simpa using this
  have eL2:∀A:Addr×Addr,km Φ (mvM e A a ((r:Int)-(cN:Int)) N1 m1 rc ((dep+1:Nat):Int) draw (1+draw % 2) (cN:Int) n (nameAt e n) [] .un .un .un)=.ok (.nx,mvM e A a' r' N' m' rc ((dep+1:Nat):Int) draw (1+draw % 2) (cN:Int) n (nameAt e n) (L.map Kr) t11 t12 t13):=λA=>by
   have e1:(aa (ak 6) aB) (mvM e A a ((r:Int)-(cN:Int)) N1 m1 rc ((dep+1:Nat):Int) draw (1+draw % 2) (cN:Int) n (nameAt e n) [] .un .un .un)=.ok [.int (cN:Int)]:=by simp [mvM,aa,aB,ak]
   have e2:=BK e1 (by omega) (by omega)
   unfold km gZ
   rw [e2]
   show bJ (hName 11) (gD Φ) ((List.range cN).map λ(k:Nat)=>D.int k) _=_
   rw [List.range_eq_range',hsub]
   exact eL A
  have hw:=λA:Addr×Addr=>(W A).2 n0 h8' a' r' N' m' (L.map Kr) t11 t12 t13 (by simp;omega) (eL2 A)
  refine ⟨.move (1+draw % 2) (nameAt e n) (ofL L),a',r',N',m',λA=>?_,j1,S1.trans j2,j3,?_,by omega,RW hs (by omega) j7 ?_⟩
  ·have:dG (.move (1+draw % 2) (nameAt e n) (ofL L))=.tup [.str "move",.int (1+draw % 2),.str (nameAt e n),.tup (L.map Kr)]:=by
    show D.tup [_,_,_,.tup (dWs (ofL L))]=_
    rw [JZ];rfl
   rw [this]
   exact hw A
  ·show r'+(szW (ofL L)+1)=r+1
   rw [J9];omega
  ·refine ⟨lW rc (1+draw % 2),cN,draw / 48 % 2,n,hpr.1,hpr.2,j2 _ _ nv,n0,h8',by omega,rfl,?_⟩
   show D.tup [_,_,.tup (eV (ofL L)),_]=_
   rw [Dz,j6,List.range_eq_range']
noncomputable def bm (e:En)(A:Addr×Addr)(a r:Int)(N:Nd)(m:Int×Int)(rc:Rc)(dep:Int)(s4 s5 s6 s7 s8 s9:Sl):Me:=
 [.fz (cD e),.io (stD e A a r),.fz (.int dep),.fz (rcD rc),s4,s5,s6,s7,s8,s9,.hd false A.1 (nD N),.hd false A.2 (mD m)]
theorem dl_step {e:En}{Φ:Bf}{dep:Nat}(hΦ:SpB e Φ dep){a r:Nat}{N:Nd}{m:Int×Int}{rc:Rc}{s4 s5 s6 s7:Sl}{l:D}{ways:List D}(I:oH N m)(hN:N.1.length<=a)(har:a+r<=63)(hr:Jj rc (dep+1))(hw:ways.length<=100):
  ∃(g:Gm) (a' r':Nat) (N':Nd) (m':Int×Int),(∀A:Addr×Addr,jt Φ (bm e A a r N m rc (dep+1:Nat) s4 s5 s6 s7 (.ow (.lst ways)) (.fz l))=.ok (.nx,bm e A a' r' N' m' rc (dep+1:Nat) s4 s5 s6 s7 (.ow (.lst (ways++[.tup [l,dG g]]))) (.fz l)))/\
   oH N' m'/\Sub N N'/\N'.1.length<=a'/\r'+szG g=r+1/\a'+r'=a+r+1/\Grw e N' rc g dep:=by
 obtain ⟨h1,h2,h3,h4,h5,h6⟩:=hr
 obtain ⟨g,a',r',N',m',e1,i1,i2,i3,i4,i5,i6⟩:=hΦ a r N m rc I hN har ⟨h1,h2,h3,h4,by omega,by omega⟩
 refine ⟨g,a',r',N',m',λA=>?_,i1,i2,i3,i4,i5,i6⟩
 have e1:Φ [cD e,.int (dep:Int),rcD rc] (stD e A a r) (A.1,nD N) (A.2,mD m)=.ok (dG g,stD e A a' r',nD N',mD m'):=e1 A
 have z3:ways.length<16777216:=by omega
 have ed:((dep+1:Nat):Int) - 1=(dep:Int):=by omega
 simp only [bm]
 generalize hst:stD e A a r=ST at *
 generalize hst':stD e A (a':Int) (r':Int)=ST' at *
 generalize cD e=C at *
 generalize nD N=NN at *
 generalize nD N'=NN' at *
 generalize mD m=MM at *
 generalize mD m'=MM' at *
 generalize rcD rc=RC at *
 generalize hdp:((dep+1:Nat):Int)=DP at *
 simp [jt,pG,jL,putL,Cr,qT,fX,aG,uA,FQ,vM,aa,aB,aA,ak,fC,F.dB,ed,e1,yx,Dh,z3]
theorem M7 {e:En}{Φ:Bf}{dep:Nat}(hΦ:SpB e Φ dep){rc:Rc}{s4 s5 s6 s7:Sl}(hr:Jj rc (dep+1)):
  ∀(ls:List D) (a r:Nat) (N:Nd) (m:Int×Int) (ways:List D) (s9:Sl),oH N m->N.1.length<=a->a+r+ls.length<=64->ways.length+ls.length<=100->
  ∃(L:List (D×Gm)) (a' r':Nat) (N':Nd) (m':Int×Int) (t9:Sl),(∀A:Addr×Addr,bJ (hName 9) (jt Φ) ls (bm e A a r N m rc (dep+1:Nat) s4 s5 s6 s7 (.ow (.lst ways)) s9)=.ok (.nx,bm e A a' r' N' m' rc (dep+1:Nat) s4 s5 s6 s7 (.ow (.lst (ways++L.map Kr))) t9))/\
   oH N' m'/\Sub N N'/\N'.1.length<=a'/\r'+szL L=r+ls.length/\a'+r'=a+r+ls.length/\L.map (·.1)=ls/\∀p∈L,Grw e N' rc p.2 dep
 |[],a,r,N,m,ways,s9,I,hN,har,hw=>⟨[],a,r,N,m,s9,λA=>by simp [bJ],I,Sub.refl N,hN,by simp [szL],by simp,rfl,λ_ z=>by cases z⟩
 |l::ls,a,r,N,m,ways,s9,I,hN,har,hw=>by
  have har':a+r+(ls.length+1)<=64:=har
  have hw':ways.length+(ls.length+1)<=100:=hw
  obtain ⟨g,a1,r1,N1,m1,e1,i1,i2,i3,i4,i5,i6⟩:=dl_step hΦ (a:=a) (r:=r) (s4:=s4) (s5:=s5) (s6:=s6) (s7:=s7) (l:=l) I hN (by omega) hr (by omega:ways.length<=100)
  obtain ⟨L,a',r',N',m',u9,e2,j1,j2,j3,j4,j5,j6,j7⟩:=M7 hΦ (s4:=s4) (s5:=s5) (s6:=s6) (s7:=s7) hr ls a1 r1 N1 m1 (ways++[.tup [l,dG g]]) (.fz l) i1 i3 (by omega) (by simp;omega)
  refine ⟨(l,g)::L,a',r',N',m',u9,λA=>?_,j1,i2.trans j2,j3,?_,by simp;omega,by rw [List.map_cons,j6],λp hp=>?_⟩
  ·rw [cM (m1:=bm e A a r N m rc (dep+1:Nat) s4 s5 s6 s7 (.ow (.lst ways)) (.fz l)) rfl (e1 A),e2 A,List.append_assoc]
   rfl
  ·show r'+(szG g+szL L)=r+(ls.length+1)
   omega
  ·rcases List.mem_cons.mp hp with q | q
   ·rw [q];exact i6.mono j2
   ·exact j7 p q
theorem O5 {e:En}(E:nA e):∃v:Int,atI (e.cells.map D.int) (-1)=some (.int v):=by
 have h:=E.c1
 have hne:e.cells≠[]:=λz=>by rw [z] at h;simp at h
 refine ⟨e.cells.getLast hne,?_⟩
 have:=Rn (e.cells.dropLast.map D.int) (D.int (e.cells.getLast hne))
 rwa [← List.map_singleton,← List.map_append,List.dropLast_concat_getLast hne] at this
theorem Je {e:En}{i:Nat}(h:i<e.cells.length):∃v:Int,atI (e.cells.map D.int) (i:Int)=some (.int v):=by
 refine ⟨e.cells[i],kj ?_⟩
 rw [List.getElem?_map,List.getElem?_eq_getElem h]
 rfl
theorem Sh {e:En}{i:Int}(h0:0<=i)(h:i<e.cells.length):∃v:Int,atI (e.cells.map D.int) i=some (.int v):=by
 obtain ⟨v,hv⟩:=Je (e:=e) (i:=i.toNat) (by omega)
 exact ⟨v,by rwa [show ((i.toNat:Nat):Int)=i by omega] at hv⟩
section
variable {e:En}{A:Addr×Addr}{a r dep:Nat}{N:Nd}{m:Int×Int}{rc:Rc}
theorem bs1 (k:Zab):aJ (aX 4 (aA cg (ak 1) (fC (.str "at")))) k (bm e A a r N m rc dep .un .un .un .un .un .un)=k (bm e A a r N m rc dep (.fz (.int a)) .un .un .un .un .un):=gs (by
 have g:=abN e A a r
 simp [bm,aX,aA,ak,fC,g])
theorem bs2 (k:Zab):aJ (iM 1 (fC (.str "at")) (aA bY (ak 4) (fC (.int 1)))) k (bm e A a r N m rc dep (.fz (.int a)) .un .un .un .un .un)=k (bm e A (a+1:Nat) r N m rc dep (.fz (.int a)) .un .un .un .un .un):=gs (by
 have:=aab (e:=e) (A:=A) (a:=a) (r:=r) (a':=((a+1:Nat):Int)) (fk:=fC (.str "at")) (fv:=aA bY (ak 4) (fC (.int 1))) (i:=1) (m:=bm e A a r N m rc dep (.fz (.int a)) .un .un .un .un .un) rfl rfl (by simp [bm,aA,ak,fC,bY])
 exact this)
theorem bs3 (E:nA e)(ha:a<=64)(h:e.cells.length<=a):∃q:Rat,smQ (rq q)/\∀(A:Addr×Addr) k,aJ (gIf (aR gGe (ak 4) (aU dW (aa (ak 0) aB))) (bD (bA (aa (fC (.str "end")) (aa (fFn cz (aa (fFn cB (aa (aA bY (aA gIx (ak 0) (fUn uO (fC (.int 1)))) (aA f9 (ak 4) (ak 4))) (aa (aG 4) aB))) aB)) aB)))) gNx) k (bm e A (a+1:Nat) r N m rc dep (.fz (.int a)) .un .un .un .un .un)=.ok (.rt false (dG (.fin (rq q))),bm e A (a+1:Nat) r N m rc dep (.fz (.int a)) .un .un .un .un .un):=by
 obtain ⟨v,hv⟩:=O5 E
 obtain ⟨x,ex,hx⟩:=xF (v+(a:Int)*a) a (by omega)
 obtain ⟨q,eq,hq⟩:=zM (x:=x) ⟨hx.1,by have:=hx.2;omega⟩
 refine ⟨q,hq,λA k=>Nt ?_⟩
 have ba:Bq (a:Int):=bgS (by omega)
 have hge:(a:Int) ≥ (e.cells.length:Int):=by omega
 have en:-(1:Int)=-1:=rfl
 show _=Res.ok (Fl.rt false (.tup [.str "end",rD q]),_)
 simp only [bm]
 generalize stD e A ((a+1:Nat):Int) (r:Int)=ST
 generalize cz=FS at *
 generalize cB=FM at *
 simp [cD,gIf,aR,ak,aU,dW,aa,aB,gGe,hge,bD,Me.let,Sl.let,bA,fC,fFn,aA,fUn,uO,gIx,hv,f9,ba,bY,aG,ex,eq]
theorem aao (k:Zab){X:Zab}(h:a<e.cells.length):aJ (gIf (aR gGe (ak 4) (aU dW (aa (ak 0) aB))) X gNx) k (bm e A (a+1:Nat) r N m rc dep (.fz (.int a)) .un .un .un .un .un)=k (bm e A (a+1:Nat) r N m rc dep (.fz (.int a)) .un .un .un .un .un):=gs (by
 have hge:¬(a:Int) ≥ (e.cells.length:Int):=by omega
 simp only [bm]
 generalize stD e A ((a+1:Nat):Int) (r:Int)=ST
 simp [cD,gIf,aR,ak,aU,dW,aa,aB,gGe,hge,gNx])
theorem bs4 (h:a<e.cells.length)(ha:a<=64):∃x,sm x/\∀(A:Addr×Addr) k,aJ (aX 5 (fFn cB (aa (aA gIx (ak 0) (ak 4)) (aa (aG 4) aB)))) k (bm e A (a+1:Nat) r N m rc dep (.fz (.int a)) .un .un .un .un .un)=k (bm e A (a+1:Nat) r N m rc dep (.fz (.int a)) (.fz (.int x)) .un .un .un .un):=by
 obtain ⟨v,hv⟩:=Je h
 obtain ⟨x,ex,hx⟩:=xF v a (by omega)
 refine ⟨x,hx,λA k=>gs ?_⟩
 simp only [bm]
 generalize stD e A ((a+1:Nat):Int) (r:Int)=ST
 generalize cB=FM at *
 simp [cD,aX,fFn,aa,aB,aA,gIx,ak,aG,hv,ex]
theorem bs5 (k:Zab){x:Int}:aJ (aX 6 (aG 5)) k (bm e A (a+1:Nat) r N m rc dep (.fz (.int a)) (.fz (.int x)) .un .un .un .un)=k (bm e A (a+1:Nat) r N m rc dep (.fz (.int a)) (.fz (.int x)) (.fz (.int x)) .un .un .un):=gs rfl
theorem bs6 (E:nA e)(hd:dep<=12){x:Int}(hx:sm x):∃y:Int,(0<=y/\y<=9000000000)/\∀(A:Addr×Addr) k,aJ (gIf (fTv (aA cg (ak 1) (fC (.str "level")))) (aX 6 (aA bY (aA dB (ak 5) (aA bF (ak 5) (fC (.int 48)))) (aA bF (fFn cB (aa (aA gIx (ak 0) (aA bF (ak 2) (aU dW (aa (ak 0) aB)))) (aa (aG 2) aB))) (fC (.int 48))))) gNx) k (bm e A (a+1:Nat) r N m rc dep (.fz (.int a)) (.fz (.int x)) (.fz (.int x)) .un .un .un)=k (bm e A (a+1:Nat) r N m rc dep (.fz (.int a)) (.fz (.int x)) (.fz (.int y)) .un .un .un):=by
 have gl:=λA:Addr×Addr=>Ti e A ((a+1:Nat):Int) r
 cases hl:e.lev with
 |false=>
  rw [hl] at gl
  refine ⟨x,⟨hx.1,by have:=hx.2;omega⟩,λA k=>gs ?_⟩
  replace gl:=gl A
  simp only [bm]
  generalize stD e A ((a+1:Nat):Int) (r:Int)=ST at *
  simp [gIf,fTv,aA,ak,fC,gl,gNx]
 |true=>
  rw [hl] at gl
  have hc:=E.c1
  have hpos:(0:Int)<(e.cells.length:Int):=by omega
  obtain ⟨v,hv⟩:=Sh (e:=e) (i:=(dep:Int) % (e.cells.length:Int)) (Int.emod_nonneg _ (by omega)) (Int.emod_lt_of_pos _ hpos)
  obtain ⟨y,ey,hy⟩:=xF v dep (by omega)
  have hne:(e.cells.length:Int)≠0:=by omega
  have hne2:e.cells.length≠0:=by omega
  have hne3:e.cells≠[]:=λz=>by rw [z] at hc;simp at hc
  have hc':0<e.cells.length:=by omega
  refine ⟨x-x % 48+y % 48,⟨by have:=hx.1;omega,by have:=hx.2;omega⟩,λA k=>gs ?_⟩
  replace gl:=gl A
  simp only [bm]
  generalize stD e A ((a+1:Nat):Int) (r:Int)=ST at *
  generalize cB=FM at *
  simp [cD,gIf,fTv,aA,ak,fC,gl,aX,bF,mdI,bY,F.dB,fFn,aa,aB,gIx,aU,dW,hne,hne2,hne3,hpos,hc',hv,aG,ey]
end
section
variable {e:En}{A:Addr×Addr}{a r dep:Nat}{N:Nd}{m:Int×Int}{rc:Rc}{x y:Int}
noncomputable abbrev yo:Zaf:=(rM (aR gEq (ak 2) (fC (.int 0))) (rM (aR gLt (aA cg (ak 1) (fC (.str "room"))) (fC (.int 3))) (qJ (aR gEq (aA bF (ak 6) (fC (.int 8))) (fC (.int 0))) (aR gGt (ak 4) (fC (.int 0))))))
theorem c7:yo (bm e A (a+1:Nat) r N m rc dep (.fz (.int a)) (.fz (.int x)) (.fz (.int y)) .un .un .un)=.ok (decide (dep=0\/r<3\/(y % 8=0/\0<a))):=by
 have gr:=Fq e A ((a+1:Nat):Int) r
 simp only [bm]
 generalize stD e A ((a+1:Nat):Int) (r:Int)=ST at *
 by_cases h1:dep=0
 ·simp [yo,rM,aR,ak,fC,h1]
 ·have h1':¬(dep:Int)=0:=by omega
  by_cases h2:r<3
  ·have h2':(r:Int)<3:=by omega
   simp [yo,rM,aR,ak,fC,h1,h1',aA,gr,gLt,h2,h2']
  ·have h2':¬(r:Int)<3:=by omega
   by_cases h3:y % 8=0
   ·have h3':y.emod 8=0:=h3
    by_cases h4:0<a
    ·have h4':(a:Int) > 0:=by omega
     simp [yo,rM,qJ,aR,ak,fC,h1,h1',aA,gr,gLt,h2,h2',bF,mdI,h3,gGt,h4,h4']
    ·have h4':¬(a:Int) > 0:=by omega
     simp [yo,rM,qJ,aR,ak,fC,h1,h1',aA,gr,gLt,h2,h2',bF,mdI,h3,gGt,h4,h4']
   ·simp [yo,rM,qJ,aR,ak,fC,h1,h1',aA,gr,gLt,h2,h2',bF,mdI,h3]
theorem bs7 (hx:sm x)(h:dep=0\/r<3\/(y % 8=0/\0<a)):∃q:Rat,smQ (rq q)/\∀(A:Addr×Addr) k,aJ (gIf yo (bD (bA (aa (fC (.str "end")) (aa (fFn cz (aa (aG 5) aB)) aB)))) gNx) k (bm e A (a+1:Nat) r N m rc dep (.fz (.int a)) (.fz (.int x)) (.fz (.int y)) .un .un .un)=.ok (.rt false (dG (.fin (rq q))),bm e A (a+1:Nat) r N m rc dep (.fz (.int a)) (.fz (.int x)) (.fz (.int y)) .un .un .un):=by
 obtain ⟨q,eq,hq⟩:=zM (x:=x) ⟨hx.1,by have:=hx.2;omega⟩
 refine ⟨q,hq,λA k=>Nt ?_⟩
 have c:=c7 (e:=e) (A:=A) (a:=a) (r:=r) (dep:=dep) (N:=N) (m:=m) (rc:=rc) (x:=x) (y:=y)
 rw [decide_eq_true h] at c
 unfold gIf
 rw [c]
 show bD _ _=Res.ok (Fl.rt false (.tup [.str "end",rD q]),_)
 simp only [bm]
 generalize stD e A ((a+1:Nat):Int) (r:Int)=ST
 generalize cz=FS at *
 simp [bD,Me.let,Sl.let,bA,aa,aB,fC,fFn,aG,eq]
theorem abi (k:Zab){X:Zab}(h:¬(dep=0\/r<3\/(y % 8=0/\0<a))):aJ (gIf yo X gNx) k (bm e A (a+1:Nat) r N m rc dep (.fz (.int a)) (.fz (.int x)) (.fz (.int y)) .un .un .un)=k (bm e A (a+1:Nat) r N m rc dep (.fz (.int a)) (.fz (.int x)) (.fz (.int y)) .un .un .un):=gs (by
 have c:=c7 (e:=e) (A:=A) (a:=a) (r:=r) (dep:=dep) (N:=N) (m:=m) (rc:=rc) (x:=x) (y:=y)
 rw [decide_eq_false h] at c
 unfold gIf
 rw [c]
 rfl)
theorem bs8 (h:y % 8 > 2){Ψ:Bf}{d:D}{a' r':Nat}{N':Nd}{m':Int×Int}(eΨ:Ψ [cD e,.int (dep:Int),rcD rc,.int y] (stD e A (a+1:Nat) r) (A.1,nD N) (A.2,mD m)=.ok (d,stD e A a' r',nD N',mD m'))(k:Zab):
  aJ (gIf (aR gGt (aA bF (ak 6) (fC (.int 8))) (fC (.int 2))) (uh (uA Ψ 1 1 10 11 (aa (aG 0) (aa (aG 2) (aa (aG 3) (aa (aG 6) aB)))))) gNx) k (bm e A (a+1:Nat) r N m rc dep (.fz (.int a)) (.fz (.int x)) (.fz (.int y)) .un .un .un)=.ok (.rt false d,bm e A a' r' N' m' rc dep (.fz (.int a)) (.fz (.int x)) (.fz (.int y)) .un .un .un):=Nt (by
 simp only [bm]
 generalize stD e A ((a+1:Nat):Int) (r:Int)=ST at *
 generalize stD e A (a':Int) (r':Int)=ST' at *
 generalize cD e=C at *
 generalize nD N=NN at *
 generalize nD N'=NN' at *
 generalize mD m=MM at *
 generalize mD m'=MM' at *
 generalize rcD rc=RC at *
 simp [gIf,aR,aA,ak,fC,bF,mdI,gGt,h,uh,uA,FQ,vM,aa,aB,aG,eΨ,yx])
theorem acd (h:¬y % 8 > 2){X:Zab}(k:Zab):
  aJ (gIf (aR gGt (aA bF (ak 6) (fC (.int 8))) (fC (.int 2))) X gNx) k (bm e A (a+1:Nat) r N m rc dep (.fz (.int a)) (.fz (.int x)) (.fz (.int y)) .un .un .un)=k (bm e A (a+1:Nat) r N m rc dep (.fz (.int a)) (.fz (.int x)) (.fz (.int y)) .un .un .un):=gs (by
 simp only [bm]
 generalize stD e A ((a+1:Nat):Int) (r:Int)=ST at *
 simp [gIf,aR,aA,ak,fC,bF,mdI,gGt,h,gNx])
theorem bs9 {c:Int}(hc:c=1+y / 16 % 3)(k:Zab):aJ (aX 7 (aA bY (fC (.int 1)) (aA bF (aA dC (ak 6) (fC (.int 16))) (fC (.int 3))))) k (bm e A (a+1:Nat) r N m rc dep (.fz (.int a)) (.fz (.int x)) (.fz (.int y)) .un .un .un)=k (bm e A (a+1:Nat) r N m rc dep (.fz (.int a)) (.fz (.int x)) (.fz (.int y)) (.fz (.int c)) .un .un):=gs (by
 have b16:Bq 16:=bgS (by decide)
 simp only [bm]
 generalize stD e A ((a+1:Nat):Int) (r:Int)=ST at *
 simp [aX,aA,ak,fC,bF,mdI,bY,dC,dvI,b16,hc])
theorem acN {c:Int}{r1:Nat}(hr:(r:Int)-c=r1)(k:Zab):aJ (iM 1 (fC (.str "room")) (aA dB (aA cg (ak 1) (fC (.str "room"))) (ak 7))) k (bm e A (a+1:Nat) r N m rc dep (.fz (.int a)) (.fz (.int x)) (.fz (.int y)) (.fz (.int c)) .un .un)=k (bm e A (a+1:Nat) r1 N m rc dep (.fz (.int a)) (.fz (.int x)) (.fz (.int y)) (.fz (.int c)) .un .un):=gs (by
 have gr:=Fq e A ((a+1:Nat):Int) r
 have:=Hk (e:=e) (A:=A) (a:=((a+1:Nat):Int)) (r:=r) (r':=(r1:Int)) (fk:=fC (.str "room")) (fv:=aA dB (aA cg (ak 1) (fC (.str "room"))) (ak 7)) (i:=1) (m:=bm e A (a+1:Nat) r N m rc dep (.fz (.int a)) (.fz (.int x)) (.fz (.int y)) (.fz (.int c)) .un .un) rfl rfl (by simp only [bm];generalize stD e A ((a+1:Nat):Int) (r:Int)=ST at *;simp [aA,ak,fC,gr,F.dB,hr])
 exact this)
theorem acX {c:Int}(k:Zab):aJ (eX 8 (d8 aB)) k (bm e A (a+1:Nat) r N m rc dep (.fz (.int a)) (.fz (.int x)) (.fz (.int y)) (.fz (.int c)) .un .un)=k (bm e A (a+1:Nat) r N m rc dep (.fz (.int a)) (.fz (.int x)) (.fz (.int y)) (.fz (.int c)) (.ow (.lst [])) .un):=gs rfl
theorem acr (E:nA e){ws:List D}{s4 s6 s7 s9:Sl}(hw:ws.length<=100):bD (bA (aa (fC (.str "deal")) (aa (aA gIx (aA cg (ak 1) (fC (.str "pool"))) (aA bF (aA dC (ak 5) (fC (.int 48))) (fC (.int 8)))) (aa (aU fH (aa (ak 8) aB)) aB)))) (bm e A a r N m rc dep s4 (.fz (.int y)) s6 s7 (.ow (.lst ws)) s9)=.ok (.rt false (.tup [.str "deal",.str (e.pool.getD (y / 48 % 8).toNat ⟨#[]⟩),.tup ws]),Me.let (bm e A a r N m rc dep s4 (.fz (.int y)) s6 s7 (.ow (.lst ws)) s9)):=by
 have gp:=My e A a r
 have pa:=Eu E (i:=y / 48 % 8) (by omega)
 have b48:Bq 48:=bgS (by decide)
 have z1:ws.length<=16777216:=by omega
 generalize e.pool.getD (y / 48 % 8).toNat ⟨#[]⟩=Z at *
 simp only [bm]
 generalize stD e A (a:Int) (r:Int)=ST at *
 simp [bD,Me.let,Sl.let,bA,aa,aB,fC,aA,ak,gp,gIx,bF,mdI,dC,dvI,b48,pa,aU,fH,z1]
end
theorem xm {e:En}{A:Addr×Addr}{a r:Int}{N:Nd}{m:Int×Int}{rc:Rc}{dep:Int}{s4 s5 s6 s7 s8 s9:Sl}:pO (bm e A a r N m rc dep s4 s5 s6 s7 s8 s9) 1=some (stD e A a r)/\jr (bm e A a r N m rc dep s4 s5 s6 s7 s8 s9) (12 - 2) A.1=some (nD N)/\jr (bm e A a r N m rc dep s4 s5 s6 s7 s8 s9) (12 - 1) A.2=some (mD m):=⟨rfl,by simp [bm,jr],by simp [bm,jr]⟩
theorem Ed {e:En}{A:Addr×Addr}{a r:Int}{N:Nd}{m:Int×Int}{rc:Rc}{dep:Int}{s4 s5 s6 s7 s8 s9:Sl}:pO (Me.let (bm e A a r N m rc dep s4 s5 s6 s7 s8 s9)) 1=some (stD e A a r)/\jr (Me.let (bm e A a r N m rc dep s4 s5 s6 s7 s8 s9)) (12 - 2) A.1=some (nD N)/\jr (Me.let (bm e A a r N m rc dep s4 s5 s6 s7 s8 s9)) (12 - 1) A.2=some (mD m):=⟨rfl,by simp [bm,jr,Me.let,Sl.let],by simp [bm,jr,Me.let,Sl.let]⟩
theorem V4 {FS:Zac}{B:Zab}{e:En}{A:Addr×Addr}{a r:Int}{N:Nd}{m:Int×Int}{rc:Rc}{dep:Int}{s4 s6 s8 s9:Sl}{x c:D}{ls:List D}{R:Res (Fl×Me)}(h:FS [x,c]=.ok (true,.lst ls))(k:bJ (hName 9) B ls (bm e A a r N m rc dep s4 (.fz x) s6 (.fz c) s8 s9)=R):
  gZ (jH (fFn FS (aa (aG 5) (aa (aG 7) aB)))) (hName 9) B (bm e A a r N m rc dep s4 (.fz x) s6 (.fz c) s8 s9)=R:=by
 have e1:jH (fFn FS (aa (aG 5) (aa (aG 7) aB))) (bm e A a r N m rc dep s4 (.fz x) s6 (.fz c) s8 s9)=.ok ls:=by
  simp only [bm]
  generalize stD e A a r=ST
  simp [jH,fFn,aa,aB,aG,h]
 unfold gZ
 rw [e1]
 exact k
theorem Kz (n:Nat):bf (n+1)=F.runST 1 12 4 (dN cz cB (bf n) (fM (bf n))):=by rw [bf]
theorem JQ {e:En}(E:nA e){n dep:Nat}(hd:dep<=12)(ih:∀d,d+1=dep->SpB e (bf n) d):SpB e (bf (n+1)) dep:=by
 rw [Kz]
 intro a r N m rc I hN har hr
 have start:∀A:Addr×Addr,jM 1 (.io (stD e A a r)) ([cD e,.int (dep:Int),rcD rc].map Sl.fz)++(List.replicate (12 - 4 - 2) Sl.un++[.hd false (A.1,nD N).1 (A.1,nD N).2,.hd false (A.2,mD m).1 (A.2,mD m).2])=bm e A a r N m rc dep .un .un .un .un .un .un:=λ_=>rfl
 have fin:∀(q:Rat) (s4 s5 s6 s7 s8 s9:Sl),smQ (rq q)->(∀A:Addr×Addr,(dN cz cB (bf n) (fM (bf n))) (bm e A a r N m rc dep .un .un .un .un .un .un)=.ok (.rt false (dG (.fin (rq q))),bm e A (a+1:Nat) r N m rc dep s4 s5 s6 s7 s8 s9))->Gives e (λA=>F.runST 1 12 4 (dN cz cB (bf n) (fM (bf n))) [cD e,.int (dep:Int),rcD rc] (stD e A a r) (A.1,nD N) (A.2,mD m)) a r N rc dep:=λq s4 s5 s6 s7 s8 s9 hq eq=>
  ⟨.fin (rq q),a+1,r,N,m,λA=>zQ rfl (start A) (eq A) xm.1 xm.2.1 xm.2.2,I,Sub.refl N,by omega,rfl,by omega,Nq hq⟩
 by_cases h1:e.cells.length<=a
 ·obtain ⟨q,hq,eq⟩:=bs3 (r:=r) (N:=N) (m:=m) (rc:=rc) (dep:=dep) E (by omega) h1
  refine fin q (.fz (.int a)) .un .un .un .un .un hq λA=>?_
  unfold dN
  rw [bs1,bs2,eq]
 have h1:a<e.cells.length:=by omega
 obtain ⟨x,hx,e4⟩:=bs4 (r:=r) (N:=N) (m:=m) (rc:=rc) (dep:=dep) h1 (by omega)
 obtain ⟨y,hy,e6⟩:=bs6 (a:=a) (r:=r) (N:=N) (m:=m) (rc:=rc) E hd hx
 by_cases h7:dep=0\/r<3\/(y % 8=0/\0<a)
 ·obtain ⟨q,hq,eq⟩:=bs7 (e:=e) (N:=N) (m:=m) (rc:=rc) hx h7
  refine fin q (.fz (.int a)) (.fz (.int x)) (.fz (.int y)) .un .un .un hq λA=>?_
  unfold dN
  rw [bs1,bs2,aao _ h1,e4,bs5,e6,eq]
 obtain ⟨dep,rfl⟩:∃d,dep=d+1:=⟨dep - 1,by omega⟩
 have hΦ:=ih dep rfl
 by_cases h8:y % 8 > 2
 ·obtain ⟨g,a',r',N',m',em,j1,j2,j3,j4,j5,j6⟩:=XF E hΦ (a:=a+1) (r:=r) (draw:=y) I (by omega) (by omega) (by omega) hr hy
  refine ⟨g,a',r',N',m',λA=>zQ (fr:=false) (m':=bm e A a' r' N' m' rc ((dep+1:Nat):Int) (.fz (.int a)) (.fz (.int x)) (.fz (.int y)) .un .un .un) rfl (start A) ?_ xm.1 xm.2.1 xm.2.2,j1,j2,j3,j4,by omega,j6⟩
  unfold dN
  rw [bs1,bs2,aao _ h1,e4,bs5,e6,abi _ h7,bs8 h8 (em A)]
 obtain ⟨cN,hcN⟩:∃cN:Nat,(cN:Int)=1+y / 16 % 3:=⟨(1+y / 16 % 3).toNat,by omega⟩
 obtain ⟨l,el,hl,hl2,hl3⟩:=Kq (x:=x) (c:=cN) hx (by omega)
 obtain ⟨L,a',r',N',m',t9,eL,j1,j2,j3,j4,j5,j6,j7⟩:=M7 hΦ (rc:=rc) (s4:=.fz (.int a)) (s5:=.fz (.int x)) (s6:=.fz (.int y)) (s7:=.fz (.int (cN:Int))) hr (l.map rD) (a+1) (r-cN) N m [] .un I (by omega) (by simp;omega) (by simp;omega)
 rw [List.length_map,hl2] at j4 j5
 have hL:L.length=cN:=by
  have:=congrArg List.length j6
  simpa [hl2] using this
 have eL2:∀A:Addr×Addr,fM (bf n) (bm e A (a+1:Nat) (r-cN:Nat) N m rc ((dep+1:Nat):Int) (.fz (.int a)) (.fz (.int x)) (.fz (.int y)) (.fz (.int (cN:Int))) (.ow (.lst [])) .un)=.ok (.nx,bm e A a' r' N' m' rc ((dep+1:Nat):Int) (.fz (.int a)) (.fz (.int x)) (.fz (.int y)) (.fz (.int (cN:Int))) (.ow (.lst (L.map Kr))) t9):=λA=>by
  unfold fM
  exact V4 el (eL A)
 refine ⟨.deal (e.pool.getD (x / 48 % 8).toNat ⟨#[]⟩) (ofL L),a',r',N',m',λA=>zQ (fr:=false) (m':=Me.let (bm e A a' r' N' m' rc ((dep+1:Nat):Int) (.fz (.int a)) (.fz (.int x)) (.fz (.int y)) (.fz (.int (cN:Int))) (.ow (.lst (L.map Kr))) t9)) rfl (start A) ?_ Ed.1 Ed.2.1 Ed.2.2,j1,j2,j3,?_,by omega,Rz (by omega) j7 ?_ ?_⟩
 ·unfold dN
  rw [bs1,bs2,aao _ h1,e4,bs5,e6,abi _ h7,acd h8,bs9 hcN,acN (r1:=r-cN) (by omega),acX,gs (eL2 A),acr E (by simp;omega)]
  show _=Res.ok (Fl.rt false (D.tup [_,_,.tup (dWs (ofL L))]),_)
  rw [JZ];rfl
 ·show r'+(szW (ofL L)+1)=r+1
  rw [J9];omega
 ·exact ⟨l,by rw [Dz,j6],hl,by omega,hl3⟩
 ·have hlt:(x / 48 % 8).toNat<e.pool.length:=by rw [E.p8];omega
  rw [List.getD_eq_getElem?_getD,List.getElem?_eq_getElem hlt]
  exact List.getElem_mem hlt
theorem Ho {e:En}(E:nA e):∀(n dep:Nat),dep+1<=n->dep<=12->SpB e (bf n) dep
 |0,dep,h,_=>by omega
 |n+1,dep,h,hd=>JQ E hd λd hd'=>Ho E n d (by omega) (by omega)
theorem getD_inj {l:List Str}(nd:l.Nodup){i j:Nat}{d:Str}(hi:i<l.length)(hj:j<l.length)(h:l.getD i d=l.getD j d):i=j:=by
 rw [List.getD_eq_getElem?_getD,List.getD_eq_getElem?_getD,List.getElem?_eq_getElem hi,List.getElem?_eq_getElem hj] at h
 have h:l[i]=l[j]:=h
 rcases Nat.lt_trichotomy i j with q | q | q
 ·exact absurd h ((List.pairwise_iff_getElem.mp nd) i j hi hj q)
 ·exact q
 ·exact absurd h.symm ((List.pairwise_iff_getElem.mp nd) j i hj hi q)
theorem Xv {e:En}(E:nA e)(nd:e.pool.Nodup){N:Nd}{m:Int×Int}(I:oH N m){s:Int}{nm:Str}{d d':D}(hs:s=1\/s=2)(h:Row e N s nm d)(h':Row e N s nm d'):d=d':=by
 obtain ⟨rc,c,b,n,h1,h2,h3,h4,h5,h6,h7,rfl⟩:=h
 obtain ⟨rc',c',b',n',k1,k2,k3,k4,k5,k6,k7,rfl⟩:=h'
 have hn:nameAt e n=nameAt e n':=by rw [← h7,← k7]
 have p8:=E.p8
 have:=getD_inj nd (by rw [p8];omega) (by rw [p8];omega) hn
 have t0:=E.t0
 have e1:n=n':=by omega
 subst e1
 obtain ⟨q1,q2⟩:=I.inj s rc c b rc' c' b' _ hs h1 k1 h3 k3
 have q2:c=c':=by omega
 subst q1 q2
 rfl
theorem zO {e:En}(E:nA e)(n:Int):∀l:List Nat,oO (l.map λ(k:Nat)=>D.str (wordAt e n k))=true/\m7 (l.map λ(k:Nat)=>D.str (wordAt e n k))=0
 |[]=>⟨rfl,rfl⟩
 |k::l=>by
  obtain ⟨h1,h2⟩:=zO E n l
  have hw:PyData.strOk (wordAt e n k)=true:=zc E _ (by have:=E.t0;omega)
  exact ⟨by simp [oO,okD,hw,h1],by simp [m7,pZ,h2]⟩
theorem Ud:∀{rc:List D},Pr rc->m7 rc<=1
 |[],_=>Nat.zero_le _
 |d::rc,h=>by
  obtain ⟨a,b,rfl⟩:=h d List.mem_cons_self
  have:=Ud λx hx=>h x (List.mem_cons_of_mem _ hx)
  simp [m7,pZ]
  omega
theorem XJ {e:En}(E:nA e)(n:Int):PyData.strOk (nameAt e n)=true:=zc E _ (by have:=E.t0;omega)
theorem QG {e:En}(E:nA e){N:Nd}{s:Int}{nm:Str}{d:D}(h:Row e N s nm d):okR d:=by
 obtain ⟨rc,c,b,n,h1,h2,h3,h4,h5,h6,rfl,rfl⟩:=h
 obtain ⟨w1,w2⟩:=zO E n (List.range c)
 have hp:=Ud h1
 have hn:=XJ E n
 refine ⟨by simp [okD,oO,hn,w1,h2],?_⟩
 simp only [pZ,m7,w2]
 omega
mutual
theorem Oh:∀(w:List Int) (r:Rc) (g:Gm),iw g->∀p∈prG w r g,iw p.2.1
 |w,r,.fin d,h,p,hp=>by
  have:p=(w,.fin d,r):=by simpa [prG] using hp
  rw [this];exact h
 |w,r,.deal n ws,h,p,hp=>by
  rcases List.mem_cons.mp (show p∈(w,Gm.deal n ws,r)::prW w (λ_=>r) 0 ws from hp) with e | e
  ·rw [e];exact h
  ·exact Eh w _ 0 ws h.2 p e
 |w,r,.move s n ws,h,p,hp=>by
  rcases List.mem_cons.mp (show p∈(w,Gm.move s n ws,r)::prW w (rbm s n r) 0 ws from hp) with e | e
  ·rw [e];exact h
  ·exact Eh w _ 0 ws h.2 p e
theorem Eh:∀(w:List Int) (f:D->Rc) (i:Nat) (ws:Ws),yh ws->∀p∈prW w f i ws,iw p.2.1
 |w,f,i,.nil,_,p,hp=>by cases hp
 |w,f,i,.cons l g r,h,p,hp=>by
  rcases List.mem_append.mp (show p∈prG (w++[(i:Int)]) (f l) g++prW w f (i+1) r from hp) with e | e
  ·exact Oh _ _ g h.1 p e
  ·exact Eh w f (i+1) r h.2 p e
end
noncomputable def nmD:D->Str
 | .tup [_,.str n,_,_]=>n
 |_=>⟨#[]⟩
noncomputable def kOf (d:D):List Kt:=kn (sdD d) (nmD d)
def TI (T:Tb):Prop:=T.1=T.2.map kOf/\T.1.Nodup
theorem Wg {T:Tb}(h:TI T)(p:Tr):TI (tst T p):=by
 unfold tst
 split
 ·rename_i s n ws ep
  split
  ·exact h
  ·rename_i q
   have hl:T.1.length=T.2.length:=by rw [h.1];simp
   have hn:kn s n∉T.1:=λhk=>by
    have:∀{ks:List (List Kt)} {ds:List D},ks.length=ds.length->kn s n∈ks->(cF ks ds (kn s n)).isSome=true:=by
     intro ks
     induction ks with
     |nil=>intro ds _ h;cases h
     |cons a ks ih=>
      intro ds hl h
      cases ds with
      |nil=>simp at hl
      |cons x ds=>
       unfold cF
       by_cases qa:a=kn s n
       ·rw [if_pos qa];rfl
       ·rw [if_neg qa]
        rcases List.mem_cons.mp h with e | e
        ·exact absurd e.symm qa
        ·exact ih (by simpa using hl) e
    exact q (this hl hk)
   refine ⟨?_,?_⟩
   ·show T.1++[kn s n]=(T.2++[eU s n ws p.2.2]).map kOf
    rw [List.map_append,← h.1];rfl
   ·show (T.1++[kn s n]).Nodup
    rw [List.nodup_append]
    exact ⟨h.2,by simp,λa ha b hb=>by rw [List.mem_singleton.mp hb];exact λz=>hn (z ▸ ha)⟩
 ·exact h
theorem yL:∀(l:List Tr) (T:Tb),TI T->TI (l.foldl tst T)
 |[],T,h=>h
 |p::l,T,h=>yL l (tst T p) (Wg h p)
theorem sub_len:∀{l p:List Str},l.Nodup->(∀x∈l,x∈p)->l.length<=p.length
 |[],p,_,_=>Nat.zero_le _
 |a::l,p,nd,h=>by
  have ha:=h a List.mem_cons_self
  have nd':=List.nodup_cons.mp nd
  have:=sub_len (l:=l) (p:=p.erase a) nd'.2 λx hx=>(List.mem_erase_of_ne (λ(z:x=a)=>nd'.1 (by rw [← z];exact hx))).mpr (h x (List.mem_cons_of_mem _ hx))
  rw [List.length_erase_of_mem ha] at this
  have:0<p.length:=List.length_pos_of_mem ha
  simp only [List.length_cons]
  omega
theorem name_mem {e:En}(E:nA e)(n:Int):nameAt e n∈e.pool:=by
 have t0:=E.t0
 have hl:((n+e.turn) % 8).toNat<e.pool.length:=by rw [E.p8];omega
 unfold nameAt
 rw [List.getD_eq_getElem?_getD,List.getElem?_eq_getElem hl]
 exact List.getElem_mem hl
theorem vm {e:En}{N:Nd}{g:Gm}{rc:Rc}{dep:Nat}(G:Grw e N rc g dep){d:D}(h:d∈(tbl (prG [] rc g)).2):∃s n,(s=1\/s=2)/\Row e N s n d:=by
 rcases yP (prG [] rc g) ([],[]) d h with z | ⟨p,hp,s,n,ws,ep,rfl⟩
 ·cases z
 ·have h1:=G.pl [] p hp
  have h2:=Cu [] rc g G.len G.sd p hp
  obtain ⟨w,q,r⟩:=p
  have ep:q=.move s n ws:=ep
  subst ep
  exact ⟨s,n,h2.1,h1⟩
theorem aap {e:En}{N:Nd}{s:Int}{n:Str}{d:D}(h:Row e N s n d):wdD d<=3:=by
 obtain ⟨rc',c,b,k,_,_,_,_,_,h6,_,rfl⟩:=h
 simpa [wdD] using h6.2
theorem Tw {e:En}(E:nA e){N:Nd}{g:Gm}{rc:Rc}{dep:Nat}(G:Grw e N rc g dep)(s:Int):okT (tbl (prG [] rc g)).2 s:=by
 have T:=yL (prG [] rc g) ([],[]) ⟨rfl,List.nodup_nil⟩
 generalize hT:(tbl (prG [] rc g)).2=R at *
 have hrow:∀d∈R,∃s n,(s=1\/s=2)/\Row e N s n d:=λd hd=>vm G (by rw [hT];exact hd)
 have hR:((prG [] rc g).foldl tst ([],[])).2=R:=hT
 obtain ⟨t1,t2⟩:=T
 rw [hR] at t1
 rw [t1] at t2
 have nd:(R.filter λd=>decide (sdD d=s)).Pairwise λa b=>kOf a≠kOf b:=by
  have:=(List.pairwise_map.mp t2)
  exact this.sublist List.filter_sublist
 have nd2:((R.filter λd=>decide (sdD d=s)).map nmD).Nodup:=by
  refine List.pairwise_map.mpr (nd.imp_of_mem λ{a b} ha hb h z=>h ?_)
  have h1:sdD a=s:=by simpa using (List.mem_filter.mp ha).2
  have h2:sdD b=s:=by simpa using (List.mem_filter.mp hb).2
  unfold kOf
  rw [h1,h2,z]
 have sub:∀x∈(R.filter λd=>decide (sdD d=s)).map nmD,x∈e.pool:=λx hx=>by
  obtain ⟨d,hd,rfl⟩:=List.mem_map.mp hx
  obtain ⟨_,n,_,rc',c,b,k,_,_,_,_,_,_,rfl,rfl⟩:=hrow d (List.mem_filter.mp hd).1
  exact name_mem E k
 have hl:=sub_len nd2 sub
 rw [List.length_map,E.p8] at hl
 have hw:∀l:List D,(∀d∈l,∃s n,(s=1\/s=2)/\Row e N s n d)->(l.map λd=>(wdD d:Int)).sum<=3*l.length:=by
  intro l
  induction l with
  |nil=>intro _;simp
  |cons d l ih=>
   intro h
   have:=ih λx hx=>h x (List.mem_cons_of_mem _ hx)
   obtain ⟨_,n,_,hr⟩:=h d List.mem_cons_self
   have h3:=aap hr
   simp only [List.map_cons,List.sum_cons,List.length_cons]
   omega
 exact ⟨hl,Int.le_trans (hw _ λd hd=>hrow d (List.mem_filter.mp hd).1) (by omega)⟩
theorem ab3 {e:En}(E:nA e)(nd:e.pool.Nodup){N:Nd}{m:Int×Int}(I:oH N m){g:Gm}{dep:Nat}(hd:dep<=12)(G:Grw e N ([],[]) g dep)(hz:szG g<=64):Gd g where
 len:=G.len
 sd:=G.sd
 dep:=Nat.le_trans G.dep hd
 sz:=hz
 row:=by
  classical
  refine ⟨λs n=>if h:∃d,Row e N s n d then Classical.choose h else .non,λp hp s n ws ep=>?_⟩
  have h1:=G.pl [] p hp
  have h2:=Cu [] ([],[]) g G.len G.sd p hp
  obtain ⟨w,q,r⟩:=p
  have ep:q=.move s n ws:=ep
  subst ep
  have h1:Row e N s n (eU s n ws r):=h1
  have hex:∃d,Row e N s n d:=⟨_,h1⟩
  have e1:=Xv E nd I h2.1 h1 (Classical.choose_spec hex)
  simp only [dif_pos hex]
  exact ⟨e1,QG E (Classical.choose_spec hex)⟩
 fr:=λp hp=>by
  have h1:=G.pl [] p hp
  refine ⟨?_,Oh [] ([],[]) g G.len p hp⟩
  obtain ⟨w,q,r⟩:=p
  cases q with
  |fin d=>exact h1.1
  |deal n ws=>exact h1.1
  |move s n ws=>trivial
 t1:=Tw E G 1
 t2:=Tw E G 2
theorem acJ:oH ([],[]) (0,0):=⟨rfl,by simp,by simp,λ_ _ _ _ _ _ _ h=>by simp [cF] at h,λ_ _ _ _ _ _ _ _ _ _ _ h=>by simp [cF] at h⟩
noncomputable def gmM (e:En)(turn:Int)(rm dep:Nat)(s5 s6 s7:Sl):Me:=[.fz (cD e),.fz (.int turn),.fz (.int (dep:Int)),.fz (.int (rm:Int)),.fz (.lst (e.pool.map D.str)),s5,s6,s7]
theorem Yy (e:En)(rm:Nat)(a1 a2:Addr):Eb [] [] [(.str "at",.int 0),(.str "room",.int (rm:Int)),(.str "names",.adr a1),(.str "many",.adr a2),(.str "pool",.lst (e.pool.map D.str))]=some ([sk "at",sk "room",sk "names",sk "many",sk "pool"],[.int 0,.int (rm:Int),.adr a1,.adr a2,.lst (e.pool.map D.str)]):=by
 simp [Eb,m6,putD,sk]
theorem Up {Φ : Bf} {e : En} {turn : Int} {rm dep : Nat} {d : D} (ht : e.turn = turn % 64) (hl : e.lev = decide (turn / 64 % 2 = 1))
    (h : ∀ A : Addr × Addr, ∃ s n m, Φ [cD e, .int (dep : Int), rcD ([], [])] (stD e A 0 (rm : Int)) (A.1, nD ([], [])) (A.2, mD (0, 0)) = .ok (d, s, n, m)) :
    bj 8 5 (nR Φ) [cD e, .int turn, .int (dep : Int), .int (rm : Int), .lst (e.pool.map D.str)] = .ok (false, d) := by
  have b64 : Bq 64 := bgS (by decide)
  have H : ∀ a1 a2 : Addr, a1 ≠ a2 → ∃ m', ((ofO (Eb [] [] [(.str "at", .int 0), (.str "room", .int (rm : Int)), (.str "names", .adr a1), (.str "many", .adr a2), (.str "pool", .lst (e.pool.map D.str))])).bind λr => (aJ (iM 5 (fC (.str "turn")) (aA bF (ak 1) (fC (.int 64))))
 (aJ (iM 5 (fC (.str "level")) (mK gEq (aA bF (aA dC (ak 1) (fC (.int 64))) (fC (.int 2))) (fC (.int 1))))
 (uh (uA Φ 5 1 6 7 (aa (aG 0) (aa (aG 2) (aa (d8 (aa (bA aB) (aa (bA aB) aB))) aB))))))) (((gmM e turn rm dep .un .un .un).set 5 (.ow (.dct r.1 r.2))).set 6 (.hd true a1 (nD ([], []))) |>.set 7 (.hd true a2 (mD (0, 0))))) = .ok (.rt false d, m') ∧ m'.length = (gmM e turn rm dep .un .un .un).length := by
    intro a1 a2 hne
    obtain ⟨s, n, m, eΦ⟩ := h (a1, a2)
    refine ⟨gmM e turn rm dep (.ow s) (.hd true a1 n) (.hd true a2 m), ?_, rfl⟩
    rw [Yy]
    simp only [pB, Res.mJ]
    have e1 : ∀ k, aJ (iM 5 (fC (.str "turn")) (aA bF (ak 1) (fC (.int 64)))) k (gmM e turn rm dep (.ow (.dct [sk "at", sk "room", sk "names", sk "many", sk "pool"] [.int 0, .int (rm : Int), .adr a1, .adr a2, .lst (e.pool.map D.str)])) (.hd true a1 (nD ([], []))) (.hd true a2 (mD (0, 0)))) = k (gmM e turn rm dep (.ow (.dct [sk "at", sk "room", sk "names", sk "many", sk "pool", sk "turn"] [.int 0, .int (rm : Int), .adr a1, .adr a2, .lst (e.pool.map D.str), .int e.turn])) (.hd true a1 (nD ([], []))) (.hd true a2 (mD (0, 0)))) := λk => gs (by
      simp [gmM, iM, aA, ak, fC, bF, mdI, BR, m6, Dy, putD, sk, ht])
    have e2 : ∀ k, aJ (iM 5 (fC (.str "level")) (mK gEq (aA bF (aA dC (ak 1) (fC (.int 64))) (fC (.int 2))) (fC (.int 1)))) k (gmM e turn rm dep (.ow (.dct [sk "at", sk "room", sk "names", sk "many", sk "pool", sk "turn"] [.int 0, .int (rm : Int), .adr a1, .adr a2, .lst (e.pool.map D.str), .int e.turn])) (.hd true a1 (nD ([], []))) (.hd true a2 (mD (0, 0)))) = k (gmM e turn rm dep (.ow (stD e (a1, a2) 0 (rm : Int))) (.hd true a1 (nD ([], []))) (.hd true a2 (mD (0, 0)))) := λk => gs (by
      simp [gmM, iM, mK, aA, ak, fC, bF, mdI, dC, dvI, b64, BR, m6, Dy, putD, sk, stD, wu, hl])
    show aJ _ _ (gmM e turn rm dep (.ow (.dct [sk "at", sk "room", sk "names", sk "many", sk "pool"] [.int 0, .int (rm : Int), .adr a1, .adr a2, .lst (e.pool.map D.str)])) (.hd true a1 (nD ([], []))) (.hd true a2 (mD (0, 0)))) = _
    rw [e1, e2]
    simp only [gmM, rcD] at eΦ ⊢
    generalize stD e (a1, a2) 0 (rm : Int) = ST at *
    generalize nD ([], []) = NN at *
    generalize mD (0, 0) = MM at *
    simp [uh, uA, FQ, vM, aa, aB, aG, d8, bA, eΦ, yx]
  have g := Xi H
  have start : [cD e, .int turn, .int (dep : Int), .int (rm : Int), .lst (e.pool.map D.str)].map Sl.fz ++ List.replicate (8 - 5) Sl.un = gmM e turn rm dep .un .un .un := rfl
  have gc : nR Φ (gmM e turn rm dep .un .un .un) = .ok (.rt false d, (gmM e turn rm dep .un .un .un).map λ_ => .un) := by
    rw [← g]
    rfl
  have hlen : [cD e, .int turn, .int (dep : Int), .int (rm : Int), .lst (e.pool.map D.str)].length = 5 := rfl
  unfold bj
  rw [if_pos hlen, start, gc]
theorem XN {e:En}(E:nA e){turn:Int}{rm dep:Nat}(hd:dep<=12)(hrm:rm<=63)(ht:e.turn=turn % 64)(hl:e.lev=decide (turn / 64 % 2=1)):
  ∃(g:Gm) (N:Nd) (m:Int×Int),qO [cD e,.int turn,.int (dep:Int),.int (rm:Int),.lst (e.pool.map D.str)]=.ok (false,dG g)/\oH N m/\szG g<=rm+1/\Grw e N ([],[]) g dep:=by
 obtain ⟨g,a',r',N,m,eg,I,_,_,h1,_,G⟩:=Ho E 13 dep (by omega) hd 0 rm ([],[]) (0,0) ([],[]) acJ (by simp) (by omega) ⟨(λ_ z=>nomatch z),(λ_ z=>nomatch z),rfl,rfl,by simpa using hd,by simpa using hd⟩
 exact ⟨g,N,m,Up (Φ:=bf 13) ht hl λA=>⟨_,_,_,eg A⟩,I,by omega,G⟩
theorem Oa:∀l:List D,(∀d∈l,okR d)->oO l=true/\m7 l<=20
 |[],_=>⟨rfl,Nat.zero_le _⟩
 |d::l,h=>by
  obtain ⟨a,b⟩:=Oa l λx hx=>h x (List.mem_cons_of_mem _ hx)
  obtain ⟨c,e⟩:=h d List.mem_cons_self
  exact ⟨by simp [oO,a,c],by simp [m7];omega⟩
theorem Z9 {e:En}(E:nA e){N:Nd}{g:Gm}{rc:Rc}{dep:Nat}(G:Grw e N rc g dep):okD (.lst (tbl (prG [] rc g)).2)=true/\pZ (.lst (tbl (prG [] rc g)).2)<=64:=by
 obtain ⟨a,b⟩:=Oa (tbl (prG [] rc g)).2 λd hd=>by
  obtain ⟨s,n,_,h⟩:=vm G hd
  exact QG E h
 exact ⟨by simp [okD,a],by simp [pZ];omega⟩
theorem cell_eq (ns:List Int)(k:Nat)(hz:ns.length<=1000):∃v:Int,fY [.lst (ns.map D.int),.int (k:Int)]=.ok (false,.int v):=by
 by_cases h:k<ns.length
 ·have e1:atI (ns.map D.int) (k:Int)=some (.int ns[k]):=kj (by rw [List.getElem?_map,List.getElem?_eq_getElem h];rfl)
  have h':(k:Int)<(ns.length:Int):=by omega
  exact ⟨ns[k],by simp [fY,jD,jA,bj,aJ,gIf,aR,ak,aU,dW,aa,aB,gLt,h,h',bD,Me.let,Sl.let,aA,gIx,e1]⟩
 ·have h':¬(k:Int)<(ns.length:Int):=by omega
  exact ⟨0,by simp [fY,jD,jA,bj,aJ,gIf,aR,ak,aU,dW,aa,aB,gLt,h,h',bD,Me.let,Sl.let,gNx,fC]⟩
noncomputable def ss:List Nat:=[97,98,99,100,101,102,103,104,105,106,107,108,109,110,111,112,113,114,115,116,117,118,119,120,121,122,48,49,50,51,52,53,54,55,56,57]
theorem ZP:Str.ofString "abcdefghijklmnopqrstuvwxyz0123456789" = tx ss:=by decide +kernel
theorem X7:∀c∈ss,c<128:=by decide
theorem abf:ss.Nodup:=by decide
noncomputable def sgn (i:Int):Nat:=ss.getD i.toNat 0
theorem Le {i:Int}(h:0<=i/\i<36):sgn i∈ss:=by
 have hl:i.toNat<ss.length:=by show i.toNat<36;omega
 unfold sgn
 rw [List.getD_eq_getElem?_getD,List.getElem?_eq_getElem hl]
 exact List.getElem_mem hl
theorem VJ {i j:Int}(h:0<=i/\i<36)(h':0<=j/\j<36)(e:sgn i=sgn j):i=j:=by
 have hl:i.toNat<ss.length:=by show i.toNat<36;omega
 have hl':j.toNat<ss.length:=by show j.toNat<36;omega
 unfold sgn at e
 rw [List.getD_eq_getElem?_getD,List.getElem?_eq_getElem hl,List.getD_eq_getElem?_getD,List.getElem?_eq_getElem hl'] at e
 have:=(List.getElem_inj (h₀:=hl) (h₁:=hl') abf).mp e
 omega
theorem Yn {i:Int}(h:0<=i/\i<36):gIx (.str "abcdefghijklmnopqrstuvwxyz0123456789") (.int i)=some (.str (tx [sgn i])):=by
 show gIx (.str (Str.ofString "abcdefghijklmnopqrstuvwxyz0123456789")) _=_
 rw [ZP]
 have hl:i.toNat<ss.length:=by show i.toNat<36;omega
 have e:atI ss i=some (sgn i):=by
  have:=kj (xs:=ss) (j:=i.toNat) (List.getElem?_eq_getElem hl)
  rw [show ((i.toNat:Nat):Int)=i by omega] at this
  rw [this]
  unfold sgn
  rw [List.getD_eq_getElem?_getD,List.getElem?_eq_getElem hl]
  rfl
 show (if (tx ss).length<=sizeLine then (atI (tx ss).cps.toList i).map λc=>D.str ⟨#[c]⟩ else none)=_
 rw [if_pos (by rw [uc];decide),zf,e]
 rfl
theorem Tt:sizeLine=16777216:=rfl
theorem RV {a b:List Nat}(h:a.length+b.length<=1000):bY (.str (tx a)) (.str (tx b))=some (.str (tx (a++b))):=by
 show (if (tx a).length+(tx b).length<=sizeLine then some (D.str (tx a++tx b)) else none)=_
 rw [if_pos (by rw [uc,uc,Tt];omega),Zc]
theorem Ys {w:List Nat}{i:Int}(h0:0<=i)(h1:i<=w.length)(hw:w.length<=1000):gSl (.str (tx w)) none (some i)=some (.str (tx (w.take i.toNat))):=by
 show (if (tx w).length<=sizeLine then some (D.str (Txt.slice (tx w) none (some i))) else none)=_
 rw [if_pos (by rw [uc,Tt];omega)]
 have:=StrLaws.sliceText_to (x:=tx w) (j:=i) ⟨h0,by rw [zf];exact h1⟩
 rw [show Txt.slice (tx w) none (some i)=StrLaws.sliceText (tx w) none (some i) from rfl,this]
 simp [tx]
theorem Tz {w:List Nat}{i:Int}(h0:0<=i)(h1:i<=w.length):Txt.slice (tx w) (some i) none=tx (w.drop i.toNat):=by
 have:=StrLaws.sliceText_from (x:=tx w) (i:=i) ⟨h0,by rw [zf];exact h1⟩
 rw [show Txt.slice (tx w) (some i) none=StrLaws.sliceText (tx w) (some i) none from rfl,this]
 refine K1 ?_
 rw [zf]
 show ((w.drop i.toNat).take _)=_
 exact List.take_of_length_le (by rw [List.length_drop];omega)
theorem Vd {w:List Nat}{i:Int}(h0:0<=i)(h1:i<=w.length)(hw:w.length<=1000):gSl (.str (tx w)) (some i) none=some (.str (tx (w.drop i.toNat))):=by
 show (if (tx w).length<=sizeLine then some (D.str (Txt.slice (tx w) (some i) none)) else none)=_
 rw [if_pos (by rw [uc,Tt];omega),Tz h0 h1]
noncomputable def yC (w:List Nat):List Nat:=w++w++w++w++w++w++w++w
theorem acH {w:List Nat}(h:1<=w.length)(h2:w.length<=100):Q0 (.int 8) (.str (tx w))=some (.str (tx (yC w))):=by
 show (if (0:Int)<=8/\(8:Int)<=1000/\(tx w).length<=1000 then some (D.str (Txt.mul (tx w) 8)) else none)=_
 rw [if_pos ⟨by decide,by decide,by rw [uc];omega⟩]
 congr 2
 unfold Txt.mul
 rw [if_neg (by decide),if_neg (by rw [uc];simp;intro z;rw [z] at h;simp at h)]
 refine K1 ?_
 show (List.foldl (· ++ ·) #[] (List.replicate 8 w.toArray)).toList=_
 simp [List.replicate,yC,List.append_assoc]
theorem Fg {s1 s2 s3 s5 s6 s7 s8 s9:Sl}{x:Int}{P:List D}(hP:P.length<=100):iR [.fz (.int x),s1,s2,s3,.ow (.lst P),s5,s6,s7,s8,s9]=.ok (.nx,[.fz (.int (x / 36)),s1,s2,s3,.ow (.lst (P++[.int (x % 36)])),s5,s6,s7,s8,s9]):=by
 have b1:Bq 36:=bgS (by decide)
 have z1:P.length<16777216:=by omega
 simp [iR,aJ,cR,jL,putL,aA,ak,fC,bF,mdI,dC,dvI,b1,z1,aX]
theorem yV {s1 s2 s3 s6 s7 s8 s9:Sl}:∀(c i:Nat) (x:Int) (P:List Int) (s5:Sl),P.length+c<=100->(∀p∈P,0<=p/\p<36)->∃(x' s5':Sl) (Q:List Int),bJ (hName 5) iR ((List.range' i c).map λ(k:Nat)=>D.int k) [.fz (.int x),s1,s2,s3,.ow (.lst (P.map D.int)),s5,s6,s7,s8,s9]=.ok (.nx,[x',s1,s2,s3,.ow (.lst (Q.map D.int)),s5',s6,s7,s8,s9])/\Q.length=P.length+c/\∀p∈Q,0<=p/\p<36
 |0,i,x,P,s5,_,hp=>⟨_,s5,P,rfl,rfl,hp⟩
 |c+1,i,x,P,s5,hz,hp=>by
  have st:=Fg (s1:=s1) (s2:=s2) (s3:=s3) (s5:=.fz (.int (i:Int))) (s6:=s6) (s7:=s7) (s8:=s8) (s9:=s9) (x:=x) (P:=P.map D.int) (by simp;omega)
  obtain ⟨x',s',Q,e,l,h⟩:=yV (s1:=s1) (s2:=s2) (s3:=s3) (s6:=s6) (s7:=s7) (s8:=s8) (s9:=s9) c (i+1) (x / 36) (P++[x % 36]) (.fz (.int (i:Int))) (by simp;omega) λp hp'=>by
   rcases List.mem_append.mp hp' with e | e
   ·exact hp p e
   ·rw [List.mem_singleton.mp e];omega
  refine ⟨x',s',Q,?_,by rw [l];simp;omega,h⟩
  rw [List.range'_succ,List.map_cons,cM (m1:=[.fz (.int x),s1,s2,s3,.ow (.lst (P.map D.int)),.fz (.int (i:Int)),s6,s7,s8,s9]) rfl st]
  rw [List.map_append] at e
  exact e
theorem CK:∀ps:List Int,Dw (ps.map λp=>D.str (tx [sgn p]))=some ((ps.map sgn).map λc=>tx [c])
 |[]=>rfl
 |p::ps=>by simp [Dw,CK ps]
theorem WT (ps:List Int)(hl:ps.length<=1000):Jf (.str "") [.lst (ps.map λp=>D.str (tx [sgn p]))]=some (.str (tx (ps.map sgn))):=by
 have e:((ps.map sgn).map λc=>tx [c])=(ps.map sgn).map λc=>(⟨#[c]⟩:Str):=rfl
 have hc:=PJ (ps.map sgn)
 show (match Dw (ps.map λp=>D.str (tx [sgn p])) with
  |some zs=>if JoinOk (Str.ofString "") zs=true then some (D.str (Txt.join (Str.ofString "") zs)) else none
  |none=>none)=_
 rw [CK,e]
 show (if JoinOk (Str.ofString "") _=true then some (D.str (Txt.join (Str.ofString "") _)) else none)=_
 rw [if_pos (joinOk_of (by rw [hc];simp;omega))]
 congr 2
 exact K1 (by rw [Rp,hc])
theorem abk {ps:List Int}{u0 u1 u3 u5 u6 u7 u8 u9:Sl}(hl:ps.length<=1000)(hp:∀p∈ps,0<=p/\p<36):oM [u0,u1,.fz (.str "abcdefghijklmnopqrstuvwxyz0123456789"),u3,.ow (.lst (ps.map D.int)),u5,u6,u7,u8,u9]=.ok (.lst (ps.map λp=>D.str (tx [sgn p]))):=by
 have ec:dJ (hName 0) gQ oW [.un,.fz (.str "abcdefghijklmnopqrstuvwxyz0123456789")] (ps.map D.int)=.ok (ps.map λp=>D.str (tx [sgn p])):=gH ps λp hp'=>by
  refine ⟨[.fz (.int p),.fz (.str "abcdefghijklmnopqrstuvwxyz0123456789")],rfl,rfl,?_⟩
  have e:=Yn (hp p hp')
  generalize D.str "abcdefghijklmnopqrstuvwxyz0123456789" = Z at *
  simp [oW,aA,ak,e]
 have z2:ps.length<=16777216:=by omega
 generalize D.str "abcdefghijklmnopqrstuvwxyz0123456789" = Z at *
 simp [oM,du,jH,ak,cMe,Sl.bor,ec,z2]
theorem aa2 {w:List Nat}{u0 u1 u2 u3 u4 u5 u7 u8 u9:Sl}(h1:1<=w.length)(h2:w.length<=100):oA [u0,u1,u2,u3,u4,u5,.fz (.str (tx w)),u7,u8,u9]=.ok (.lst ((List.range 8).map λ(k:Nat)=>D.str (tx ((yC w).take (k+1))))):=by
 have hr:(yC w).length=8*w.length:=by simp [yC];omega
 have em:=acH h1 h2
 have e1:(aa (fC (.int 1)) (aa (fC (.int 9)) aB)) [u0,u1,u2,u3,u4,u5,.fz (.str (tx w)),u7,u8,u9]=.ok [.int 1,.int 9]:=by simp [aa,fC,aB]
 have e2:=acR e1 (by omega) (by omega) (by omega) (by omega)
 have ec:dJ (hName 0) gQ kY [.un,.fz (.str (tx w))] ((List.range 8).map λ(k:Nat)=>D.int (1+k))=.ok ((List.range 8).map λ(k:Nat)=>D.str (tx ((yC w).take (k+1)))):=gH (List.range 8) λk hk=>by
  have hk:=List.mem_range.mp hk
  refine ⟨[.fz (.int (1+k)),.fz (.str (tx w))],rfl,rfl,?_⟩
  have es:=Ys (w:=yC w) (i:=1+(k:Int)) (by omega) (by omega) (by omega)
  rw [show (1+(k:Int)).toNat=k+1 by omega] at es
  generalize D.str (tx w)=W at *
  simp [kY,fSl,aA,fC,ak,em,fO0,fO1,es]
 unfold oA du
 rw [e2]
 show (if ((List.range 8).map λ(k:Nat)=>D.int (1+k)).length<=sizeLine then match dJ (hName 0) gQ kY [.un,.fz (.str (tx w))] ((List.range 8).map λ(k:Nat)=>D.int (1+k)) with
  | .ok ys=>Res.ok (D.lst ys)
  |_=>.stuck
 else .stuck)=_
 rw [ec,if_pos (by decide)]
noncomputable def HF (w:List Nat)(a:Nat)(p:Int)(k:Nat):Str:=tx (w.take a++[sgn ((p+4*k) % 36)]++w.drop (a+1))
theorem Wz {s0 s1 s3 s9:Sl}{ps FF:List D}{w:List Nat}{a k:Nat}{p:Int}(ea:atI ps (a:Int)=some (.int p))(ha:a<w.length)(hw:w.length<=100)(hk:k<=100)(hF:FF.length<=100):
  iQ [s0,s1,.fz (.str "abcdefghijklmnopqrstuvwxyz0123456789"),s3,.ow (.lst ps),.fz (.int (k:Int)),.fz (.str (tx w)),.fz (.int (a:Int)),.ow (.lst FF),s9]=.ok (.nx,[s0,s1,.fz (.str "abcdefghijklmnopqrstuvwxyz0123456789"),s3,.ow (.lst ps),.fz (.int (k:Int)),.fz (.str (tx w)),.fz (.int (a:Int)),.ow (.lst (FF++[.str (HF w a p k)])),.fz (.str (tx [sgn ((p+4*k) % 36)]))]):=by
 have b1:Bq 4:=bgS (by decide)
 have b2:Bq (k:Int):=bgS (by omega)
 have z1:FF.length<16777216:=by omega
 have e1:=Yn (i:=(p+4*(k:Int)) % 36) (by omega)
 have e2:=Ys (w:=w) (i:=(a:Int)) (by omega) (by omega) (by omega)
 have e3:=Vd (w:=w) (i:=(a:Int)+1) (by omega) (by omega) (by omega)
 rw [show ((a:Int)).toNat=a by omega] at e2
 rw [show ((a:Int)+1).toNat=a+1 by omega] at e3
 have e4:=RV (a:=w.take a) (b:=[sgn ((p+4*k) % 36)]) (by simp;omega)
 have e5:=RV (a:=w.take a++[sgn ((p+4*k) % 36)]) (b:=w.drop (a+1)) (by simp;omega)
 unfold HF
 generalize D.str "abcdefghijklmnopqrstuvwxyz0123456789" = Z at *
 generalize D.str (tx (w.take a++[sgn ((p+4*k) % 36)]++w.drop (a+1)))=R at *
 generalize D.str (tx (w.take a++[sgn ((p+4*k) % 36)]))=R1 at *
 generalize D.str (tx w)=W at *
 generalize D.str (tx (w.take a))=W1 at *
 generalize D.str (tx (w.drop (a+1)))=W2 at *
 generalize D.str (tx [sgn ((p+4*k) % 36)])=W3 at *
 have e6:gIx (.lst ps) (.int (a:Int))=some (.int p):=ea
 have e7:F.bY (.int p) (.int (4*(k:Int)))=some (.int (p+4*k)):=rfl
 have e8:F.bY (.int (a:Int)) (.int 1)=some (.int ((a:Int)+1)):=rfl
 have e9:F.f9 (.int 4) (.int (k:Int))=some (.int (4*(k:Int))):=by simp [f9,b1,b2]
 have e10:F.bF (.int (p+4*k)) (.int 36)=some (.int ((p+4*(k:Int)) % 36)):=by simp [bF,mdI]
 simp only [iQ]
 simp [aJ,aX,aA,ak,fC,e6,e7,e8,e9,e10,e1,cR,jL,putL,fSl,fO0,fO1,e2,e3,e4,e5,z1]
theorem Mp {s0 s1 s3:Sl}{ps:List D}{w:List Nat}{a:Nat}{p:Int}(ea:atI ps (a:Int)=some (.int p))(ha:a<w.length)(hw:w.length<=100):∀(c i:Nat) (FF:List D) (s5 s9:Sl),FF.length+c<=100->i+c<=100->∃s5' s9':Sl,
  bJ (hName 5) iQ ((List.range' i c).map λ(k:Nat)=>D.int k) [s0,s1,.fz (.str "abcdefghijklmnopqrstuvwxyz0123456789"),s3,.ow (.lst ps),s5,.fz (.str (tx w)),.fz (.int (a:Int)),.ow (.lst FF),s9] =
   .ok (.nx,[s0,s1,.fz (.str "abcdefghijklmnopqrstuvwxyz0123456789"),s3,.ow (.lst ps),s5',.fz (.str (tx w)),.fz (.int (a:Int)),.ow (.lst (FF++(List.range' i c).map λ(k:Nat)=>.str (HF w a p k))),s9'])
 |0,i,FF,s5,s9,_,_=>⟨s5,s9,by simp [bJ]⟩
 |c+1,i,FF,s5,s9,hz,hi=>by
  have st:=Wz (s0:=s0) (s1:=s1) (s3:=s3) (s9:=s9) (FF:=FF) (k:=i) ea ha hw (by omega) (by omega)
  obtain ⟨s5',s9',e⟩:=Mp (s0:=s0) (s1:=s1) (s3:=s3) ea ha hw c (i+1) (FF++[.str (HF w a p i)]) (.fz (.int (i:Int))) (.fz (.str (tx [sgn ((p+4*i) % 36)]))) (by simp;omega) (by omega)
  refine ⟨s5',s9',?_⟩
  rw [List.range'_succ,List.map_cons,cM (m1:=[s0,s1,.fz (.str "abcdefghijklmnopqrstuvwxyz0123456789"),s3,.ow (.lst ps),.fz (.int (i:Int)),.fz (.str (tx w)),.fz (.int (a:Int)),.ow (.lst FF),s9]) rfl st,e]
  simp
structure Y4 (p:List Str):Prop where
 p8:p.length=8
 nd:p.Nodup
 ok:∀x∈p,PyData.strOk x=true
theorem Pz {L2 L8:Zab}{Q4 Q6:Zae}{r:D}{c tt:Int}{x' s5:Sl}{P W:D}(h:tt / 8 % 3=1)
  (eL:L2 [.fz (.int (c / 8)),.fz (.int tt),.fz (.str "abcdefghijklmnopqrstuvwxyz0123456789"),.fz (.int (1+c % 8)),.ow (.lst []),.un,.un,.un,.un,.un]=.ok (.nx,[x',.fz (.int tt),.fz (.str "abcdefghijklmnopqrstuvwxyz0123456789"),.fz (.int (1+c % 8)),.ow P,s5,.un,.un,.un,.un]))
  (e4:Q4 [x',.fz (.int tt),.fz (.str "abcdefghijklmnopqrstuvwxyz0123456789"),.fz (.int (1+c % 8)),.ow P,s5,.un,.un,.un,.un]=.ok r) (ej:Jf (.str "") [r]=some W)
  {R:D} (e6:∀u0 u1 u2 u3 u4 u5 u7 u8 u9:Sl,Q6 [u0,u1,u2,u3,u4,u5,.fz W,u7,u8,u9]=.ok R):bj 10 2 (jo L2 Q4 Q6 L8) [.int c,.int tt]=.ok (true,R):=by
 unfold bj jo
 have b8:Bq 8:=bgS (by decide)
 have ty:tyD "str" (.str "")=true:=rfl
 generalize D.str "abcdefghijklmnopqrstuvwxyz0123456789" = Z at *
 generalize D.str "" = Z0 at *
 simp [aJ,aX,fC,aA,ak,bY,bF,mdI,dC,dvI,b8,eX,d8,aB,eL,Nf,ty,aa,e4,ej,gIf,aR,h,jP,Me.let,Sl.let,e6]
theorem Pg {L2 L8:Zab}{Q4 Q6:Zae}{r:D}{c tt:Int}{x' s5 s5' s9':Sl}{P W:D}(h:¬tt / 8 % 3=1)
  (eL:L2 [.fz (.int (c / 8)),.fz (.int tt),.fz (.str "abcdefghijklmnopqrstuvwxyz0123456789"),.fz (.int (1+c % 8)),.ow (.lst []),.un,.un,.un,.un,.un]=.ok (.nx,[x',.fz (.int tt),.fz (.str "abcdefghijklmnopqrstuvwxyz0123456789"),.fz (.int (1+c % 8)),.ow P,s5,.un,.un,.un,.un]))
  (e4:Q4 [x',.fz (.int tt),.fz (.str "abcdefghijklmnopqrstuvwxyz0123456789"),.fz (.int (1+c % 8)),.ow P,s5,.un,.un,.un,.un]=.ok r) (ej:Jf (.str "") [r]=some W)
  {R:D} (e8:L8 [x',.fz (.int tt),.fz (.str "abcdefghijklmnopqrstuvwxyz0123456789"),.fz (.int (1+c % 8)),.ow P,s5,.fz W,.fz (.int (tt % (1+c % 8))),.ow (.lst []),.un]=.ok (.nx,[x',.fz (.int tt),.fz (.str "abcdefghijklmnopqrstuvwxyz0123456789"),.fz (.int (1+c % 8)),.ow P,s5',.fz W,.fz (.int (tt % (1+c % 8))),.ow R,s9'])):bj 10 2 (jo L2 Q4 Q6 L8) [.int c,.int tt]=.ok (true,R):=by
 unfold bj jo
 have b8:Bq 8:=bgS (by decide)
 have ty:tyD "str" (.str "")=true:=rfl
 have hp:0<1+c % 8:=by omega
 have hz:¬1+c % 8=0:=by omega
 have em:mdI tt (1+c % 8)=tt % (1+c % 8):=if_pos hp
 generalize hS:1+c % 8=S at *
 generalize D.str "abcdefghijklmnopqrstuvwxyz0123456789" = Z at *
 generalize D.str "" = Z0 at *
 simp [aJ,aX,fC,aA,ak,bY,bF,dC,dvI,b8,eX,d8,aB,show mdI c 8=c % 8 from if_pos (by decide),hS,eL,Nf,ty,aa,e4,ej,gIf,aR,show mdI (tt / 8) 3=tt / 8 % 3 from if_pos (by decide),h,gNx,hz,em,e8,nP,Me.let,Sl.let]
theorem VH {c tt:Int}:∃(x' s5:Sl) (ps:List Int),oG [.fz (.int (c / 8)),.fz (.int tt),.fz (.str "abcdefghijklmnopqrstuvwxyz0123456789"),.fz (.int (1+c % 8)),.ow (.lst []),.un,.un,.un,.un,.un]=.ok (.nx,[x',.fz (.int tt),.fz (.str "abcdefghijklmnopqrstuvwxyz0123456789"),.fz (.int (1+c % 8)),.ow (.lst (ps.map D.int)),s5,.un,.un,.un,.un])/\(ps.length:Int)=1+c % 8/\∀p∈ps,0<=p/\p<36:=by
 have hS:0<=1+c % 8/\1+c % 8<=8:=by omega
 generalize 1+c % 8=S at *
 obtain ⟨x',s5,Q,e,hl,hQ⟩:=yV (s1:=.fz (.int tt)) (s2:=.fz (.str "abcdefghijklmnopqrstuvwxyz0123456789")) (s3:=.fz (.int S)) (s6:=.un) (s7:=.un) (s8:=.un) (s9:=.un) S.toNat 0 (c / 8) [] .un (by simp;omega) (λ_ z=>nomatch z)
 refine ⟨x',s5,Q,?_,by simp at hl;omega,hQ⟩
 have e1:(aa (ak 3) aB) [.fz (.int (c / 8)),.fz (.int tt),.fz (.str "abcdefghijklmnopqrstuvwxyz0123456789"),.fz (.int S),.ow (.lst []),.un,.un,.un,.un,.un]=.ok [.int S]:=by
  generalize D.str "abcdefghijklmnopqrstuvwxyz0123456789" = Z
  simp [aa,ak,aB]
 have e2:=BK e1 (by omega) (by omega)
 unfold oG gZ
 rw [e2]
 show bJ (hName 5) iR ((List.range S.toNat).map λ(k:Nat)=>D.int k) _=_
 rw [List.range_eq_range']
 exact e
theorem Xa {w:List Nat}{a:Nat}{p:Int}{k:Nat}(hw:∀c∈w,c<128):PyData.strOk (HF w a p k)=true:=by
 refine HJ λc hc=>?_
 rcases List.mem_append.mp hc with hc | hc
 ·rcases List.mem_append.mp hc with hc | hc
  ·exact hw c (List.mem_of_mem_take hc)
  ·rw [List.mem_singleton.mp hc]
   exact X7 _ (Le (by omega))
 ·exact hw c (List.mem_of_mem_drop hc)
theorem Tf {w:List Nat}{a:Nat}{p:Int}{k j:Nat}(hk:k<8)(hj:j<8)(h:HF w a p k=HF w a p j):k=j:=by
 have h:=Th.mp h
 rw [List.append_assoc,List.append_assoc] at h
 have h:=List.append_cancel_left h
 injection h with h _
 have:=VJ (by omega) (by omega) h
 omega
theorem Xw {w:List Nat}{c:Nat}(h:c∈yC w):c∈w:=by
 simpa [yC] using h
theorem Vm (c t:Int):∃p:List Str,qZ [.int c,.int t]=.ok (true,.lst (p.map D.str))/\Y4 p:=by
 obtain ⟨x',s5,ps,eL,hl,hp⟩:=VH (c:=c) (tt:=t)
 have hl8:1<=ps.length/\ps.length<=8:=by omega
 have e4:=abk (u0:=x') (u1:=.fz (.int t)) (u3:=.fz (.int (1+c % 8))) (u5:=s5) (u6:=.un) (u7:=.un) (u8:=.un) (u9:=.un) (by omega) hp
 have ej:=WT ps (by omega)
 have hw:∀k∈ps.map sgn,k<128:=λk hk=>by
  obtain ⟨p,h,rfl⟩:=List.mem_map.mp hk
  exact X7 _ (Le (hp p h))
 have wl:(ps.map sgn).length=ps.length:=by simp
 generalize hW:ps.map sgn=w at *
 by_cases h:t / 8 % 3=1
 ·refine ⟨(List.range 8).map λk=>tx ((yC w).take (k+1)),?_,by simp,?_,λx hx=>?_⟩
  ·rw [List.map_map]
   exact Pz h eL e4 ej λu0 u1 u2 u3 u4 u5 u7 u8 u9=>aa2 (by omega) (by omega)
  ·refine List.pairwise_map.mpr ((List.nodup_range (n:=8)).imp_of_mem λ{a b} ha hb hne z=>hne ?_)
   have ha:=List.mem_range.mp ha
   have hb:=List.mem_range.mp hb
   have hr:(yC w).length=8*w.length:=by simp [yC];omega
   have:=congrArg List.length (Th.mp z)
   rw [List.length_take,List.length_take] at this
   omega
  ·obtain ⟨k,_,rfl⟩:=List.mem_map.mp hx
   exact HJ λc hc=>hw c (Xw (List.mem_of_mem_take hc))
 ·obtain ⟨a,ha⟩:∃a:Nat,(a:Int)=t % (1+c % 8):=⟨(t % (1+c % 8)).toNat,by have:=Int.emod_nonneg t (show 1+c % 8≠0 by omega);omega⟩
  have hlt:a<w.length:=by have:=Int.emod_lt_of_pos t (show 0<1+c % 8 by omega);omega
  have hlp:a<ps.length:=by omega
  have ea:atI (ps.map D.int) (a:Int)=some (.int ps[a]):=kj (by rw [List.getElem?_map,List.getElem?_eq_getElem hlp];rfl)
  obtain ⟨s5',s9',e8⟩:=Mp (s0:=x') (s1:=.fz (.int t)) (s3:=.fz (.int (1+c % 8))) ea hlt (by omega) 8 0 [] s5 .un (by simp) (by omega)
  refine ⟨(List.range 8).map λk=>HF w a ps[a] k,?_,by simp,?_,λx hx=>?_⟩
  ·refine Pg (s5':=s5') (s9':=s9') h eL e4 ej ?_
   rw [← ha]
   rw [List.map_map]
   have e1:(aa (fC (.int 8)) aB) [x',.fz (.int t),.fz (.str "abcdefghijklmnopqrstuvwxyz0123456789"),.fz (.int (1+c % 8)),.ow (.lst (ps.map D.int)),s5,.fz (.str (tx w)),.fz (.int (a:Int)),.ow (.lst []),.un]=.ok [.int 8]:=by
    simp [aa,fC,aB]
   have e2:=BK e1 (by omega) (by omega)
   unfold sX gZ
   rw [e2]
   show bJ (hName 5) iQ ((List.range 8).map λ(k:Nat)=>D.int k) _=_
   rw [List.range_eq_range']
   exact e8
  ·refine List.pairwise_map.mpr ((List.nodup_range (n:=8)).imp_of_mem λ{i j} hi hj hne z=>hne ?_)
   exact Tf (List.mem_range.mp hi) (List.mem_range.mp hj) z
  ·obtain ⟨k,_,rfl⟩:=List.mem_map.mp hx
   exact Xa hw
end Lw
namespace F
open PySem PySem.Spec PyProof.Rows L2 Hd
section
variable {X:Cx}{E:XK}{e o:Expr}{g:Zae}{c f:Str}{fs:List Str}{pos pos' np:Pos}
end
section
variable {X:Cx}{E:XK}{j k:Nat}{c m:Str}{ps:List Str}{Φ:Zac}{apos pos:Pos}{o e:Expr}{es:List Expr}{f0:Zae}{fs:Zad}{pl:Sem Bool}
end
noncomputable def ow2 (j:Nat)(a b:Addr):Os:=λk=>if k=0 then some a else if k=j then some b else none
section
variable {P:Program}{w:World}{K:W.Frag}{mg:Zp}{base:Heap}
end
section
variable {X:Cx}{E:XK}{jj k:Nat}{c m x:Str}{ps:List Str}{Φ:List D->D->Addr×D->Res (D×D×D)}{apos pos np:Pos}{e:Expr}{es:List Expr}{fs:Zad}{pl:Sem Bool}
end
section
variable {X:Cx}{E:XK}{e:Expr}{g:Zae}{k:Zab}{c f x kn vn:Str}{fs:List Str}{pos pos' pos2 pos3 spos np np2 kp vp:Pos}{rest:List Stmt}
end
section
variable {X:Cx}{E:XK}{e:Expr}{g:Zae}{c f x:Str}{fs:List Str}{pos pos' np:Pos}
end
section
variable {P:Program}{w:World}{K:W.Frag}{mg:Zp}{base:Heap}
end
section
variable {G:Gx}{O0 M0:Zaa}{H0 H H':Hp}{ow:Os}{σ:L2.St}{m:Me}
end
section
variable {X:Cx}{E:XK}{jj k:Nat}{c f y:Str}{ps:List Str}{Φ:List D->Res (List Str×List D×D)}{py pos cpos np:Pos}{e:Expr}{es:List Expr}{fs:Zad}{rest:List Stmt}{kk:Zab}
end
noncomputable def Vl (Φ:Zac)(fs:Zad):Zae:=λm=>(fs m).bind λds=>(Φ ds).bind λr=>if mj r.2=true then .ok r.2 else .stuck
theorem Z7 {X:Cx}{E:XK}{j k:Nat}{x:Str}{ps:List Str}{Φ:Zac}{p pos:Pos}{e:Expr}{es:List Expr}{fs:Zad}(Fh:FF X.prog X.w X.K X.mg X.base k x ps Φ)(hr:gR j X.A)(hx:Passes (CX1 X.prog X.w) X E)(ha:FAB X E (e::es) fs)(hk:k<=j:=by decide)(hg:Gl X x:=by rfl)
  (hdb:(x == ("__debug__" : Str))=false:=by decide) (he:starEach (e::es) X.env=(false,eval e X.env)::starEach es X.env:=by rfl) (hpl:(backTo pos (starEach es X.env)).any (·.1)=false:=by rfl):
  FE X E (.Call (.Name x p) (e::es) [] pos) (Vl Φ fs):=by
 obtain ⟨f,fd,G,b,kp,m⟩:=Fh.ex
 refine bI (Ey G (hr.mono hk) hg m kp b .nil hx ha hdb he hpl) λσ H Q hE=>xq5 hE λO0 M0 H0 ow m R q=>⟨O0,M0,H0,ow,m,R,q.bind.imp (aM.refl _) λds q vs H1 g1 hv=>?_⟩
 show spF _ _ (vs++[]) _ _ _
 rw [List.append_nil]
 refine ⟨_,ds,λ_ z=>z.elim,hv.any,q.bind.imp g1 λr q v H' g2 hv' _=>?_⟩
 obtain ⟨hf,q⟩:=De q
 exact q v H' (g1.trans g2) (hv'.mj hf)
end F
namespace Hd
open PySem L2
end Hd
namespace F
open PySem L2 Hd
section
variable {X:Cx}{E:XK}{es:List Expr}{b:Expr}{fs:Zad}{fa fb:Zae}{pos:Pos}
end
open PySem PySem.Spec PyProof.Rows L2 Hd
section
variable {G:Gx}{O:Zaa}{H0 H H' H1:Hp}
noncomputable def PQ:List D->List Addr->List D
 |[],_=>[]
 | .lst es::ds,as=>match as with
  |a::as=>.adr a::PQ ds as
  |[]=>.lst es::PQ ds []
 |d::ds,as=>d::PQ ds as
noncomputable def Ie:List D->List D
 |[]=>[]
 | .lst es::ds=>.lst es::Ie ds
 |_::ds=>Ie ds
theorem Ha {d:D}{ds:List D}{as:List Addr}(f:mj d=true):PQ (d::ds) as=d::PQ ds as/\Ie (d::ds)=Ie ds:=by
 cases d with
 |lst es=>cases f
 |_=>exact ⟨rfl,rfl⟩
theorem vX.hid:∀{qs:List Addr} {vs:List V} {ds:List D},vX G H0 H' qs vs ds->DVs G O H' vs (PQ ds qs)
 |_,_,_,.nil=>.nil
 |_,_,_,.flat h f t=>by rw [(Ha f).1];exact .cons (h.mj f) (vX.hid t)
 |_,_,_,.new n e hs f nq t=>.cons (.adr _) (vX.hid t)
inductive Xq (G:Gx)(H0 H':Hp):List Addr->List D->Prop where
 |nil:Xq G H0 H' [] []
 |cons {q:Addr} {xs:List V} {es:List D} {qs:List Addr} {ds:List D}:H0 q=none->H' q=some (.lst xs)->DVs G (λ_=>False) H' xs es->jC es=true->q∉qs->Xq G H0 H' qs ds->Xq G H0 H' (q::qs) (.lst es::ds)
theorem vX.ls:∀{qs:List Addr} {vs:List V} {ds:List D},vX G H0 H' qs vs ds->Xq G H0 H' qs (Ie ds)
 |_,_,_,.nil=>.nil
 |_,_,_,.flat h f t=>by rw [(Ha (as:=[]) f).2];exact vX.ls t
 |_,_,_,.new n e hs f nq t=>.cons n e hs f nq (vX.ls t)
end
noncomputable def nC:Me->Nat->List Addr->List D->Me
 |m,j,a::as,d::ds=>nC (m.set j (.hd true a d)) (j+1) as ds
 |m,_,_,_=>m
noncomputable def owH (ow:Os)(j:Nat)(as:List Addr):Os:=λk=>if j<=k/\k<j+as.length then as[k-j]? else ow k
theorem xx:∀(as:List Addr) (ds:List D) (m:Me) (j:Nat),(nC m j as ds).length=m.length
 |[],_,_,_=>by rw [nC];intro _ _ _ _ z;cases z
 |_::_,[],_,_=>by rw [nC];intro _ _ _ _ _ z;cases z
 |a::as,d::ds,m,j=>by rw [nC,xx as ds];simp
theorem sU:∀(as:List Addr) (ds:List D) (m:Me) (j k:Nat),k<j\/j+as.length<=k->(nC m j as ds)[k]? = m[k]?
 |[],_,_,_,_,_=>by rw [nC];intro _ _ _ _ z;cases z
 |_::_,[],_,_,_,_=>by rw [nC];intro _ _ _ _ _ z;cases z
 |a::as,d::ds,m,j,k,h=>by
  rw [List.length_cons] at h
  rw [nC,sU as ds _ _ _ (by omega),List.getElem?_set_ne (by omega)]
theorem zK:∀(as:List Addr) (ds:List D) (m:Me) (j i:Nat) (a:Addr) (d:D),j+as.length<=m.length->as[i]? = some a->ds[i]? = some d->(nC m j as ds)[j+i]? = some (.hd true a d)
 |[],_,_,_,_,_,_,_,h,_=>by simp at h
 |_::_,[],_,_,_,_,_,_,_,h=>by simp at h
 |b::as,e::ds,m,j,0,a,d,hl,h1,h2=>by
  simp at h1 h2
  rw [List.length_cons] at hl
  rw [nC,sU as ds _ _ _ (by omega),Nat.add_zero,List.getElem?_set_self (by omega),h1,h2]
 |b::as,e::ds,m,j,i+1,a,d,hl,h1,h2=>by
  rw [List.length_cons] at hl
  rw [nC,show j+(i+1)=(j+1)+i by omega]
  exact zK as ds _ (j+1) i a d (by rw [List.length_set];omega) (by simpa using h1) (by simpa using h2)
section
variable {G:Gx}{O0 M0:Zaa}{H0 H H':Hp}{ow:Os}{σ:L2.St}{m:Me}
end
section
variable {X:Cx}{E:XK}{is:List Nat}{e:Expr}{es:List Expr}{x:Str}{np pos pos':Pos}{fa:Zae}{fs:Zad}
end
section
variable {X:Cx}{E:XK}{j k:Nat}{c m:Str}{ps:List Str}{Φ:Zac}{apos pos:Pos}{o e:Expr}{es:List Expr}{f0:Zae}{fs:Zad}{pl:Sem Bool}
end
open Classical in
def NT (n:Nat)(h:List Addr->Res (Fl×Me))(m:Me):Res (Fl×Me):=
 if H:∃p:Bool×D,∀as:List Addr,as.length=n->as.Nodup->∃m',h as=.ok (.rt p.1 p.2,m')/\m'.length=m.length then .ok (.rt (Classical.choose H).1 (Classical.choose H).2,m.map λ_=>.un) else .stuck
theorem Qy {n:Nat}{h:List Addr->Res (Fl×Me)}{m:Me}{fr:Bool}{d:D}(H:∀as:List Addr,as.length=n->as.Nodup->∃m',h as=.ok (.rt fr d,m')/\m'.length=m.length):NT n h m=.ok (.rt fr d,m.map λ_=>.un):=by
 have Hx:∃p:Bool×D,∀as:List Addr,as.length=n->as.Nodup->∃m',h as=.ok (.rt p.1 p.2,m')/\m'.length=m.length:=⟨(fr,d),H⟩
 obtain ⟨m1,e1,_⟩:=Classical.choose_spec Hx (List.range n) List.length_range List.nodup_range
 obtain ⟨m2,e2,_⟩:=H (List.range n) List.length_range List.nodup_range
 rw [e1] at e2
 unfold NT
 rw [dif_pos Hx]
 injection e2 with e2
 injection e2 with e2 _
 injection e2 with e3 e4
 rw [e3,e4]
section
variable {X:Cx}{E:XK}{jj k:Nat}{x y:Str}{ps:List Str}{Φ:Zac}{py pos cpos np:Pos}{e:Expr}{es:List Expr}{fs:Zad}{rest:List Stmt}{kk:Zab}
end
section
variable {X:Cx}{E:XK}{j k:Nat}{x:Str}{ps:List Str}{Φ:Zac}{p pos:Pos}{e:Expr}{es:List Expr}{fa:Zae}{fs:Zad}
end
section
variable {X:Cx}{E:XK}{b e:Expr}{fb f:Zae}{pos apos cpos:Pos}
end
noncomputable def HN:Me->Addr->Nat->Option (Nat×Bool×D)
 |[],_,_=>none
 | .hd w b d::m,a,k=>if b=a then some (k,w,d) else HN m a (k+1)
 |_::m,a,k=>HN m a (k+1)
theorem Mi:∀{m:Me} {a:Addr} {k:Nat} {r:Nat×Bool×D},HN m a k=some r->∃i,r.1=k+i/\m[i]? = some (.hd r.2.1 a r.2.2)
 |[],_,_,_,h=>by cases h
 |s::m,a,k,r,h=>by
  have go:HN m a (k+1)=some r->∃i,r.1=k+i/\(s::m)[i]? = some (.hd r.2.1 a r.2.2):=λh=>by
   obtain ⟨i,h1,h2⟩:=Mi h
   exact ⟨i+1,by omega,by simpa using h2⟩
  cases s with
  |hd w b d=>
   have h:(if b=a then some (k,w,d) else HN m a (k+1))=some r:=h
   by_cases q:b=a
   ·rw [if_pos q] at h
    cases h
    exact ⟨0,rfl,by rw [q];rfl⟩
   ·rw [if_neg q] at h;exact go h
  |un=>exact go h
  |fz d=>exact go h
  |ow d=>exact go h
  |io d=>exact go h
  |bw d=>exact go h
section
variable {X:Cx}{E:XK}{b e:Expr}{fb f:Zae}{pos apos cpos:Pos}
end
section
variable {X:Cx}{E:XK}{e:Expr}{f:Zae}{p pos:Pos}
end
noncomputable def wW:List D->Option D
 |[.dct ks ds]=>some (.dct ks ds)
 |_=>none
section
variable {X:Cx}
theorem yl:iW X (.type "dict") (Vc (gx X) wW):=by
 intro pins s σ H xs us Q I r h
 obtain ⟨O,ds,d,m,hx,hr,q⟩:=h
 match ds,hr with
 |[.dct ks ds],hr=>
  cases hr
  obtain ⟨v,rfl,hv⟩:=sV hx
  obtain ⟨p,kvs,ws,rfl,hp,rfl,rfl,hd⟩:=zL hv
  obtain ⟨u,rfl,rx⟩:=vals1 r
  cases rx
  obtain ⟨lz,hns0,vs,kv,dd⟩:=SQ I.hok hp
  refine kt_call_dict hns0 dd (by rw [← kv.length];exact lz) λh' dn sb=>?_
  have hf:H s.heap.objs.size=none:=I.hok.fresh (Nat.le_refl _)
  have hns:(s.heap.objs.size == sysModules)=false:=by
   have:=I.big
   simpa using Nat.ne_of_gt this
  refine ⟨.ref _,_,I.laid (t':=s.toks) (λb u e=>?_) (Nat.le_refl _) (show dH X.prog X.w _ h' _ (.dK kvs) from ⟨lz,hns,_,kv,dn⟩),rfl,q _ _ (bz hf _) hf ⟨_,_,aW,rfl,rfl,?_⟩⟩
  ·rw [sb.2 b (Nat.ne_of_lt (Heap.lt_size e))]
   exact Heap.get?_push_of_some _ e
  ·exact (hd.bO λc z=>z.elim .inl λe=>.inr (by rw [e];exact hf)).mono (bz hf _)
end
noncomputable def pF (fb fk fv:Zae):Zab:=λm=>(fv m).bind λd=>(fb m).bind λc=>(fk m).bind λk=>(ofO (m6 k)).bind λk=>match c with
 | .adr a=>(ofO (HN m a 0)).bind λo=>match o.2.2 with
  | .dct ks ds=>if ks.length<sizeLine then .ok (.nx,m.set o.1 (.hd o.2.1 a (.dct (putD ks ds k d).1 (putD ks ds k d).2))) else .stuck
  |_=>.stuck
 |_=>.stuck
section
variable {X:Cx}{E:XK}{b e ke:Expr}{fb f fk:Zae}{pos spos:Pos}
theorem Jm {jj:Nat}(hr:gR jj X.A)(he:FE X E e f)(hb:FE X E b fb)(hk:FE X E ke fk)
  (hs:swapsWith e (some (.Subscript b ke spos)) pos.line X.env=pure false:=by rfl):FS X E (.Assign [.Subscript b ke spos] e pos) (pF fb fk f):=
 cL (yI (iV hr) hb hk he hs) λW σ H hE=>xq5 hE λO0 M0 H0 ow m R q=>
  ⟨O0,M0,H0,ow,m,R.toRel,(Ss.pu R.toRel q).imp (aM.refl _) λd q v H1 g1 hv=>by
   have R1:=R.mono g1
   refine ⟨O0,M0,H0,ow,m,R1.toRel,(Ss.pu R1.toRel (q.go (Go.refl g1))).imp (aM.refl _) λc q vc H2 g2 hc=>?_⟩
   have R2:=R1.mono g2
   refine ⟨O0,M0,H0,ow,m,R2.toRel,(Ss.pu R2.toRel (q.go (Go.refl g2))).imp (aM.refl _) λdk q vk H3 g3 hvk=>?_⟩
   obtain ⟨ky,h1,q⟩:=Ss.ofO q
   cases Bd (.inl hvk) h1
   have R3:=R2.mono g3
   cases c with
   |adr a=>
    cases hc
    obtain ⟨o,ho,q⟩:=Ss.ofO q
    obtain ⟨j,w,dd⟩:=o
    obtain ⟨i,e1,ho⟩:=Mi ho
    have e1:j=0+i:=e1
    rw [Nat.zero_add] at e1
    subst e1
    cases dd with
    |dct ks ds=>
     have q':Ss (gx X) E O0 M0 H0 ow H2 W (if ks.length<sizeLine then .ok (.nx,m.set j (.hd w a (.dct (putD ks ds ky d).1 (putD ks ds ky d).2))) else .stuck):=q
     clear q
     by_cases hz:ks.length<sizeLine
     ·rw [if_pos hz] at q'
      obtain ⟨x1,x2,x3,kvs,vs,e4,e5,rfl,e6⟩:=R3.slot j _ ho
      obtain ⟨p1,p2⟩:=Gi (k:=ky) (hv.mono (g2.trans g3)) e6
      rw [e5] at p1 p2
      obtain ⟨R4,g4⟩:=R3.Yx (o:=.dK (putK kvs ky v)) (d':=.dct (putD ks ds ky d).1 (putD ks ds ky d).2) ho (.inr (.inl ⟨_,rfl⟩)) (λkp=>⟨_,_,L2.aW,p1,rfl,p2.kp R3.mutk kp⟩)
      exact ⟨a,_,rfl,BJ.k e4 (by rw [← List.length_map (f:=(·.1)),e5];exact hz),q' _ _ _ R4 ((Go.refl g3).trans g4)⟩
     ·rw [if_neg hz] at q';exact q'.elim
    |_=>exact q.elim
   |_=>exact q.elim⟩
end
noncomputable def Ax:D->Bool
 | .lst ds=>jC ds
 | .dct _ ds=>jC ds
 |_=>false
section
variable {G:Gx}{O:Zaa}{H0 H H' H1:Hp}
theorem Ni {a:Addr}{d:D}(h:OV G O H a d)(f:Ax d=true)(O':Zaa):OV G O' H a d:=by
 cases d with
 |lst ds=>obtain ⟨xs,e,hs⟩:=h;exact ⟨xs,e,hs.mj f⟩
 |dct ks ds=>obtain ⟨kvs,vs,e,a,b,hs⟩:=h;exact ⟨kvs,vs,e,a,b,hs.mj f⟩
 |_=>cases f
theorem KC {a:Addr}{d:D}(h:OV G O H a d)(f:Ax d=true):fL (H a):=by
 cases d with
 |lst ds=>obtain ⟨xs,e,hs⟩:=h;exact .inl ⟨xs,e⟩
 |dct ks ds=>obtain ⟨kvs,vs,e,_⟩:=h;exact .inr (.inl ⟨kvs,e⟩)
 |_=>cases f
theorem M8 {a:Addr}{d:D}(h:OV G O H a d)(f:Ax d=true)(g:aM H H'):OV G O H' a d:=by
 cases d with
 |lst ds=>obtain ⟨xs,e,hs⟩:=h;exact ⟨xs,g _ _ e,hs.mono g⟩
 |dct ks ds=>obtain ⟨kvs,vs,e,a,b,hs⟩:=h;exact ⟨kvs,vs,g _ _ e,a,b,hs.mono g⟩
 |_=>cases f
inductive jK (G:Gx)(H0 H':Hp):List Addr->List D->Prop where
 |nil:jK G H0 H' [] []
 |cons {q:Addr} {d:D} {qs:List Addr} {ds:List D}:H0 q=none->OV G (λ_=>False) H' q d->Ax d=true->q∉qs->jK G H0 H' qs ds->jK G H0 H' (q::qs) (d::ds)
theorem jK.len:∀{qs:List Addr} {ds:List D},jK G H0 H' qs ds->qs.length=ds.length
 |_,_,.nil=>rfl
 |_,_,.cons _ _ _ _ t=>congrArg (· + 1) (jK.len t)
theorem jK.nd:∀{qs:List Addr} {ds:List D},jK G H0 H' qs ds->qs.Nodup
 |_,_,.nil=>List.nodup_nil
 |_,_,.cons _ _ _ n t=>List.nodup_cons.mpr ⟨n,jK.nd t⟩
theorem jK.free:∀{qs:List Addr} {ds:List D},jK G H0 H' qs ds->∀q∈qs,H0 q=none
 |_,_,.nil,_,h=>by cases h
 |_,_,.cons n _ _ _ t,q,h=>by
  rcases List.mem_cons.mp h with rfl | h
  ·exact n
  ·exact jK.free t q h
theorem jK.at:∀{qs:List Addr} {ds:List D},jK G H0 H' qs ds->∀(k:Nat) (a:Addr),qs[k]? = some a->∃d,ds[k]? = some d/\OV G (λ_=>False) H' a d/\Ax d=true
 |_,_,.nil,_,_,h=>by cases h
 |_,_,.cons _ o f _ t,0,a,h=>by cases h;exact ⟨_,rfl,o,f⟩
 |_,_,.cons _ _ _ _ t,k+1,a,h=>jK.at t k a h
theorem jK.mono (g:aM H1 H'):∀{qs:List Addr} {ds:List D},jK G H0 H1 qs ds->jK G H0 H' qs ds
 |_,_,.nil=>.nil
 |_,_,.cons n o f nq t=>.cons n (M8 o f g) f nq (jK.mono g t)
theorem jK.imp (g:∀q,H q=none->H0 q=none):∀{qs:List Addr} {ds:List D},jK G H H' qs ds->jK G H0 H' qs ds
 |_,_,.nil=>.nil
 |_,_,.cons n o f nq t=>.cons (g _ n) o f nq (jK.imp g t)
theorem jK.dvs:∀{qs:List Addr} {ds:List D},jK G H0 H' qs ds->DVs G O H' (qs.map .ref) (qs.map .adr)
 |_,_,.nil=>.nil
 |_,_,.cons _ _ _ _ t=>.cons (.adr _) (jK.dvs t)
end
section
variable {G:Gx}{O0 M0:Zaa}{H0 H H':Hp}{ow:Os}{σ:L2.St}{m:Me}
theorem cZ.abw {as:List Addr}{ls:List D}{j:Nat}(R:cZ G O0 M0 H0 ow σ H m)(g:aM H H')(L:jK G H H' as ls)(hj:j+as.length<=m.length):
  cZ G O0 M0 H0 (owH ow j as) σ H' (nC m j as ls)/\Go O0 ow H (owH ow j as) H':=by
 have nw:∀a∈as,¬Ow O0 ow a:=λa h=>R.toRel.Br (L.free a h)
 have inv:∀k b,owH ow j as k=some b->(∃i,k=j+i/\as[i]? = some b)\/((k<j\/j+as.length<=k)/\ow k=some b):=λk b e=>by
  unfold owH at e
  split at e
  ·rename_i q;exact .inl ⟨k-j,by omega,e⟩
  ·rename_i q;exact .inr ⟨by omega,e⟩
 have eo:∀k,(k<j\/j+as.length<=k)->owH ow j as k=ow k:=λk h=>by unfold owH;rw [if_neg (by omega)]
 have ei:∀i a,as[i]? = some a->owH ow j as (j+i)=some a:=λi a h=>by
  have:=mU h
  unfold owH;rw [if_pos (by omega),show j+i-j=i by omega];exact h
 have out:∀b,Ow O0 (owH ow j as) b->Ow O0 ow b\/b∈as:=λb z=>by
  rcases z with z | ⟨k,e⟩
  ·exact .inl (.inl z)
  ·rcases inv k b e with ⟨i,_,z⟩ | ⟨_,z⟩
   ·exact .inr (List.mem_of_getElem? z)
   ·exact .inl (.inr ⟨k,z⟩)
 have sub:∀b,Ow O0 (owH ow j as) b->Ow O0 ow b\/H b=none:=λb z=>(out b z).imp id λh=>L.free b h
 have R':=R.mono g
 refine ⟨⟨⟨by rw [xx];exact R.len,R'.keep,R'.m0,λb z=>?_,λk a e=>?_,λk l a a1 a2=>?_,λk hk=>?_,λk s e=>?_⟩,λk dd e=>?_⟩,.of g,λk a e=>?_,(Go.refl (O0:=O0) (ow:=ow) g).dom⟩
 ·rcases out b z with z | z
  ·exact R'.mutk b z
  ·obtain ⟨i,hi⟩:=List.getElem?_of_mem z
   obtain ⟨d,_,e,f⟩:=L.at i b hi
   exact KC e f
 ·rcases inv k a e with ⟨i,_,z⟩ | ⟨_,z⟩
  ·exact λw=>nw a (List.mem_of_getElem? z) (.inl w)
  ·exact R.no0 k a z
 ·rcases inv k a a1 with ⟨i,u,z⟩ | ⟨_,z⟩<;>rcases inv l a a2 with ⟨i',v,y⟩ | ⟨_,y⟩
  ·have:i=i':=by
    have h1:=mU z
    have h2:=mU y
    rw [List.getElem?_eq_getElem h1] at z
    rw [List.getElem?_eq_getElem h2] at y
    injection z with z
    injection y with y
    rcases Nat.lt_trichotomy i i' with w | w | w
    ·exact absurd (z.trans y.symm) ((List.pairwise_iff_getElem.mp L.nd) i i' h1 h2 w)
    ·exact w
    ·exact absurd (y.trans z.symm) ((List.pairwise_iff_getElem.mp L.nd) i' i h2 h1 w)
   omega
  ·exact absurd (.inr ⟨l,y⟩) (nw a (List.mem_of_getElem? z))
  ·exact absurd (.inr ⟨k,z⟩) (nw a (List.mem_of_getElem? y))
  ·exact R.inj k l a z y
 ·rw [xx] at hk
  rw [eo k (by omega)]
  exact R.out k hk
 ·by_cases c:j<=k/\k<j+as.length
  ·have hi:k-j<as.length:=by omega
   obtain ⟨d,e1,e3,e4⟩:=L.at (k-j) as[k-j] (List.getElem?_eq_getElem hi)
   have w:=zK as ls m j (k-j) _ _ hj (List.getElem?_eq_getElem hi) e1
   rw [show j+(k-j)=k by omega] at w
   rw [w] at e
   cases e
   have w2:=ei (k-j) _ (List.getElem?_eq_getElem hi)
   rw [show j+(k-j)=k by omega] at w2
   exact ⟨w2,λ_=>R.toRel.CG (L.free _ (List.getElem_mem hi)),(λz=>by cases z),Ni e3 e4 _⟩
  ·rw [sU as ls m j k (by omega)] at e
   rw [eo k (by omega)]
   exact ((R.slot k s e).bO sub λ_ _ b _=>Classical.em _).mono g
 ·by_cases c:j<=k/\k<j+as.length
  ·have hi:k-j<as.length:=by omega
   obtain ⟨d,e1,e3,e4⟩:=L.at (k-j) as[k-j] (List.getElem?_eq_getElem hi)
   have w:=zK as ls m j (k-j) _ _ hj (List.getElem?_eq_getElem hi) e1
   rw [show j+(k-j)=k by omega] at w
   rw [w] at e
   cases e
  ·rw [sU as ls m j k (by omega)] at e
   exact R.nb k dd e
 ·rcases inv k a e with ⟨i,_,z⟩ | ⟨_,z⟩
  ·exact .inr (L.free a (List.mem_of_getElem? z))
  ·exact .inl (.inr ⟨k,z⟩)
end
def tAO (G:Gx)(E:XK)(f:Zad):TA:=λσ H Q=>∃O0 M0 H0 ow m,Rel G O0 M0 H0 ow σ H m/\Pu G E (f m) H λds=>∀qs H',aM H H'->jK G H H' qs ds->Q (qs.map .ref) H'
abbrev FAO (X:Cx)(E:XK)(es:List Expr)(f:Zad):Prop:=PA X es (tAO (gx X) E f)
noncomputable def v9 (fa:Zae)(fs:Zad):Zad:=λm=>(fa m).bind λx=>if Ax x=true then (fs m).bind λxs=>.ok (x::xs) else .stuck
section
variable {X:Cx}{E:XK}{e:Expr}{es:List Expr}{fa:Zae}{fs:Zad}
theorem VM:FAO X E [] aB:=kO p6 λσ H Q hE=>xq5 hE λO0 M0 H0 ow m R q=>q [] H (aM.refl _) .nil
theorem Hu (ha:FN X E e fa)(hr:FAO X E es fs)(hs:starEach (e::es) X.env=(false,eval e X.env)::starEach es X.env:=by rfl):FAO X E (e::es) (v9 fa fs):=
 kO (jd ha hr hs) λσ H Q hE=>xq5 hE λO0 M0 H0 ow m R q=>⟨O0,M0,H0,ow,m,R,q.bind.imp (aM.refl _) λd q p H1 g1 n ov=>⟨O0,M0,H0,ow,m,R.mono g1,by
  obtain ⟨hf,q⟩:=wL q
  refine q.bind.imp g1 λds q qs H2 g2 L=>q (p::qs) H2 (g1.trans g2) (.cons n (M8 (Ni ov hf _) hf g2) hf (λhp=>?_) (L.imp λq w=>g1.free w))
  have w:=L.free p hp
  have k:=KC ov hf
  rw [w] at k
  rcases k with ⟨_,k⟩ | ⟨_,k⟩ | ⟨_,k⟩ | ⟨_,k⟩<;>cases k⟩⟩
end
def SM (i j:Nat)(fs:Zad)(k:Zab):Zab:=λm=>
 (fs m).bind λds=>if j+ds.length<=m.length/\ds.length<=sizeLine then NT ds.length (λas=>k ((nC m j as ds).set i (.fz (.lst (as.map .adr))))) m else .stuck
section
variable {X:Cx}{E:XK}{y:Str}{py pos lp:Pos}{es:List Expr}{fs:Zad}{rest:List Stmt}{kk:Zab}
theorem TQ {x1}(i j:Nat)(hN:X.N.Nodup)(hi:X.N[i]? = some y)(hy:Loc X.env.scope y)(ha:FAO X E es fs)(h3:FSs X E rest kk)
  (hs:swapsWith (.List es x1) (some (.Name y py)) pos.line X.env=pure false:=by rfl)
  (hf:X.fn y=true\/X.env.scope.names.lookup y=some .local:=by first | exact .inl rfl | exact .inr rfl | assumption):
  FSs X E (.Assign [.Name y py] (.List es x1) pos::rest) (SM i j fs kk):=by
 refine rC (Ak (xG hN hi hy (Rm ha) hs hf) h3) λW σ H hE=>xq5 hE λO0 M0 H0 ow m R q=>?_
 refine ⟨O0,M0,H0,ow,m,R.toRel,(Ss.pu R.toRel q).imp (aM.refl _) λds q qs H1 g1 L=>?_⟩
 by_cases hc:j+ds.length<=m.length/\ds.length<=sizeLine
 case neg=>rw [if_neg hc] at q;exact q.elim
 rw [if_pos hc] at q
 unfold NT at q
 split at q
 case isFalse=>exact q.elim
 rename_i HU
 have sp:=Classical.choose_spec HU
 generalize hfd:Classical.choose HU=fd' at sp q
 obtain ⟨fr,dd⟩:=fd'
 have ln:=L.len
 refine ⟨by rw [List.length_map,ln];exact hc.2,λp hp=>?_⟩
 have gs:aM H1 (L2.upd H1 p (.lst (qs.map .ref))):=bz hp _
 obtain ⟨R2,g3⟩:=R.abw (j:=j) (g1.trans gs) (L.mono gs) (by rw [ln];exact hc.1)
 have np:¬Ow O0 (owH ow j qs) p:=λz=>by
  rcases z with z | ⟨k,e⟩
  ·exact R.toRel.Br (g1.free hp) (.inl z)
  ·unfold owH at e
   split at e
   ·obtain ⟨d,_,o,f⟩:=L.at _ _ e
    have k:=KC o f
    rw [hp] at k
    rcases k with ⟨_,k⟩ | ⟨_,k⟩ | ⟨_,k⟩ | ⟨_,k⟩<;>cases k
   ·exact R.toRel.Br (g1.free hp) (.inr ⟨k,e⟩)
 have dv:DV (gx X) (Ow O0 (owH ow j qs)) (L2.upd H1 p (.lst (qs.map .ref))) (.ref p) (.lst (qs.map .adr)):=.lst (.inl ⟨np,.inl L2.aW⟩) ((L.mono gs).dvs)
 have R3:=R2.set (i:=i) dv
 obtain ⟨m',eq,hlm⟩:=sp qs ln L.nd
 refine ⟨O0,M0,H0,_,_,R3,?_⟩
 have eq:kk ((nC m j qs ds).set i (.fz (.lst (qs.map .adr))))=.ok (.rt fr dd,m'):=eq
 rw [eq]
 intro v ow' σ' H9 R9 g9 hv hfr
 obtain ⟨R10,g10⟩:=R9.forget (m':=m) hlm.symm
 refine q v _ σ' H9 R10 (((g3.trans Go.set).trans g9).trans g10) (hv.bO λb z=>.inl (z.elim .inl λ⟨_,e⟩=>by cases e)) λz=>?_
 rcases hfr z with ⟨p0,u1,u2,u3⟩ | t
 ·exact .inl ⟨p0,u1,u2,u3.bO λb z=>.inl (z.elim (λw=>.inl (w.elim .inl λ⟨_,e⟩=>by cases e)) .inr)⟩
 ·exact .inr t
end
theorem zm {X:Cx}{pins:Zl}{σ:L2.St}{H:Hp}{h':Heap}:∀(L:List Addr) (s:Shared),Inv X pins σ H s->L.Nodup->(∀b∈L,tU X pins H b)->(∀b∈L,∃o,s.heap.get? b=some o)->(∀b∈L,∃o,h'.get? b=some o/\o.isFreed=false)->
  (∀b o,b∉L->s.heap.get? b=some o->h'.get? b=some o)->∃h1,Inv X pins σ H { s with heap:=h1 }/\h1.objs.size=s.heap.objs.size/\∀b u,h1.get? b=some u->h'.get? b=some u
 |[],s,I,_,_,_,_,k=>⟨s.heap,I,rfl,λb u e=>k b u (by simp) e⟩
 |e::L,s,I,nd,fp,he,hn,k=>by
  obtain ⟨nd1,nd2⟩:=List.nodup_cons.mp nd
  obtain ⟨oe,q1,q2⟩:=hn e List.mem_cons_self
  obtain ⟨o0,q0⟩:=he e List.mem_cons_self
  obtain ⟨f0,f1,f2,f3,f4,f5⟩:=fp e List.mem_cons_self
  have I1:Inv X pins σ H { s with heap:=s.heap.update e λ_=>oe }:=I.turned (t':=s.toks) (λb o hb x=>(Heap.get?_update_other _ _ (Ne.symm hb)).trans x) f0 f1 f3 f4 f5
  obtain ⟨h1,I2,z,kk⟩:=zm (h':=h') L { s with heap:=s.heap.update e λ_=>oe } I1 nd2 (λb hb=>fp b (List.mem_cons_of_mem _ hb)) (λb hb=>by
   obtain ⟨o,ho⟩:=he b (List.mem_cons_of_mem _ hb)
   exact ⟨o,(Heap.get?_update_other _ _ (λ(y:e=b)=>nd1 (by rw [y];exact hb))).trans ho⟩) (λb hb=>hn b (List.mem_cons_of_mem _ hb)) λb o hb x=>by
   have x:(s.heap.update e λ_=>oe).get? b=some o:=x
   by_cases y:b=e
   ·subst y
    rw [Heap.get?_update_self (λ_=>oe) q0 q2] at x
    cases x
    exact q1
   ·rw [Heap.get?_update_other _ _ (Ne.symm y)] at x
    exact k b o (λw=>(List.mem_cons.mp w).elim y hb) x
  exact ⟨h1,I2,z.trans (Heap.SameBut.update _ _ _).1,kk⟩
theorem Inv.Vi {X:Cx}{pins:Zl}{σ:L2.St}{H:Hp}{s:Shared}{h':Heap}{t':Nat}(L:List Addr)(I:Inv X pins σ H s)(fp:∀b∈L,tU X pins H b)(k:∀b o,b∉L->s.heap.get? b=some o->h'.get? b=some o):Inv X pins σ H { s with heap:=h',toks:=t' }:=by
 have nit:∀b u,H b=some u->b∉L:=λb u e z=>by have:=(fp b z).1;rw [this] at e;cases e
 by_cases hL:X.env.locals∈L
 ·exact absurd rfl (fp _ hL).2.1
 refine I.step (g':=s.gens) (d':=s.drawn) (ch:=L) (λb hb=>?_) (λb o _ _ hc e _=>k b o hc e) (λb o _ _ hc e _=>⟨o.slots,k b o hc e⟩) (λ_ _ _ _ n=>n)
  (λb o hc e=>⟨o,k b o hc e⟩) (λ_ _ e=>e) (λ_ _ _ e=>e) (λb ps e=>⟨#[],by rw [e];simp⟩) (λm hm=>?_) (λb u e=>?_) I.bare
 ·obtain ⟨_,h1,_,h2,h3,h4⟩:=fp b hb
  exact ⟨h2,h1,h3,h4⟩
 ·obtain ⟨o,es,ep,ho,r⟩:=hm
  exact ⟨o,es,ep,k _ o hL ho,r⟩
 ·refine (I.hok b u e).stay (λc v hc q=>k c v ?_ q) (λ_ q=>q) λ_ _ q=>q
  rcases hc with z | z
  ·rw [z];exact nit b u e
  ·exact nit c _ z
section
variable {X:Cx}
theorem boot_zip:bootBuiltins "zip" = some (.type "zip"):=by decide +kernel
theorem vals2 {a b:V}{us:List Value}(r:Vals [a,b] us):∃u v,us=[u,v]/\RelV a u/\RelV b v:=by
 cases r with
 |cons r1 r2=>
  cases r2 with
  |cons r2 r3=>cases r3;exact ⟨_,_,rfl,r1,r2⟩
noncomputable def yr:List D->List D->List D
 |a::as,b::bs=>.tup [a,b]::yr as bs
 |_,_=>[]
theorem vO:∀as bs:List D,(yr as bs).length=min as.length bs.length
 |[],_=>by simp [yr]
 |_::_,[]=>by simp [yr]
 |a::as,b::bs=>by rw [yr,List.length_cons,vO as bs];simp
theorem Mz:∀{as bs:List D} {i:Nat} {a b:D},as[i]? = some a->bs[i]? = some b->(yr as bs)[i]? = some (.tup [a,b])
 |[],_,_,_,_,h,_=>by simp at h
 |_::_,[],_,_,_,_,h=>by simp at h
 |x::as,y::bs,0,a,b,h1,h2=>by
  have h1:x=a:=by simpa using h1
  have h2:y=b:=by simpa using h2
  rw [h1,h2];rfl
 |x::as,y::bs,i+1,a,b,h1,h2=>Mz (as:=as) (bs:=bs) (i:=i) (by simpa using h1) (by simpa using h2)
end
section
variable {pr:Program}{wo:World}{Ar:Around}{Ex:Zs}{st:Shared}
theorem DQ {c t:Addr}{k:Nat}{its:Array Value}{v:Value}{R:Zs}(ci:st.heap.IsTupleIter c t k)(ct:st.heap.IsTuple t its)(cv:its[k]? = some v)
  (r:∀g,g.IsTupleIter c t (k+1)->Heap.SameBut c st.heap g->R v { st with heap:=g }):wpAny (model pr wo) Ar (Builtin.SmallTypes.nextOf (.ref c)) R Ex st:=by
 obtain ⟨oc,g1,g2,g3⟩:=id ci
 obtain ⟨ot,f1,_,n,f3⟩:=ct
 unfold Builtin.SmallTypes.nextOf
 refine wpAny_bind (wpAny_callSpecial?_slot (name:=Str.ofString "__next__") ci.typeIs PySem.F.slot_tuple_iterator_next (wpAny_call_entry PySem.F.slot_tuple_iterator_next ci.typeIs PySem.F.entry_tuple_iterator_next ?_ (PySem.F.args_tuple_iterator_next_1 _)))
 refine (show wpAny _ _ (field (.ref c) 0 >>= _) _ _ st from wpAny_bind (wpAny_field g1 g3 (x:=.ref t) rfl ?_))
 show wpAny _ _ (if (Value.ref t == Value.none)=true then _ else _) _ _ st
 rw [if_neg (by intro z;cases z)]
 refine (show wpAny _ _ (field (.ref c) 1 >>= _) _ _ st from wpAny_bind (wpAny_field g1 g3 (x:=.int k 0) rfl ?_))
 refine (show wpAny _ _ (seqItems? (.ref t) >>= _) _ _ st from wpAny_bind (wpAny_seqItems f1 f3 ?_))
 simp only [Int.toNat_natCast,cv]
 refine wpAny_bind (wpAny_setField g1 g3 (by simp) (wpAny_pure ⟨v,rfl,wpAny_pure (r _ ⟨_,Heap.get?_update_self _ g1 (Obj.isFreed_of_fields (Obj.data_mapFields g3 _)),(Obj.cls_mapFields ..).trans g2,?_⟩ (Heap.SameBut.update ..))⟩))
 rw [Obj.data_mapFields g3]
 simp [rawInt]
theorem Ls {c t:Addr}{k:Nat}{its:Array Value}{R:Zs}(hn:Ar.handled=none)(ci:st.heap.IsTupleIter c t k)(ct:st.heap.IsTuple t its)(cv:its[k]? = none)
  (r:∀g e,Heap.ExtBut c st.heap g->(∃o,g.get? e=some o/\o.cls=.type "StopIteration")->Ex (.ref e) { st with heap:=g }):wpAny (model pr wo) Ar (Builtin.SmallTypes.nextOf (.ref c)) R Ex st:=by
 obtain ⟨oc,g1,g2,g3⟩:=id ci
 obtain ⟨ot,f1,_,n,f3⟩:=ct
 unfold Builtin.SmallTypes.nextOf
 refine wpAny_bind (wpAny_callSpecial?_slot (name:=Str.ofString "__next__") ci.typeIs PySem.F.slot_tuple_iterator_next (wpAny_call_entry PySem.F.slot_tuple_iterator_next ci.typeIs PySem.F.entry_tuple_iterator_next ?_ (PySem.F.args_tuple_iterator_next_1 _)))
 refine (show wpAny _ _ (field (.ref c) 0 >>= _) _ _ st from wpAny_bind (wpAny_field g1 g3 (x:=.ref t) rfl ?_))
 show wpAny _ _ (if (Value.ref t == Value.none)=true then _ else _) _ _ st
 rw [if_neg (by intro z;cases z)]
 refine (show wpAny _ _ (field (.ref c) 1 >>= _) _ _ st from wpAny_bind (wpAny_field g1 g3 (x:=.int k 0) rfl ?_))
 refine (show wpAny _ _ (seqItems? (.ref t) >>= _) _ _ st from wpAny_bind (wpAny_seqItems f1 f3 ?_))
 simp only [Int.toNat_natCast,cv]
 refine wpAny_bind (wpAny_rule (wpAny_bind (wpAny_setField g1 g3 (by simp) (show wpAny _ _ (newExc (.type "StopIteration") [] >>= _) _ _ _ from wpAny_bind ?_))))
 simp only [newExc,newTuple]
 refine wpAny_bind (wpAny_newObj_type (wpAny_bind (m:=firstArgMember _ _) (wpAny_of_eq (a:=Value.none) (by first | rfl | (simp only [firstArgMember];rfl)) (wpAny_newObj_type ?_ (by size_fits)))) (by size_fits))
 simp only [raiseNew]
 refine wpAny_bind (wpAny_handled ?_)
 first | rw [show Ar.in1.handled=none from hn] | rw [hn]
 exact wpAny_bind (wpAny_pure (wpAny_throw (r _ _ (((Heap.SameBut.update ..).extBut.push _).push _) ⟨_,Heap.get?_push_size _ rfl,rfl⟩)))
theorem Wo {z a b i j t u:Addr}{m n:Nat}{xs ys:Array Value}{x y p q:Value}{R:Zs}(D:ZipApart z a b i j t u)(z0:IsZip st.heap z a b .none)(a0:IsPair st.heap a (.ref i) (.ref j))(b0:IsPair st.heap b p q)
  (i0:st.heap.IsTupleIter i t m) (j0:st.heap.IsTupleIter j u n) (t0:st.heap.IsTuple t xs) (u0:st.heap.IsTuple u ys) (ex:xs[m]? = some x) (ey:ys[n]? = some y)
  (r:∀g,IsZip g z a b (rawInt st.heap.objs.size)->IsPair g b x y->g.IsTupleIter i t (m+1)->g.IsTupleIter j u (n+1)->IsPair g st.heap.objs.size x y->g.objs.size=st.heap.objs.size+1->
   (∀c o,c≠z->c≠b->c≠i->c≠j->st.heap.get? c=some o->g.get? c=some o)->R (.ref st.heap.objs.size) { st with heap:=g }):
  wpAny (model pr wo) Ar (Builtin.«zip.__next__» ⟨[.ref z],[]⟩) (λfin s'=>∃v,fin=.done (.ret v)/\R v s') Ex st:=by
 refine (show wpAny _ _ (field (.ref z) 2 >>= _) _ _ _ from wpAny_bind (wpAny_field z0 rfl (x:=.bool false) rfl (show wpAny _ _ (field (.ref z) 3 >>= _) _ _ _ from wpAny_bind (wpAny_field z0 rfl (x:=.ref a) rfl (wpAny_bind (wpAny_seqItems a0 rfl ?_))))))
 refine (show wpAny _ _ (Builtin.SmallTypes.ownedTupleIsFree (.ref z) >>= _) _ _ _ from wpAny_bind ?_)
 unfold Builtin.SmallTypes.ownedTupleIsFree
 refine wpAny_bind (wpAny_field z0 rfl (x:=.none) rfl (wpAny_pure ?_))
 simp only [if_true]
 refine wpAny_bind (wpAny_rule (wpAny_bind (wpAny_field z0 rfl (x:=.ref b) rfl (wpAny_bind (wpAny_setField_rec z0 (by simp) λg1 z1 k1=>?_)))))
 replace z1:IsZip g1 z a b .ellipsis:=z1
 refine wpAny_bind ?_
 simp only [List.zipIdx_cons,List.zipIdx_nil,List.forIn_cons,List.forIn_nil]
 refine wpAny_bind (wpAny_bind (wpAny_onRaise (show wpAny _ _ (Builtin.SmallTypes.nextOf (.ref i) >>= _) _ _ _ from ?_)))
 refine wpAny_bind (DQ (i0.extBut k1.extBut D.i1z) (t0.extBut k1.extBut D.l1z) ex λg2 i2 k2=>wpAny_pure ?_)
 have b2:IsPair g2 b p q:=k2.extBut _ _ D.TOi1 (k1.extBut _ _ D.TOz b0)
 refine wpAny_bind (wpAny_seqItems b2 rfl (wpAny_bind (wpAny_updateSeq_pair b2 λg3 b3 k3=>wpAny_bind (wpAny_letGo (wpAny_pure ?_)))))
 replace b3:IsPair g3 b x q:=b3
 refine wpAny_bind (wpAny_bind (wpAny_onRaise (show wpAny _ _ (Builtin.SmallTypes.nextOf (.ref j) >>= _) _ _ _ from ?_)))
 refine wpAny_bind (DQ (((j0.extBut k1.extBut D.i2z).extBut k2.extBut D.i12.symm).extBut k3.extBut D.TOi2.symm) (((u0.extBut k1.extBut D.l2z).extBut k2.extBut D.l2i1).extBut k3.extBut D.l2TO) ey λg4 j4 k4=>wpAny_pure ?_)
 have b4:IsPair g4 b x q:=k4.extBut _ _ D.TOi2 b3
 refine wpAny_bind (wpAny_seqItems b4 rfl (wpAny_bind (wpAny_updateSeq_pair b4 λg5 b5 k5=>wpAny_bind (wpAny_letGo (wpAny_pure (wpAny_pure ?_))))))
 replace b5:IsPair g5 b x y:=b5
 refine wpAny_bind (wpAny_seqItems b5 rfl (wpAny_bind (wpAny_newTuple ?_)))
 have sz:g5.objs.size=st.heap.objs.size:=by rw [k5.1,k4.1,k3.1,k2.1,k1.1]
 have z5:IsZip g5 z a b .ellipsis:=k5.extBut _ _ D.TOz.symm (k4.extBut _ _ D.i2z.symm (k3.extBut _ _ D.TOz.symm (k2.extBut _ _ D.i1z.symm z1)))
 have kk:∀c o,c≠z->c≠b->c≠i->c≠j->st.heap.get? c=some o->g5.get? c=some o:=λc o c1 c2 c3 c4 e=>k5.extBut _ _ c2 (k4.extBut _ _ c4 (k3.extBut _ _ c2 (k2.extBut _ _ c3 (k1.extBut _ _ c1 e))))
 have i5:g5.IsTupleIter i t (m+1):=((i2.extBut k3.extBut D.TOi1.symm).extBut k4.extBut D.i12).extBut k5.extBut D.TOi1.symm
 have j5:g5.IsTupleIter j u (n+1):=j4.extBut k5.extBut D.TOi2.symm
 have lz:z<g5.objs.size:=Heap.lt_size z5
 refine (show wpAny _ _ (Builtin.SmallTypes.ownedTupleHandOut (.ref z) (.ref g5.objs.size) >>= _) _ _ _ from wpAny_bind ?_)
 unfold Builtin.SmallTypes.ownedTupleHandOut
 refine wpAny_bind (wpAny_setField_rec (show IsZip (g5.push { cls:=.type "tuple",data:=.seq #[x,y] }) z a b .ellipsis from Heap.get?_push_of_some _ z5) (by simp) λg7 z7 k7=>?_)
 replace z7:IsZip g7 z a b (rawInt g5.objs.size):=z7
 refine wpAny_setField_rec z7 (by simp) λg8 z8 k8=>?_
 replace z8:IsZip g8 z a b (rawInt g5.objs.size):=z8
 have up:∀c o,c≠z->g5.get? c=some o->g8.get? c=some o:=λc o c1 e=>k8.extBut _ _ c1 (k7.extBut _ _ c1 (Heap.get?_push_of_some _ e))
 have n8:IsPair g8 g5.objs.size x y:=k8.extBut _ _ (Nat.ne_of_gt lz) (k7.extBut _ _ (Nat.ne_of_gt lz) (Heap.get?_push_size _ rfl))
 have s8:g8.objs.size=g5.objs.size+1:=by rw [k8.1,k7.1,Heap.size_push]
 rw [sz] at z8 n8 s8
 refine wpAny_pure ⟨_,rfl,(show R (.ref g5.objs.size) _ from ?_)⟩
 rw [sz]
 obtain ⟨oi,ei,ri⟩:=i5
 obtain ⟨oj,ej,rj⟩:=j5
 exact r g8 z8 (up _ _ D.TOz b5) ⟨oi,up _ _ D.i1z ei,ri⟩ ⟨oj,up _ _ D.i2z ej,rj⟩ n8 s8 λc o c1 c2 c3 c4 e=>up c o c1 (kk c o c1 c2 c3 c4 e)
theorem WL {z a b i j t u:Addr}{m n:Nat}{xs ys:Array Value}{p q:Value}{R:Fin->Shared->Prop}(hn:Ar.handled=none)(D:ZipApart z a b i j t u)(z0:IsZip st.heap z a b .none)(a0:IsPair st.heap a (.ref i) (.ref j))(b0:IsPair st.heap b p q)
  (i0:st.heap.IsTupleIter i t m) (j0:st.heap.IsTupleIter j u n) (t0:st.heap.IsTuple t xs) (u0:st.heap.IsTuple u ys) (en:xs[m]? = none\/ys[n]? = none)
  (r:∀g e,(∀c o,c≠z->c≠b->c≠i->c≠j->st.heap.get? c=some o->g.get? c=some o)->(∃o,g.get? e=some o/\o.cls=.type "StopIteration")->Ex (.ref e) { st with heap:=g }):
  wpAny (model pr wo) Ar (Builtin.«zip.__next__» ⟨[.ref z],[]⟩) R Ex st:=by
 refine (show wpAny _ _ (field (.ref z) 2 >>= _) _ _ _ from wpAny_bind (wpAny_field z0 rfl (x:=.bool false) rfl (show wpAny _ _ (field (.ref z) 3 >>= _) _ _ _ from wpAny_bind (wpAny_field z0 rfl (x:=.ref a) rfl (wpAny_bind (wpAny_seqItems a0 rfl ?_))))))
 refine (show wpAny _ _ (Builtin.SmallTypes.ownedTupleIsFree (.ref z) >>= _) _ _ _ from wpAny_bind ?_)
 unfold Builtin.SmallTypes.ownedTupleIsFree
 refine wpAny_bind (wpAny_field z0 rfl (x:=.none) rfl (wpAny_pure ?_))
 simp only [if_true]
 refine wpAny_bind (wpAny_rule (wpAny_bind (wpAny_field z0 rfl (x:=.ref b) rfl (wpAny_bind (wpAny_setField_rec z0 (by simp) λg1 z1 k1=>?_)))))
 replace z1:IsZip g1 z a b .ellipsis:=z1
 refine wpAny_bind ?_
 simp only [List.zipIdx_cons,List.zipIdx_nil,List.forIn_cons,List.forIn_nil]
 refine wpAny_bind (wpAny_bind (wpAny_onRaise (show wpAny _ _ (Builtin.SmallTypes.nextOf (.ref i) >>= _) _ _ _ from ?_)))
 cases ex:xs[m]? with
 |none=>
  refine wpAny_bind (Ls hn (i0.extBut k1.extBut D.i1z) (t0.extBut k1.extBut D.l1z) ex λg2 e k2 he=>?_)
  obtain ⟨oe,e1,e2⟩:=he
  have z2:IsZip g2 z a b .ellipsis:=k2 _ _ D.i1z.symm z1
  have ne:e≠z:=λw=>by subst w;rw [z2] at e1;cases e1;simp at e2
  exact wpAny_setField_rec z2 (by simp) λg3 _ k3=>r g3 e (λc o c1 _ c3 _ w=>k3.extBut _ _ c1 (k2 _ _ c3 (k1.extBut _ _ c1 w))) ⟨oe,k3.extBut _ _ ne e1,e2⟩
 |some x=>
  have ey:ys[n]? = none:=en.elim (λw=>by rw [ex] at w;cases w) id
  refine wpAny_bind (DQ (i0.extBut k1.extBut D.i1z) (t0.extBut k1.extBut D.l1z) ex λg2 i2 k2=>wpAny_pure ?_)
  have b2:IsPair g2 b p q:=k2.extBut _ _ D.TOi1 (k1.extBut _ _ D.TOz b0)
  refine wpAny_bind (wpAny_seqItems b2 rfl (wpAny_bind (wpAny_updateSeq_pair b2 λg3 b3 k3=>wpAny_bind (wpAny_letGo (wpAny_pure ?_)))))
  refine wpAny_bind (wpAny_bind (wpAny_onRaise (show wpAny _ _ (Builtin.SmallTypes.nextOf (.ref j) >>= _) _ _ _ from ?_)))
  refine wpAny_bind (Ls hn (((j0.extBut k1.extBut D.i2z).extBut k2.extBut D.i12.symm).extBut k3.extBut D.TOi2.symm) (((u0.extBut k1.extBut D.l2z).extBut k2.extBut D.l2i1).extBut k3.extBut D.l2TO) ey λg4 e k4 he=>?_)
  obtain ⟨oe,e1,e2⟩:=he
  have z4:IsZip g4 z a b .ellipsis:=k4 _ _ D.i2z.symm (k3.extBut _ _ D.TOz.symm (k2.extBut _ _ D.i1z.symm z1))
  have ne:e≠z:=λw=>by subst w;rw [z4] at e1;cases e1;simp at e2
  exact wpAny_setField_rec z4 (by simp) λg5 _ k5=>r g5 e (λc o c1 c2 c3 c4 w=>k5.extBut _ _ c1 (k4 _ _ c4 (k3.extBut _ _ c2 (k2.extBut _ _ c3 (k1.extBut _ _ c1 w))))) ⟨oe,k5.extBut _ _ ne e1,e2⟩
theorem QC {z a b i j t u:Addr}{m n:Nat}{xs ys:Array Value}{x y p q:Value}{R:Option Value->Shared->Prop}(D:ZipApart z a b i j t u)(z0:IsZip st.heap z a b .none)(a0:IsPair st.heap a (.ref i) (.ref j))(b0:IsPair st.heap b p q)
  (i0:st.heap.IsTupleIter i t m) (j0:st.heap.IsTupleIter j u n) (t0:st.heap.IsTuple t xs) (u0:st.heap.IsTuple u ys) (ex:xs[m]? = some x) (ey:ys[n]? = some y)
  (r:∀g,IsZip g z a b (rawInt st.heap.objs.size)->IsPair g b x y->g.IsTupleIter i t (m+1)->g.IsTupleIter j u (n+1)->IsPair g st.heap.objs.size x y->g.objs.size=st.heap.objs.size+1->
   (∀c o,c≠z->c≠b->c≠i->c≠j->st.heap.get? c=some o->g.get? c=some o)->R (some (.ref st.heap.objs.size)) { st with heap:=g }):wpAny (model pr wo) Ar (pyNext (.ref z)) R Ex st:=by
 have ty:st.TypeIs (.ref z) "zip":=⟨_,z0,rfl⟩
 unfold pyNext
 exact wpAny_bind (wpAny_attempt (wpAny_callSpecial?_slot (name:=Str.ofString "__next__") ty PySem.F.slot_zip_next (wpAny_call_entry PySem.F.slot_zip_next ty PySem.F.entry_zip_next (Wo D z0 a0 b0 i0 j0 t0 u0 ex ey λg a1 a2 a3 a4 a5 a6 a7=>wpAny_pure (r g a1 a2 a3 a4 a5 a6 a7)) (PySem.F.args_zip_next_1 _))))
theorem Tv {z a b i j t u:Addr}{m n:Nat}{xs ys:Array Value}{p q:Value}{R:Option Value->Shared->Prop}(hn:Ar.handled=none)(D:ZipApart z a b i j t u)(z0:IsZip st.heap z a b .none)(a0:IsPair st.heap a (.ref i) (.ref j))(b0:IsPair st.heap b p q)
  (i0:st.heap.IsTupleIter i t m) (j0:st.heap.IsTupleIter j u n) (t0:st.heap.IsTuple t xs) (u0:st.heap.IsTuple u ys) (en:xs[m]? = none\/ys[n]? = none)
  (r:∀g,(∀c o,c≠z->c≠b->c≠i->c≠j->st.heap.get? c=some o->g.get? c=some o)->R none { st with heap:=g }):wpAny (model pr wo) Ar (pyNext (.ref z)) R Ex st:=by
 have ty:st.TypeIs (.ref z) "zip":=⟨_,z0,rfl⟩
 unfold pyNext
 refine wpAny_bind (wpAny_attempt (wpAny_callSpecial?_slot (name:=Str.ofString "__next__") ty PySem.F.slot_zip_next (wpAny_call_entry PySem.F.slot_zip_next ty PySem.F.entry_zip_next (WL hn D z0 a0 b0 i0 j0 t0 u0 en λg e hk he=>?_) (PySem.F.args_zip_next_1 _))))
 obtain ⟨o,ho,hc⟩:=he
 exact wpAny_bind (wpAny_isInstance (T:="StopIteration") (b:=true) ⟨o,ho,hc⟩ isSubtype_stop (wpAny_pure (r _ hk)))
end
noncomputable def tzH (h:Heap)(t u:Addr):Heap:=((((h.push { cls:=.type "tuple_iterator",data:=.fields #[.ref t,.int 0 0] }).push { cls:=.type "tuple_iterator",data:=.fields #[.ref u,.int 0 0] }).push { cls:=.type "tuple",data:=.seq #[.ref h.objs.size,.ref (h.objs.size+1)] }).push { cls:=.type "tuple",data:=.seq #[.none,.none] }).push { cls:=.type "zip",data:=.fields #[.none,.bool false,.bool false,.ref (h.objs.size+2),.ref (h.objs.size+3)] }
theorem YX (t u:Addr)(xs ys:Array Value):Meets (Builtin.«zip.__new__» ⟨[.type "zip",.ref t,.ref u],[]⟩) (λ_ R s=>s.heap.IsTuple t xs/\s.heap.IsTuple u ys/\R (.ok (.ret (.ref (s.heap.objs.size+4)))) { s with heap:=tzH s.heap t u }):=
 .of_wp λprog w A R s h=>by
  obtain ⟨hp,g,d,tk,os⟩:=s;obtain ⟨h1,h2,h⟩:=h
  have hsub:=PySem.sub_zip
  have t1:Heap.IsTuple (Shared.heap ⟨hp,g,d,tk,os⟩) t xs:=h1
  have t2:Heap.IsTuple (Shared.heap ⟨hp.push { cls:=.type "tuple_iterator",data:=.fields #[.ref t,.int 0 0] },g,d,tk,os⟩) u ys:=by
   obtain ⟨o,e,r⟩:=h2
   exact ⟨o,Heap.get?_push_of_some _ e,r⟩
  unfold tzH at h
  wp_walk using wpAny_pyIter_tuple t1,wpAny_pyIter_tuple t2
  refine ⟨_,rfl,?_⟩
  simp only [Heap.size_push] at h ⊢
  exact h
section
variable {pr:Program}{wo:World}{Ar:Around}{Ex:Zs}{st:Shared}
theorem Vo {t u:Addr}{xs ys:Array Value}{R:Zs}(t0:st.heap.IsTuple t xs)(u0:st.heap.IsTuple u ys)
  (r:∀g,IsZip g (st.heap.objs.size+4) (st.heap.objs.size+2) (st.heap.objs.size+3) .none->IsPair g (st.heap.objs.size+2) (.ref st.heap.objs.size) (.ref (st.heap.objs.size+1))->IsPair g (st.heap.objs.size+3) .none .none->
   g.IsTupleIter st.heap.objs.size t 0->g.IsTupleIter (st.heap.objs.size+1) u 0->g.objs.size=st.heap.objs.size+5->(∀c o,st.heap.get? c=some o->g.get? c=some o)->R (.ref (st.heap.objs.size+4)) { st with heap:=g }):
  wpAny (model pr wo) Ar (call (.type "zip") [.ref t,.ref u]) R Ex st:=by
 refine callType_new PySem.F.called_zip (by decide) (PySem.F.typeCall_zip_2 _ _) (PySem.F.newCall_zip_2 _ _) (λobj=>PySem.F.args_object_init_3 obj _ _) PySem.F.entry_zip_new (YX t u xs ys) ⟨t0,u0,?_⟩
 have gp:∀(h:Heap) (o:Obj) (n:Nat),h.objs.size=n->o.isFreed=false->(h.push o).get? n=some o:=λh o n e f=>by subst e;exact Heap.get?_push_size _ f
 have g5:(tzH st.heap t u).get? (st.heap.objs.size+4)=some _:=gp _ _ _ (by simp only [Heap.size_push]) rfl
 have g4:(tzH st.heap t u).get? (st.heap.objs.size+3)=some _:=Heap.get?_push_of_some _ (gp _ _ _ (by simp only [Heap.size_push]) rfl)
 have g3:(tzH st.heap t u).get? (st.heap.objs.size+2)=some _:=Heap.get?_push_of_some _ (Heap.get?_push_of_some _ (gp _ _ _ (by simp only [Heap.size_push]) rfl))
 have g2:(tzH st.heap t u).get? (st.heap.objs.size+1)=some _:=Heap.get?_push_of_some _ (Heap.get?_push_of_some _ (Heap.get?_push_of_some _ (gp _ _ _ (by simp only [Heap.size_push]) rfl)))
 have g1:(tzH st.heap t u).get? st.heap.objs.size=some _:=Heap.get?_push_of_some _ (Heap.get?_push_of_some _ (Heap.get?_push_of_some _ (Heap.get?_push_of_some _ (gp _ _ _ rfl rfl))))
 exact ⟨⟨_,g5,rfl⟩,r _ g5 g3 g4 ⟨_,g1,rfl,rfl⟩ ⟨_,g2,rfl,rfl⟩ (by unfold tzH;simp only [Heap.size_push]) λc o x=>Heap.get?_push_of_some _ (Heap.get?_push_of_some _ (Heap.get?_push_of_some _ (Heap.get?_push_of_some _ (Heap.get?_push_of_some _ x))))⟩
end
noncomputable def Ity (K : W.Frag) (a b : Addr) : It :=
  ⟨λi H => ∃ xs ys x y, SqT K H a xs ∧ SqT K H b ys ∧ xs[i]? = some x ∧ ys[i]? = some y,
   λi H x H' => ∃ y1 y2 l, (∀ xs, SqT K H a xs → xs[i]? = some y1) ∧ (∀ ys, SqT K H b ys → ys[i]? = some y2) ∧ x = .ref l ∧ H l = none ∧ H' = upd H l (.tup [y1, y2]),
   λi H => ∃ xs ys, SqT K H a xs ∧ SqT K H b ys ∧ (xs.length ≤ i ∨ ys.length ≤ i)⟩
theorem Qq {P:Program}{w:World}{K:W.Frag}{elts:List Expr}{x1}{pos:Pos}(z TI TO i1 i2 a b:Addr)(D:ZipApart z TI TO i1 i2 a b):
  Turn P w K (.Tuple elts x1 pos) (Ity K a b) [z,TI,TO,i1,i2] z (λi h=>IsZip h z TI TO .none/\IsPair h TI (.ref i1) (.ref i2)/\(∃u v,IsPair h TO u v)/\h.IsTupleIter i1 a i/\h.IsTupleIter i2 b i) where
 mem:=by simp
 obj:=λi h ⟨q1,q2,⟨u,v,q3⟩,⟨o4,e4,c4,d4⟩,⟨o5,e5,c5,d5⟩⟩ c hc=>by
  have ec:c=z\/c=TI\/c=TO\/c=i1\/c=i2:=by simpa using hc
  rcases ec with rfl | rfl | rfl | rfl | rfl
  ·exact ⟨_,q1,λv z=>by cases (show Data.fields _=Data.cell v from z)⟩
  ·exact ⟨_,q2,λv z=>by cases (show Data.seq _ _=Data.cell v from z)⟩
  ·exact ⟨_,q3,λv z=>by cases (show Data.seq _ _=Data.cell v from z)⟩
  ·exact ⟨_,e4,λv z=>by rw [d4] at z;cases z⟩
  ·exact ⟨_,e5,λv z=>by rw [d5] at z;cases z⟩
 keep:=λi h h' ⟨q1,q2,⟨u,v,q3⟩,q4,q5⟩ k=>⟨k z (by simp) _ q1,k TI (by simp) _ q2,⟨u,v,k TO (by simp) _ q3⟩,q4.at λo x=>k i1 (by simp) o x,q5.at λo x=>k i2 (by simp) o x⟩
 item:=by
  intro X hP hw hK hc i pins s σ H E I hf st hg
  subst hP hw hK
  obtain ⟨xs,ys,x,y,hq,hq2,hx,hy⟩:=hg
  obtain ⟨q1,q2,⟨u,v,q3⟩,q4,q5⟩:=st
  obtain ⟨its,rv,p,hz⟩:=I.tuple hq
  obtain ⟨its2,rv2,p2,hz2⟩:=I.tuple hq2
  obtain ⟨ux,hu,ru⟩:=rv.get hx
  obtain ⟨uy,hu2,ru2⟩:=rv2.get hy
  refine QC D q1 q2 q3 q4 q5 (show s.heap.IsTuple a its.toArray from p) (show s.heap.IsTuple b its2.toArray from p2) (x:=ux) (y:=uy) (by simpa using hu) (by simpa using hu2) λh' a1 a2 a3 a4 a5 a6 k=>?_
  obtain ⟨o4,e4,c4,d4⟩:=id a3
  obtain ⟨o5,e5,c5,d5⟩:=id a4
  obtain ⟨p4,f4,_,_⟩:=id q4
  obtain ⟨p5,f5,_,_⟩:=id q5
  obtain ⟨h1,I1,z1,k1⟩:=zm (h':=h') [z,TO,i1,i2] s I (by simp [Ne.symm D.TOz,Ne.symm D.i1z,Ne.symm D.i2z,D.TOi1,D.TOi2,D.i12]) (λc hc=>hf c (by simp at hc ⊢;rcases hc with rfl | rfl | rfl | rfl<;>simp)) (λc hc=>by
   have ec:c=z\/c=TO\/c=i1\/c=i2:=by simpa using hc
   rcases ec with rfl | rfl | rfl | rfl
   ·exact ⟨_,q1⟩
   ·exact ⟨_,q3⟩
   ·exact ⟨_,f4⟩
   ·exact ⟨_,f5⟩) (λc hc=>by
   have ec:c=z\/c=TO\/c=i1\/c=i2:=by simpa using hc
   rcases ec with rfl | rfl | rfl | rfl
   ·exact ⟨_,a1,rfl⟩
   ·exact ⟨_,a2,rfl⟩
   ·exact ⟨_,e4,Bx d4⟩
   ·exact ⟨_,e5,Bx d5⟩) λc o hc e=>k c o (λy=>hc (by simp [y])) (λy=>hc (by simp [y])) (λy=>hc (by simp [y])) (λy=>hc (by simp [y])) e
  have I2:Inv X pins σ (upd H s.heap.objs.size (.tup [x,y])) { s with heap:=h',toks:=s.toks }:=
   I1.laid (t':=s.toks) k1 (Nat.le_of_eq z1) (show dH X.prog X.w _ _ _ (.tup [x,y]) from ⟨(show 2<=sizeLine by decide),[ux,uy],.cons ru (.cons ru2 .nil),⟨_,a5,rfl,_,rfl⟩⟩)
  have fr:H s.heap.objs.size=none:=I.hok.fresh (Nat.le_refl _)
  have nn:∀c,(∃o,s.heap.get? c=some o)->H c=none->upd H s.heap.objs.size (.tup [x,y]) c=none:=λc ⟨o,ho⟩ e=>by rw [cH (Nat.ne_of_lt (Heap.lt_size ho))];exact e
  have all:∀c∈[z,TI,TO,i1,i2],∃o,s.heap.get? c=some o:=λc hc=>by
   have ec:c=z\/c=TI\/c=TO\/c=i1\/c=i2:=by simpa using hc
   rcases ec with rfl | rfl | rfl | rfl | rfl
   ·exact ⟨_,q1⟩
   ·exact ⟨_,q2⟩
   ·exact ⟨_,q3⟩
   ·exact ⟨_,f4⟩
   ·exact ⟨_,f5⟩
  have hTI:IsPair h' TI (.ref i1) (.ref i2):=k _ _ D.TIz D.TITO D.TIi1 D.TIi2 q2
  refine ⟨_,rfl,wpAny_letOwnedTupleGo_zip a1 λh2 e2 sb=>?_⟩
  have fz:=hf z (by simp)
  obtain ⟨g0,g1,g2,g3,g4,g5⟩:=fz
  refine ⟨.ref s.heap.objs.size,_,I2.turned (t':=s.toks) (λc o hc y=>(sb.2 c hc).trans y) (nn z ⟨_,q1⟩ g0) g1 g3 g4 g5,rfl,⟨x,y,_,λzs hz'=>by rw [I.wJ hz' hq];exact hx,λzs hz'=>by rw [I.wJ hz' hq2];exact hy,rfl,fr,rfl⟩,⟨e2,sb.extBut _ _ D.TIz hTI,⟨_,_,sb.extBut _ _ D.TOz a2⟩,a3.at λo y=>(sb.2 i1 D.i1z).trans y,a4.at λo y=>(sb.2 i2 D.i2z).trans y⟩,λc hc=>nn c (all c hc) (hf c hc).1⟩
 done:=by
  intro X hP hw hK hc i pins s σ H E I hf st hg
  subst hP hw hK
  obtain ⟨xs,ys,hq,hq2,hx⟩:=hg
  obtain ⟨q1,q2,⟨u,v,q3⟩,q4,q5⟩:=st
  obtain ⟨its,rv,p,hz⟩:=I.tuple hq
  obtain ⟨its2,rv2,p2,hz2⟩:=I.tuple hq2
  have hl:=rv.length
  have hl2:=rv2.length
  exact Tv (I.ok.hd hc) D q1 q2 q3 q4 q5 (show s.heap.IsTuple a its.toArray from p) (show s.heap.IsTuple b its2.toArray from p2) (hx.imp (λh=>by simp;omega) λh=>by simp;omega) λh' k=>⟨rfl,Inv.Vi [z,TO,i1,i2] I (λc hc=>hf c (by simp at hc ⊢;rcases hc with rfl | rfl | rfl | rfl<;>simp)) λc o hc e=>k c o (λy=>hc (by simp [y])) (λy=>hc (by simp [y])) (λy=>hc (by simp [y])) (λy=>hc (by simp [y])) e⟩
 self:=λ_ _ _ _ _ st h=>wpAny_pyIter_zip st.1 h
section
variable {X:Cx}
def abb (K:W.Frag)(ta:TA):TI:=λσ H R=>ta σ H λvs H1=>∃p q,vs=[.ref p,.ref q]/\(∃xs,SqT K H1 p xs)/\(∃xs,SqT K H1 q xs)/\R (Ity K p q) H1
theorem Wk {elts:List Expr}{x1}{pt:Pos}{a b:Expr}{ta:TA}{p pos:Pos}(hg:Gl X "zip")(hm:X.mg "zip" = none)(ha:PA X [a,b] ta)(hs:starEach [a,b] X.env=[(false,eval a X.env),(false,eval b X.env)]:=by rfl)(hs2:starEach [b] X.env=[(false,eval b X.env)]:=by rfl):PI X (.Tuple elts x1 pt) (.Call (.Name "zip" p) [a,b] [] pos) (abb X.K ta):=by
 intro pins s σ H R I h
 refine Call_ (o9 I hg hm boot_zip (PyProof.Rows.callWith_type1 (thn (ha pos pins s σ H _ I h) λus s1 hE=>xq2 hE λvs H1 I1 r1 q1=>?_) (by rw [hs,hs2]) (by rw [hs2];rfl)))
 obtain ⟨l,l2,e,⟨xs,hq⟩,⟨ys,hq2⟩,q⟩:=q1
 subst e
 obtain ⟨u,v,rfl,rx,ry⟩:=vals2 r1
 cases rx
 cases ry
 obtain ⟨its,rv,pl,hz⟩:=I1.tuple hq
 obtain ⟨its2,rv2,pl2,hz2⟩:=I1.tuple hq2
 have lt1:l<s1.heap.objs.size:=by obtain ⟨o,e,_⟩:=(show s1.heap.IsTuple l its.toArray from pl);exact Heap.lt_size e
 have lt2:l2<s1.heap.objs.size:=by obtain ⟨o,e,_⟩:=(show s1.heap.IsTuple l2 its2.toArray from pl2);exact Heap.lt_size e
 refine Vo (show s1.heap.IsTuple l its.toArray from pl) (show s1.heap.IsTuple l2 its2.toArray from pl2) λh' e1 e2 e3 e4 e5 sz k=>?_
 have I2:Inv X pins σ H1 { s1 with heap:=h' }:=I1.kept (t':=s1.toks) k
 have D:ZipApart (s1.heap.objs.size+4) (s1.heap.objs.size+2) (s1.heap.objs.size+3) s1.heap.objs.size (s1.heap.objs.size+1) l l2:=zipApart_new lt1 lt2
 refine wpAny_pyIter_zip (s:={ s1 with heap:=h' }) e1 ?_
 refine ⟨_,[s1.heap.objs.size+4,s1.heap.objs.size+2,s1.heap.objs.size+3,s1.heap.objs.size,s1.heap.objs.size+1],_,_,H1,rfl,I2,Qq _ _ _ _ _ l l2 D,⟨e1,e2,⟨_,_,e3⟩,e4,e5⟩,λb hb=>?_,q⟩
 have hb':s1.heap.objs.size<=b:=by
  rcases List.mem_cons.mp hb with z | hb
  ·rw [z];exact Nat.le_add_right _ _
  rcases List.mem_cons.mp hb with z | hb
  ·rw [z];exact Nat.le_add_right _ _
  rcases List.mem_cons.mp hb with z | hb
  ·rw [z];exact Nat.le_add_right _ _
  rcases List.mem_cons.mp hb with z | hb
  ·rw [z];exact Nat.le_refl _
  ·rw [List.mem_singleton.mp hb];exact Nat.le_add_right _ _
 exact I1.O9 hb' (I1.hok.fresh hb')
theorem Vk {G:Gx}{a b:Addr}{ds es:List D}{P:(Zaa)->Hp->Prop}(h:∀O' H2,P O' H2->∃xs,SqT G.K H2 a xs/\DVs G O' H2 xs ds)(h':∀O' H2,P O' H2->∃xs,SqT G.K H2 b xs/\DVs G O' H2 xs es):yu G (Ity G.K a b) (yr ds es) P:=by
 intro O' H2 ev
 obtain ⟨xs,hq,hd⟩:=h O' H2 ev
 obtain ⟨ys,hq2,hd2⟩:=h' O' H2 ev
 have l1:=bM hd
 have l2:=bM hd2
 refine ⟨λi hi=>?_,λi x H' hi y=>?_,xs,ys,hq,hq2,by rw [vO];omega⟩
 ·rw [vO] at hi
  have i1:i<xs.length:=by omega
  have i2:i<ys.length:=by omega
  exact ⟨xs,ys,xs[i],ys[i],hq,hq2,by simp,by simp⟩
 ·obtain ⟨y1,y2,l,k1,k2,rfl,fr,rfl⟩:=y
  obtain ⟨d1,e1,v1⟩:=qb hd (k1 xs hq)
  obtain ⟨d2,e2,v2⟩:=qb hd2 (k2 ys hq2)
  exact ⟨bz fr _,.tup [d1,d2],Mz e1 e2,.tup (SqU.of aW) (.cons (v1.mono (bz fr _)) (.cons (v2.mono (bz fr _)) .nil))⟩
noncomputable def RJ (f:Zad):Zad:=λm=>(f m).bind λd=>match d with
 |[.tup ds,.tup es]=>.ok (yr ds es)
 |_=>.stuck
theorem WK {E:XK}{fs:Zad}{elts:List Expr}{x1}{pt:Pos}{a b:Expr}{p pos:Pos}(hg:Gl X "zip")(hm:X.mg "zip" = none)(ha:FAE X E [a,b] fs)(hs:starEach [a,b] X.env=[(false,eval a X.env),(false,eval b X.env)]:=by rfl)(hs2:starEach [b] X.env=[(false,eval b X.env)]:=by rfl):FI X E (.Tuple elts x1 pt) (.Call (.Name "zip" p) [a,b] [] pos) (RJ fs):=
 mH (Wk hg hm ha hs hs2) λσ H R hE=>xq5 hE λO0 M0 H0 ow m Re q=>⟨O0,M0,H0,ow,m,Re,q.bind.imp (aM.refl _) λds q vs H' g hv=>by
  have z:∃xs ys,ds=[.tup xs,.tup ys]:=by
   cases ds with
   |nil=>exact q.elim
   |cons d ds=>cases d with
    |tup xs=>cases ds with
     |nil=>exact q.elim
     |cons e ds=>cases e with
      |tup ys=>cases ds with
       |nil=>exact ⟨xs,ys,rfl⟩
       |cons _ _=>exact q.elim
      |_=>exact q.elim
    |_=>exact q.elim
  obtain ⟨ds,es,rfl⟩:=z
  cases hv with
  |cons h1 h3=>cases h3 with
  |cons h2 h4=>
   cases h4
   cases h1 with
   |tup hl hd=>
    cases h2 with
    |tup hl2 hd2=>exact ⟨_,_,rfl,⟨_,hl.sq⟩,⟨_,hl2.sq⟩,q _ H' g (Vk (λO' H2 ev=>⟨_,Kf (Re.mono g).mutk ev.2 hl.sq,hd.go (Re.mono g).mutk ev⟩) λO' H2 ev=>⟨_,Kf (Re.mono g).mutk ev.2 hl2.sq,hd2.go (Re.mono g).mutk ev⟩)⟩⟩
end
end F
namespace Pk
open PySem L2 Hd F
section
noncomputable def Ba:Zab:=
 (bD (Hm (Ga "int" (ak 0)) (Vx (Ga "bool" (ak 0)))))
noncomputable def z9:Zab:=
 Ba
noncomputable def tW:Zac:=bj 1 1 z9
noncomputable def uo (φ_is_whole:Zac)(φ_common_divisor:Zac):Zab:=
 (aJ (gIf (rM (qK (fTv (Ga "tuple" (ak 0)))) (aR gNe (aU dW (aa (ak 0) aB)) (fC (.int 2)))) (bD (fC (.bl false))) gNx)
 (aJ (gIf (rM (qK (fTv (fFn φ_is_whole (aa (aA gIx (ak 0) (fC (.int 0))) aB)))) (qK (fTv (fFn φ_is_whole (aa (aA gIx (ak 0) (fC (.int 1))) aB))))) (bD (fC (.bl false))) gNx)
 (bD (Hm (mK gGe (aA gIx (ak 0) (fC (.int 1))) (fC (.int 1))) (mK gEq (fFn φ_common_divisor (aa (aA gIx (ak 0) (fC (.int 0))) (aa (aA gIx (ak 0) (fC (.int 1))) aB))) (fC (.int 1)))))))
def tV:Zab:=
 (uo tW fV)
def qg:Zac:=bj 1 1 tV
noncomputable def Gy (φ_lowest:Zac):Zab:=
 (bD (fFn φ_lowest (aa (aA f9 (aA gIx (ak 0) (fC (.int 0))) (aA gIx (ak 1) (fC (.int 0)))) (aa (aA f9 (aA gIx (ak 0) (fC (.int 1))) (aA gIx (ak 1) (fC (.int 1)))) aB))))
def GJ:Zab:=
 (Gy mV)
def yN:Zac:=bj 2 2 GJ
def iD:Zae:=
 (Hm (fFn qg (aa (aG 0) aB)) (Vx (fFn yZ (aa (aG 0) (aa (fC (.tup [(.int 0),(.int 1)])) aB)))))
def iI:Zae:=
 (du 1 [] (uE (aG 0)) (hName 0) gQ iD)
noncomputable def jE (φ_total:Zac)(l_2:Zae):Zab:=
 (aJ (gIf (rM (qK (fTv (Ga "tuple" (ak 0)))) (aR gNe (aU dW (aa (ak 0) aB)) (ak 1))) (bD (fC (.bl false))) gNx)
 (aJ (gIf (qK (fTv (aU VN (aa l_2 aB)))) (bD (fC (.bl false))) gNx)
 (bD (mK gEq (fFn φ_total (aa (aU rB (aa (ak 0) aB)) aB)) (fC (.tup [(.int 1),(.int 1)]))))))
def jq:Zab:=
 (jE yQ iI)
def dI:Zac:=bj 2 2 jq
def jc:Zae:=
 (Hm (mK Wb (aA gIx (ak 0) (fC (.int 1))) (ak 1)) (fFn dI (aa (aA cg (ak 1) (aA gIx (ak 0) (fC (.int 1)))) (aa (aU dW (aa (aA gIx (ak 0) (fC (.int 2))) aB)) aB))))
def lG:Zae:=
 (du 1 [1] (jH (ak 0)) (hName 0) gQ jc)
noncomputable def o6 (l_2:Zae):Zab:=
 (aJ (gIf (rM (qK (fTv (Ga "dict" (ak 1)))) (aR gNe (aU dW (aa (ak 1) aB)) (aU dW (aa (ak 0) aB)))) (bD (fC (.bl false))) gNx)
 (bD (aU VN (aa l_2 aB))))
def ph:Zab:=
 (o6 lG)
def j9:Zac:=bj 2 2 ph
noncomputable def wV (φ_rows_of:Zac)(φ_is_plan_for:Zac):Zab:=
 (bD (fFn φ_is_plan_for (aa (fFn φ_rows_of (aa (aG 0) (aa (aG 1) aB))) (aa (aG 2) aB))))
def wM:Zab:=
 (wV rT j9)
def sJ:Zac:=bj 3 3 wM
noncomputable def jW (φ_is_plan:Zac):Zab:=
 (gIf (qK (fTv (fFn φ_is_plan (aa (aG 0) (aa (aG 1) (aa (aG 2) aB)))))) Q9 gNx)
def jZ:Zab:=
 (jW sJ)
def dX:Zac:=bj 3 3 jZ
noncomputable def iG:Zae:=
 (bA (aa (aG 0) (aa (aA gIx (ak 1) (fC (.int 1))) aB)))
noncomputable def iJ:Zae:=
 (du 2 [] (RJ (aa (aG 2) (aa (aA gIx (ak 0) (fC (.int 3))) aB))) (ig 2 (bu (hName 0) (bu (hName 1) ik))) gQ iG)
noncomputable def gO (l_2:Zae):Zab:=
 (aJ (gIf (aR gEq (aA gIx (ak 0) (fC (.int 0))) (fC (.str "deal"))) (jP (aU rB (aa (aA gIx (ak 0) (fC (.int 2))) aB))) gNx)
 (aJ (aX 2 (aA cg (aA cg (ak 1) (aA gIx (ak 0) (fC (.int 1)))) (aA gIx (ak 0) (fC (.int 2)))))
 (jP l_2)))
noncomputable def gM:Zab:=
 (gO iJ)
noncomputable def cY:Zac:=bj 3 2 gM
def iu (Φ:Zac):Zab:=
 (gIf (aR gNe (ak 3) (fC (.tup [(.int 0),(.int 1)]))) (aX 2 (fFn uK (aa (aG 2) (aa (fFn yN (aa (aG 3) (aa (fFn Φ (aa (aG 4) (aa (aG 1) aB))) aB))) aB)))) gNx)
def jF (Φ:Zac):Zab:=
 (gZ (jH (fFn cY (aa (aG 0) (aa (aG 1) aB)))) (ig 2 (bu (hName 3) (bu (hName 4) ik))) (iu Φ))
noncomputable def jQ (l_2:Zab):Zab:=
 (aJ (gIf (aR gEq (aA gIx (ak 0) (fC (.int 0))) (fC (.str "end"))) (bD (aA gIx (ak 0) (fC (.int 1)))) gNx)
 (aJ (aX 2 (fC (.tup [(.int 0),(.int 1)])))
 (aJ l_2
 (bD (aG 2)))))
def gq:Nat->Zac
 |0=>λ_=>.stuck
 |n+1=>bj 5 2
   (jQ (jF (gq n)))
noncomputable def Ah (φ_refuse_no_plan:Zac)(φ_comes_of:Zac):Zab:=
 (aJ (gEx (fFn φ_refuse_no_plan (aa (aG 0) (aa (fC (.int 1)) (aa (aG 1) aB)))))
 (aJ (gEx (fFn φ_refuse_no_plan (aa (aG 0) (aa (fC (.int 2)) (aa (aG 2) aB)))))
 (bD (fFn φ_comes_of (aa (aG 0) (aa (M9 [((fC (.int 1)),(aG 1)),((fC (.int 2)),(aG 2))]) aB))))))
def zH:Zab:=
 (Ah dX (gq 30))
def pH:Zac:=bj 3 3 zH
end
end Pk
namespace K21
open PySem L2 Hd F Pk Lw
section
noncomputable def rP (φ__law_lowest:Zac):Zab:=
 (bD (fFn φ__law_lowest (aa (aA bY (aA f9 (aA gIx (ak 0) (fC (.int 0))) (aA gIx (ak 1) (fC (.int 1)))) (aA f9 (aA gIx (ak 1) (fC (.int 0))) (aA gIx (ak 0) (fC (.int 1))))) (aa (aA f9 (aA gIx (ak 0) (fC (.int 1))) (aA gIx (ak 1) (fC (.int 1)))) aB))))
def qR:Zab:=
 (rP cP)
def gf:Zac:=bj 2 2 qR
noncomputable def qe (φ__law_lowest:Zac):Zab:=
 (bD (fFn φ__law_lowest (aa (aA f9 (aA gIx (ak 0) (fC (.int 0))) (aA gIx (ak 1) (fC (.int 0)))) (aa (aA f9 (aA gIx (ak 0) (fC (.int 1))) (aA gIx (ak 1) (fC (.int 1)))) aB))))
def pU:Zab:=
 (qe cP)
def gk:Zac:=bj 2 2 pU
noncomputable def gU:Zab:=
 (aJ (cR 2 (aA gIx (d8 (aa (aA bF (aA dC (ak 0) (fC (.int 4))) (fC (.int 4))) (aa (aA bF (aA dC (ak 0) (fC (.int 4))) (fC (.int 7))) (aa (fC (.int 0)) (aa (aA bF (aA dC (ak 0) (fC (.int 4))) (fC (.int 1000))) aB))))) (aA bF (ak 0) (fC (.int 4)))))
 (aX 0 (aA bF (aA f9 (ak 0) (fC (.int 48271))) (fC (.int 2147483647)))))
noncomputable def mW:Zab:=
 (gZ (pQ (aa (ak 1) aB)) (hName 3) gU)
def mY:Zae:=
 (fFn cP (aa (aG 0) (aa (aU JT (aa (ak 1) aB)) aB)))
def nj:Zae:=
 (du 1 [2] (jH (ak 2)) (hName 0) gQ mY)
noncomputable def mF (l_2:Zab)(l_4:Zae):Zab:=
 (aJ (eX 2 (d8 aB))
 (aJ l_2
 (aJ (gIf (aR gEq (aU JT (aa (ak 2) aB)) (fC (.int 0))) (lU 2 (aA bF (ak 0) (ak 1)) (fC (.int 1))) gNx)
 (bD (aU fH (aa l_4 aB))))))
def uQ:Zab:=
 (mF mW nj)
def gm:Zac:=bj 4 2 uQ
def dR:Zab:=
 (gIf (aR gEq (aA gIx (aA gIx (ak 0) (ak 4)) (fC (.int 0))) (ak 1)) (iM 3 (aA gIx (aA gIx (ak 0) (ak 4)) (fC (.int 1))) (fFn gm (aa (fFn cB (aa (aG 2) (aa (aA bY (aA f9 (fC (.int 3)) (ak 4)) (fC (.int 1))) aB))) (aa (aU dW (aa (aA gIx (aA gIx (ak 0) (ak 4)) (fC (.int 2))) aB)) aB)))) gNx)
def oY:Zab:=
 (gZ (pQ (aa (aU dW (aa (ak 0) aB)) aB)) (hName 4) dR)
noncomputable def oh (l_2:Zab):Zab:=
 (aJ (eX 3 vo)
 (aJ l_2
 (nP 3)))
def xT:Zab:=
 (oh oY)
def rQ:Zac:=bj 5 3 xT
def lC (φ_brings:Zac):Zab:=
 (SM 5 6 (v9 (aU wW (aa (aA gIx (ak 1) (fC (.int 0))) aB)) (v9 (aU wW (aa (aA gIx (ak 1) (fC (.int 1))) aB)) aB))
 (aJ (pF (aA gIx (ak 5) (aA dB (ak 2) (fC (.int 1)))) (aG 3) (aG 4))
 (bD (Vl φ_brings (aa (ak 0) (aa (wA 6 (aA gIx (ak 5) (fC (.int 0)))) (aa (wA 7 (aA gIx (ak 5) (fC (.int 1)))) aB)))))))
def xU:Zab:=
 (lC pH)
def dO:Zac:=bj 8 5 xU
noncomputable def lJ (φ__law_plus:Zac)(φ__law_times:Zac):Zab:=
 (aJ (aX 3 (fFn φ__law_plus (aa (bA (aa (fC (.int 1)) (aa (fC (.int 1)) aB))) (aa (bA (aa (aA dB (fC (.int 0)) (aA gIx (ak 0) (fC (.int 0)))) (aa (aA gIx (ak 0) (fC (.int 1))) aB))) aB))))
 (bD (fFn φ__law_plus (aa (fFn φ__law_times (aa (aG 0) (aa (aG 1) aB))) (aa (fFn φ__law_times (aa (aG 3) (aa (aG 2) aB))) aB)))))
def lM:Zab:=
 (lJ gf gk)
def fj:Zac:=bj 4 3 lM
def yH:Zae:=
 (fFn fj (aa (aG 1) (aa (aA gIx (ak 2) (ak 0)) (aa (aA gIx (ak 3) (ak 0)) aB))))
def yO:Zae:=
 (du 1 [14,12,13] (pQ (aa (ak 10) aB)) (hName 0) gQ yH)
noncomputable def uN:Zae:=
 (bA (aa (aU Vb (aa (mK gEq (ak 0) (ak 1)) aB)) (aa (fC (.int 1)) aB)))
noncomputable def uZ:Zae:=
 (du 1 [19] (pQ (aa (ak 10) aB)) (hName 0) gQ uN)
def uY:Zab:=
 (aJ (aX 20 (aU fH (aa uZ aB)))
 (aX 18 (fFn gf (aa (aG 18) (aa (fFn gk (aa (aA gIx (ak 12) (ak 19)) (aa (fFn dO (aa (aG 3) (aa (aG 5) (aa (aG 6) (aa (aG 7) (aa (aG 20) aB)))))) aB))) aB)))))
def yR:Zab:=
 (gZ (pQ (aa (ak 10) aB)) (hName 19) uY)
noncomputable def Yk (φ_brings:Zac)(φ__law_cell_at:Zac)(φ__law_lowest:Zac)(φ__law_pool:Zac)(φ__law_mix:Zac)(φ__law_game:Zac)(φ__law_table:Zac)(φ__law_parts:Zac)(φ__law_plan:Zac)(φ__law_with:Zac)(φ__law_mixed_up:Zac)(l_2:Zae)(l_6:Zab):Zab:=
 (aJ (aX 1 (fFn φ__law_pool (aa (fFn φ__law_cell_at (aa (aG 0) (aa (fC (.int 0)) aB))) (aa (fFn φ__law_cell_at (aa (aG 0) (aa (fC (.int 1)) aB))) aB))))
 (aJ (aX 2 (fFn φ__law_cell_at (aa (aG 0) (aa (fC (.int 2)) aB))))
 (aJ (aX 3 (fFn φ__law_game (aa (aA bY (fSl (ak 0) (fO1 (fC (.int 8))) (fO1 (fC (.int 44)))) (d8 (aa (fFn φ__law_cell_at (aa (aG 0) (aa (fC (.int 3)) aB))) aB))) (aa (aG 2) (aa (fC (.int 5)) (aa (fC (.int 35)) (aa (aG 1) aB)))))))
 (aJ (aX 4 (fFn φ__law_table (aa (aG 3) aB)))
 (aJ (aX 5 (d8 (aa (fFn φ__law_plan (aa (aG 4) (aa (fC (.int 1)) (aa (fFn φ__law_cell_at (aa (aG 0) (aa (fC (.int 4)) aB))) aB)))) (aa (fFn φ__law_plan (aa (aG 4) (aa (fC (.int 2)) (aa (fFn φ__law_cell_at (aa (aG 0) (aa (fC (.int 5)) aB))) aB)))) aB))))
 (aJ (gIf (aR gEq (ak 4) (d8 aB)) (bD (mK gEq (fFn φ_brings (aa (aG 3) (aa (aA gIx (ak 5) (fC (.int 0))) (aa (aA gIx (ak 5) (fC (.int 1))) aB)))) (fFn φ_brings (aa (aG 3) (aa vo (aa vo aB)))))) gNx)
 (aJ (Ue (aA gIx (ak 4) (aA bF (aA dC (ak 2) (fC (.int 128))) (aU dW (aa (ak 4) aB)))) (ig 4 (bu (hName 6) (bu (hName 7) (bu (hName 8) (bu (hName 9) ik))))))
 (aJ (aX 10 (aU dW (aa (ak 8) aB)))
 (aJ (aX 11 (fFn φ__law_cell_at (aa (aG 0) (aa (fC (.int 6)) aB))))
 (aJ (aX 12 (fFn φ__law_parts (aa (fFn φ__law_mix (aa (aG 11) (aa (fC (.int 3)) aB))) (aa (aG 10) aB))))
 (aJ (aX 13 (fFn φ__law_parts (aa (fFn φ__law_mix (aa (aG 11) (aa (fC (.int 4)) aB))) (aa (aG 10) aB))))
 (aJ (aX 14 (fFn φ__law_lowest (aa (aA bF (ak 11) (fC (.int 8))) (aa (fC (.int 7)) aB))))
 (aJ (gIf (aR gEq (aA bF (ak 11) (fC (.int 8))) (fC (.int 7))) (aX 14 (fFn φ__law_lowest (aa (aA bF (aA dC (ak 11) (fC (.int 8))) (fC (.int 1000))) (aa (fC (.int 999)) aB)))) gNx)
 (aJ (aX 15 (aU fH (aa l_2 aB)))
 (aJ (aX 16 (fFn φ__law_with (aa (aG 3) (aa (aG 5) (aa (aG 6) (aa (aG 7) (aa (aG 12) aB)))))))
 (aJ (aX 17 (fFn φ__law_with (aa (aG 3) (aa (aG 5) (aa (aG 6) (aa (aG 7) (aa (aG 13) aB)))))))
 (aJ (gIf (aR gNe (fFn φ__law_with (aa (aG 3) (aa (aG 5) (aa (aG 6) (aa (aG 7) (aa (aG 15) aB)))))) (fFn φ__law_mixed_up (aa (aG 14) (aa (aG 16) (aa (aG 17) aB))))) (bD (fC (.bl false))) gNx)
 (aJ (aX 18 (bA (aa (fC (.int 0)) (aa (fC (.int 1)) aB))))
 (aJ l_6
 (bD (mK gEq (ak 18) (ak 16))))))))))))))))))))))
def UL:Zab:=
 (Yk pH fY cP qZ cB qO mG gm rQ dO fj yO yR)
def Yq:Zac:=bj 21 1 UL
end
end K21
namespace Pk
open PySem L2 Hd F
theorem aba (a b c d:Int):gEq (.tup [.int a,.int b]) (.tup [.int c,.int d])=some (decide (a=c) && decide (b=d)):=by
 have s:∀x y:Int,SeqAt.shaped (.tuple [.int x,.int y])=true:=λ_ _=>rfl
 simp [gEq,qj,toPy,tR,s,PyData.eqv,PyData.eqvAll]
 rfl
theorem HS (x y:Rat):gEq (rD x) (rD y)=some (decide (x=y)):=by
 show gEq (.tup [.int x.num,.int x.den]) (.tup [.int y.num,.int y.den])=_
 rw [aba]
 congr 1
 by_cases h:x=y
 ·subst h;simp
 ·rw [decide_eq_false h]
  cases e:(decide (x.num=y.num) && decide ((x.den:Int)=y.den)) with
  |false=>rfl
  |true=>
   simp at e
   exact absurd (Rat.ext e.1 (by exact_mod_cast e.2)) h
theorem U7 {a b:Rat}{k l:Nat}(ha:Sz k a)(hb:Sz l b)(hk:k+l<=8900):uK [rD a,rD b]=.ok (false,rD (a+b)):=by
 have a1:Bq a.num:=gP (cJ ha.1 (by omega))
 have a2:Bq (a.den:Int):=gP (cJ (by simpa using ha.2) (by omega))
 have b1:Bq b.num:=gP (cJ hb.1 (by omega))
 have b2:Bq (b.den:Int):=gP (cJ (by simpa using hb.2) (by omega))
 have e:=uI (t:=a.num*b.den+b.num*a.den) (zp a b) (gP (cJ (oK (by simpa using ha.2) (by simpa using hb.2)) (by omega)))
 rw [Lp] at e
 simp [uK,bj,GK,Fe,bD,Me.let,Sl.let,fFn,aa,aB,aA,ak,fC,gIx,nJ,ix0,ix1,f9,bY,a1,a2,b1,b2]
 rw [e]
 simp [nJ]
theorem Qc {a b:Rat}{k l:Nat}(ha:Sz k a)(hb:Sz l b)(hk:k+l<=8900):yN [rD a,rD b]=.ok (false,rD (a*b)):=by
 have a1:Bq a.num:=gP (cJ ha.1 (by omega))
 have a2:Bq (a.den:Int):=gP (cJ (by simpa using ha.2) (by omega))
 have b1:Bq b.num:=gP (cJ hb.1 (by omega))
 have b2:Bq (b.den:Int):=gP (cJ (by simpa using hb.2) (by omega))
 have e:=uI (t:=a.num*b.num) (zp a b) (gP (cJ (oK (by simpa using ha.2) (by simpa using hb.2)) (by omega)))
 rw [T4] at e
 simp [yN,bj,GJ,Gy,bD,Me.let,Sl.let,fFn,aa,aB,aA,ak,fC,gIx,nJ,ix0,ix1,f9,a1,a2,b1,b2]
 rw [e]
 simp [nJ]
noncomputable def rOf:D->Rat
 | .tup [.int a,.int b]=>Rat.divInt a b
 |_=>0
theorem Sq (r:Rat):rOf (rD r)=r:=Ac r
abbrev Pl:=Int->Str->List Rat
mutual
noncomputable def vG (p:Pl):Gm->Rat
 | .fin d=>rOf (qD d)
 | .deal _ ws=>vW p ((eV ws).map rOf) ws
 | .move s n ws=>vW p (p s n) ws
noncomputable def vW (p:Pl):List Rat->Ws->Rat
 |x::xs,.cons _ g r=>x*vG p g+vW p xs r
 |_,_=>0
end
def Wm (S:Nat)(P:D)(p:Pl)(s:Int)(n:Str)(ws:Ws):Prop:=(cg P (.int s)).bind (λd=>cg d (.str n))=some (.tup ((p s n).map rD))/\(p s n).length=fK ws/\∀x∈p s n,Sz S x
mutual
def cG (S:Nat)(P:D)(p:Pl):Gm->Prop
 | .fin d=>∃q:Rat,d=rq q/\Sz 40 q
 | .deal _ ws=>(∃l:List Rat,eV ws=l.map rD/\∀x∈l,Sz S x)/\fK ws<=100/\cW S P p ws
 | .move s n ws=>Wm S P p s n ws/\fK ws<=100/\cW S P p ws
def cW (S:Nat)(P:D)(p:Pl):Ws->Prop
 | .nil=>True
 | .cons _ g r=>cG S P p g/\cW S P p r
end
mutual
noncomputable def bG (S:Nat):Gm->Nat
 | .fin _=>40
 | .deal _ ws=>1+bW S ws
 | .move _ _ ws=>1+bW S ws
noncomputable def bW (S:Nat):Ws->Nat
 | .nil=>0
 | .cons _ g r=>S+bG S g+1+bW S r
end
noncomputable def brW:List Rat->Ws->List D
 |x::xs,.cons _ g r=>.tup [rD x,dG g]::brW xs r
 |_,_=>[]
theorem Gf:∀(l:List Rat) (ws:Ws),eV ws=l.map rD->dWs ws=brW l ws
 |[],.nil,_=>rfl
 |[],.cons _ _ _,h=>by cases h
 |_::_,.nil,h=>by cases h
 |x::l,.cons d g r,h=>by
  have h:d::eV r=rD x::l.map rD:=h
  injection h with h1 h2
  show .tup [d,dG g]::dWs r=.tup [rD x,dG g]::brW l r
  rw [h1,Gf l r h2]
theorem SX:∀(l:List Rat) (ws:Ws),dJ (ig 2 (bu (hName 0) (bu (hName 1) ik))) gQ iG [.un,.un] (yr (l.map rD) (dWs ws))=.ok (brW l ws)
 |[],ws=>by simp [yr,dJ,brW]
 |_::_,.nil=>rfl
 |x::l,.cons d g r=>by
  have ih:=SX l r
  have e:iG [.fz (rD x),.fz (.tup [d,dG g])]=.ok (.tup [rD x,dG g]):=rfl
  show dJ _ _ _ _ (.tup [rD x,.tup [d,dG g]]::yr (l.map rD) (dWs r))=.ok (.tup [rD x,dG g]::brW l r)
  rw [dJ]
  simp [ig,bu,hName,ik,gQ,e,ih]
theorem Oo:∀(l:List Rat) (ws:Ws),(brW l ws).length<=fK ws
 |[],ws=>by cases ws<;>simp [brW]
 |_::_,.nil=>by simp [brW]
 |x::l,.cons d g r=>by have:=Oo l r;simp [brW,fK];omega
theorem W0 {P:D}{n:Str}{ws:Ws}{l:List Rat}(h:eV ws=l.map rD)(hl:fK ws<=100):cY [dG (.deal n ws),P]=.ok (true,.lst (brW l ws)):=by
 have x0:∀a b c:D,atI [a,b,c] 0=some a:=λ_ _ _=>rfl
 have x2:∀a b c:D,atI [a,b,c] 2=some c:=λ_ _ _=>rfl
 have hz:(dWs ws).length<=16777216:=by rw [mL];omega
 rw [Gf l ws h] at hz
 simp [cY,gM,gO,bj,aJ,gIf,aR,aA,ak,fC,gIx,dG,x0,x2,jP,Me.let,Sl.let,aU,aa,aB,rB,Gf l ws h]
theorem WD {S:Nat}{P:D}{p:Pl}{s:Int}{n:Str}{ws:Ws}(h:Wm S P p s n ws)(hl:fK ws<=100):cY [dG (.move s n ws),P]=.ok (true,.lst (brW (p s n) ws)):=by
 have x0:∀a b c d:D,atI [a,b,c,d] 0=some a:=λ_ _ _ _=>rfl
 have x1:∀a b c d:D,atI [a,b,c,d] 1=some b:=λ_ _ _ _=>rfl
 have x2:∀a b c d:D,atI [a,b,c,d] 2=some c:=λ_ _ _ _=>rfl
 have x3:∀a b c d:D,atI [a,b,c,d] 3=some d:=λ_ _ _ _=>rfl
 obtain ⟨h1,h2,h3⟩:=h
 obtain ⟨d1,e1,e2⟩:=Option.bind_eq_some_iff.mp h1
 have hz:(brW (p s n) ws).length<=16777216:=by have:=Oo (p s n) ws;omega
 have hz2:(yr ((p s n).map rD) (dWs ws)).length<=16777216:=by rw [vO,mL];omega
 have e:iJ [.fz (dG (.move s n ws)),.fz P,.fz (.tup ((p s n).map rD))]=.ok (.lst (brW (p s n) ws)):=by
  simp [iJ,du,RJ,aa,aB,aG,aA,ak,fC,gIx,dG,x3,cMe,SX,hz,hz2]
 simp only [dG] at e
 simp [cY,gM,gO,bj,aJ,gIf,aR,aA,ak,fC,gIx,dG,x0,x1,x2,gNx,aX,e1,e2,e,jP,Me.let,Sl.let]
noncomputable abbrev hBr:Zba:=ig 2 (bu (hName 3) (bu (hName 4) ik))
theorem XM {Φ:Zac}{g0 s3 s4:Sl}{P:D}{q x v:Rat}{g:Gm}{S j k:Nat}{fr:Bool}(hq:Sz j q)(hx:Sz S x)(hv:Sz k v)(hk:j+(S+k)<=8900)(e:Φ [dG g,P]=.ok (fr,rD v)):
  iu Φ [g0,.fz P,.fz (rD q),.fz (rD x),.fz (dG g)]=.ok (.nx,[g0,.fz P,.fz (rD (q+x*v)),.fz (rD x),.fz (dG g)]):=by
 have e0:(.tup [.int 0,.int 1]:D)=rD 0:=rfl
 by_cases h:x=0
 ·subst h
  have en:gNe (rD 0) (rD 0)=some false:=by unfold gNe;rw [HS];rfl
  simp [iu,gIf,aR,ak,fC,e0,en,gNx,Rat.zero_mul,Rat.add_zero]
 ·have en:gNe (rD x) (rD 0)=some true:=by unfold gNe;rw [HS,decide_eq_false h];rfl
  have e1:=Qc hx hv (by omega)
  have e2:=U7 hq (oF hx hv) (by omega)
  simp [iu,gIf,aR,ak,fC,e0,en,aX,fFn,aa,aB,aG,e,e1,e2]
theorem Ua {Φ:Zac}{g:Gm}{P:D}{bs:List D}{v:Rat}{s3 s4:Sl}(hs:cY [dG g,P]=.ok (true,.lst bs))(hn:∀d,g≠.fin d)
  (e:bJ hBr (iu Φ) bs [.fz (dG g),.fz P,.fz (rD 0),.un,.un]=.ok (.nx,[.fz (dG g),.fz P,.fz (rD v),s3,s4])):bj 5 2 (jQ (jF Φ)) [dG g,P]=.ok (false,rD v):=by
 have e0:(.tup [.int 0,.int 1]:D)=rD 0:=rfl
 have c0:aR gEq (aA gIx (ak 0) (fC (.int 0))) (fC (.str "end")) [.fz (dG g),.fz P,.un,.un,.un]=.ok false:=by
  cases g with
  |fin d=>exact absurd rfl (hn d)
  |deal n ws=>rfl
  |move s n ws=>rfl
 have eL:jF Φ [.fz (dG g),.fz P,.fz (rD 0),.un,.un]=.ok (.nx,[.fz (dG g),.fz P,.fz (rD v),s3,s4]):=by
  simp [jF,gZ,jH,fFn,aa,aB,aG,hs,e]
 have fr:rD v=.tup [.int v.num,.int v.den]:=rfl
 simp [bj,jQ,aJ,gIf,c0,gNx,aX,fC,e0,eL,bD,aG,Me.let,Sl.let]
mutual
theorem Yt {S:Nat}{P:D}{p:Pl}:∀(g:Gm) (n:Nat),cG S P p g->dp g<n->bG S g<=8800->gq n [dG g,P]=.ok (false,rD (vG p g))/\Sz (bG S g) (vG p g)
 |g,0,_,hd,_=>by omega
 | .fin d,n+1,⟨q,hq,hs⟩,_,_=>by
  subst hq
  have ev:vG p (.fin (rq q))=q:=Sq q
  have x0:∀a b:D,atI [a,b] 0=some a:=λ_ _=>rfl
  have x1:∀a b:D,atI [a,b] 1=some b:=λ_ _=>rfl
  rw [ev]
  refine ⟨?_,hs⟩
  show bj 5 2 (jQ (jF (gq n))) [.tup [.str "end",rD q],P]=_
  simp [bj,jQ,aJ,gIf,aR,aA,ak,fC,gIx,x0,x1,bD,Me.let,Sl.let]
 | .deal nm ws,n+1,⟨⟨l,hl,hs⟩,hw,hc⟩,hd,hz=>by
  have ev:vG p (.deal nm ws)=vW p l ws:=by
   show vW p ((eV ws).map rOf) ws=_
   rw [hl,List.map_map,show rOf ∘ rD=id from funext Sq,List.map_id]
  rw [ev]
  have hz':1+bW S ws<=8800:=hz
  obtain ⟨⟨s3,s4,e⟩,h⟩:=Jy (g0:=.fz (dG (.deal nm ws))) ws l n 0 1 .un .un hc (by have:dpW ws+1<n+1:=hd;omega) hs rW (by omega)
  rw [Rat.zero_add] at e h
  refine ⟨Ua (W0 hl hw) (λ_ z=>by cases z) e,h⟩
 | .move s nm ws,n+1,⟨hp,hw,hc⟩,hd,hz=>by
  have hz':1+bW S ws<=8800:=hz
  obtain ⟨⟨s3,s4,e⟩,h⟩:=Jy (g0:=.fz (dG (.move s nm ws))) ws (p s nm) n 0 1 .un .un hc (by have:dpW ws+1<n+1:=hd;omega) hp.2.2 rW (by omega)
  rw [Rat.zero_add] at e h
  refine ⟨Ua (WD hp hw) (λ_ z=>by cases z) e,h⟩
theorem Jy {S:Nat}{P:D}{p:Pl}{g0:Sl}:∀(ws:Ws) (l:List Rat) (n:Nat) (q:Rat) (j:Nat) (s3 s4:Sl),cW S P p ws->dpW ws<n->(∀x∈l,Sz S x)->Sz j q->j+bW S ws<=8801->
  (∃s3' s4',bJ hBr (iu (gq n)) (brW l ws) [g0,.fz P,.fz (rD q),s3,s4]=.ok (.nx,[g0,.fz P,.fz (rD (q+vW p l ws)),s3',s4']))/\Sz (j+bW S ws) (q+vW p l ws)
 | .nil,l,n,q,j,s3,s4,_,_,_,hq,_=>by
  have e:brW l .nil=[]:=by cases l<;>rfl
  have e2:vW p l .nil=0:=by cases l<;>simp [vW]
  rw [e,e2,Rat.add_zero]
  exact ⟨⟨s3,s4,rfl⟩,hq.mono (by omega)⟩
 | .cons d g r,[],n,q,j,s3,s4,_,_,_,hq,_=>by
  have e2:vW p [] (.cons d g r)=0:=by simp [vW]
  rw [e2,Rat.add_zero]
  exact ⟨⟨s3,s4,rfl⟩,hq.mono (by omega)⟩
 | .cons d g r,x::l,n,q,j,s3,s4,hc,hd,hs,hq,hz=>by
  have hz':j+(S+bG S g+1+bW S r)<=8801:=hz
  have hd':max (dp g) (dpW r)<n:=hd
  obtain ⟨e1,h1⟩:=Yt g n hc.1 (by omega) (by omega)
  have hx:=hs x List.mem_cons_self
  have st:=XM (g0:=g0) (s3:=s3) (s4:=s4) hq hx h1 (by omega) e1
  obtain ⟨⟨s3',s4',e2⟩,h2⟩:=Jy (g0:=g0) r l n (q+x*vG p g) (j+(S+bG S g)+1) (.fz (rD x)) (.fz (dG g)) hc.2 (by omega) (λy hy=>hs y (List.mem_cons_of_mem _ hy)) (uz hq (oF hx h1)) (by omega)
  have ev:q+vW p (x::l) (.cons d g r)=q+x*vG p g+vW p l r:=by rw [vW,Rat.add_assoc]
  rw [ev]
  refine ⟨⟨s3',s4',?_⟩,h2.mono (by show _<=j+(S+bG S g+1+bW S r);omega)⟩
  show bJ hBr _ (.tup [rD x,dG g]::brW l r) _=_
  rw [cM (m1:=[g0,.fz P,.fz (rD q),.fz (rD x),.fz (dG g)]) rfl st,e2]
end
mutual
theorem b20:∀g:Gm,bG 20 g+21<=61*szG g
 | .fin _=>by simp [bG,szG]
 | .deal _ ws=>by have:=aae ws;simp only [bG,szG];omega
 | .move _ _ ws=>by have:=aae ws;simp only [bG,szG];omega
theorem aae:∀ws:Ws,bW 20 ws<=61*szW ws
 | .nil=>by simp [bW]
 | .cons _ g r=>by have:=b20 g;have:=aae r;simp only [bW,szW];omega
end
mutual
theorem b51:∀g:Gm,bG 51 g+52<=92*szG g
 | .fin _=>by simp [bG,szG]
 | .deal _ ws=>by have:=aak ws;simp only [bG,szG];omega
 | .move _ _ ws=>by have:=aak ws;simp only [bG,szG];omega
theorem aak:∀ws:Ws,bW 51 ws<=92*szW ws
 | .nil=>by simp [bW]
 | .cons _ g r=>by have:=b51 g;have:=aak r;simp only [bW,szW];omega
end
mutual
def noG (s0:Int)(n0:Str):Gm->Prop
 | .fin _=>True
 | .deal _ ws=>noW s0 n0 ws
 | .move s n ws=>¬(s=s0/\n=n0)/\noW s0 n0 ws
def noW (s0:Int)(n0:Str):Ws->Prop
 | .nil=>True
 | .cons _ g r=>noG s0 n0 g/\noW s0 n0 r
end
mutual
def onG (s0:Int)(n0:Str):Gm->Prop
 | .fin _=>True
 | .deal _ ws=>onW s0 n0 ws
 | .move s n ws=>(s=s0/\n=n0/\noW s0 n0 ws)\/(¬(s=s0/\n=n0)/\onW s0 n0 ws)
def onW (s0:Int)(n0:Str):Ws->Prop
 | .nil=>True
 | .cons _ g r=>onG s0 n0 g/\onW s0 n0 r
end
theorem WQ (s s0:Int)(n:Str)(r:Rc)(l:D):(lW r s0).length<=(lW (rbm s n r l) s0).length:=by
 unfold lW rbm
 by_cases h:s=1<;>by_cases k:s0=1<;>simp [h,k]
theorem QL (s:Int)(n:Str)(r:Rc)(l:D):(lW (rbm s n r l) s).length=(lW r s).length+1:=by
 unfold lW rbm
 by_cases h:s=1<;>simp [h]
theorem Z4 {s:Int}{n:Str}{ws ws':Ws}{r r':Rc}(h:eU s n ws r=eU s n ws' r'):lW r s=lW r' s:=by
 unfold eU at h
 simp at h
 exact h.2
mutual
theorem ab0 {s0:Int}{n0:Str}{ρ:Int->Str->D}{w0:Ws}{r0:Rc}(hρ:ρ s0 n0=eU s0 n0 w0 r0):∀(g:Gm) (w:List Int) (r:Rc),(lW r0 s0).length<(lW r s0).length->(∀p∈prG w r g,UW ρ p)->noG s0 n0 g
 | .fin d,w,r,_,_=>trivial
 | .deal n ws,w,r,hl,h=>Fb hρ ws w (λ_=>r) 0 (λ_=>hl) λp hp=>h p (by rw [prG];exact List.mem_cons_of_mem _ hp)
 | .move s n ws,w,r,hl,h=>by
  refine ⟨λ⟨e1,e2⟩=>?_,Fb hρ ws w (rbm s n r) 0 (λl=>Nat.lt_of_lt_of_le hl (WQ s s0 n r l)) λp hp=>h p (by rw [prG];exact List.mem_cons_of_mem _ hp)⟩
  subst e1 e2
  have:=(h (w,.move s n ws,r) (by rw [prG];exact List.mem_cons_self) s n ws rfl).1
  rw [hρ] at this
  rw [Z4 this] at hl
  omega
theorem Fb {s0:Int}{n0:Str}{ρ:Int->Str->D}{w0:Ws}{r0:Rc}(hρ:ρ s0 n0=eU s0 n0 w0 r0):∀(ws:Ws) (w:List Int) (f:D->Rc) (i:Nat),(∀l,(lW r0 s0).length<(lW (f l) s0).length)->(∀p∈prW w f i ws,UW ρ p)->noW s0 n0 ws
 | .nil,_,_,_,_,_=>trivial
 | .cons l g r,w,f,i,hl,h=>⟨ab0 hρ g _ (f l) (hl l) λp hp=>h p (by rw [prW];exact List.mem_append_left _ hp),Fb hρ r w f (i+1) hl λp hp=>h p (by rw [prW];exact List.mem_append_right _ hp)⟩
end
mutual
theorem Yb {s0:Int}{n0:Str}{ρ:Int->Str->D}:∀(g:Gm) (w:List Int) (r:Rc),(∀p∈prG w r g,UW ρ p)->onG s0 n0 g
 | .fin d,w,r,_=>trivial
 | .deal n ws,w,r,h=>JR ws w (λ_=>r) 0 λp hp=>h p (by rw [prG];exact List.mem_cons_of_mem _ hp)
 | .move s n ws,w,r,h=>by
  by_cases e:s=s0/\n=n0
  ·obtain ⟨e1,e2⟩:=e
   subst e1 e2
   have hρ:=(h (w,.move s n ws,r) (by rw [prG];exact List.mem_cons_self) s n ws rfl).1
   exact .inl ⟨rfl,rfl,Fb hρ.symm ws w (rbm s n r) 0 (λl=>by rw [QL];exact Nat.lt_succ_self _) λp hp=>h p (by rw [prG];exact List.mem_cons_of_mem _ hp)⟩
  ·exact .inr ⟨e,JR ws w (rbm s n r) 0 λp hp=>h p (by rw [prG];exact List.mem_cons_of_mem _ hp)⟩
theorem JR {s0:Int}{n0:Str}{ρ:Int->Str->D}:∀(ws:Ws) (w:List Int) (f:D->Rc) (i:Nat),(∀p∈prW w f i ws,UW ρ p)->onW s0 n0 ws
 | .nil,_,_,_,_=>trivial
 | .cons l g r,w,f,i,h=>⟨Yb g _ (f l) λp hp=>h p (by rw [prW];exact List.mem_append_left _ hp),JR r w f (i+1) λp hp=>h p (by rw [prW];exact List.mem_append_right _ hp)⟩
end
noncomputable def upP (p:Pl)(s0:Int)(n0:Str)(l:List Rat):Pl:=λs n=>if s=s0/\n=n0 then l else p s n
mutual
theorem abe {p:Pl}{s0:Int}{n0:Str}{l:List Rat}:∀g:Gm,noG s0 n0 g->vG (upP p s0 n0 l) g=vG p g
 | .fin d,_=>rfl
 | .deal n ws,h=>MP ws _ h
 | .move s n ws,h=>by
  show vW _ (upP p s0 n0 l s n) ws=vW p (p s n) ws
  rw [MP ws _ h.2,upP,if_neg h.1]
theorem MP {p:Pl}{s0:Int}{n0:Str}{l:List Rat}:∀(ws:Ws) (xs:List Rat),noW s0 n0 ws->vW (upP p s0 n0 l) xs ws=vW p xs ws
 | .nil,xs,_=>by cases xs<;>simp [vW]
 | .cons d g r,[],_=>by simp [vW]
 | .cons d g r,x::xs,h=>by rw [vW,vW,abe g h.1,MP r xs h.2]
end
noncomputable def dtR:List Rat->List Rat->Rat
 |x::xs,y::ys=>x*y+dtR xs ys
 |_,_=>0
noncomputable def dF:List Rat->(Nat->Rat)->Rat
 |[],_=>0
 |x::xs,b=>x*b 0+dF xs λi=>b (i+1)
theorem Fx:∀l:List Rat,dF l (λ_=>0)=0
 |[]=>rfl
 |x::l=>by rw [dF,Fx l];grind
theorem RG (x:Rat):∀(l:List Rat) (b c:Nat->Rat),dF l (λi=>x*b i+c i)=x*dF l b+dF l c
 |[],_,_=>by simp [dF];grind
 |y::l,b,c=>by
  rw [dF,dF,dF,RG x l (λi=>b (i+1)) λi=>c (i+1)]
  grind
theorem X5:∀(l ys:List Rat),dtR l ys=dF l λi=>ys.getD i 0
 |[],_=>rfl
 |x::l,[]=>by
  have:(λi=>([]:List Rat).getD i 0)=λ_=>0:=by funext i;simp
  rw [this,Fx];rfl
 |x::l,y::ys=>by rw [dtR,dF,X5 l ys];rfl
def Aff (f:List Rat->Rat):Prop:=∃(a:Rat) (b:Nat->Rat),∀l:List Rat,f l=a+dF l b
theorem Aff.const (a:Rat):Aff λ_=>a:=⟨a,λ_=>0,λl=>by rw [Fx];grind⟩
theorem Aff.lin {f g:List Rat->Rat}(x:Rat)(hf:Aff f)(hg:Aff g):Aff λl=>x*f l+g l:=by
 obtain ⟨a,b,h⟩:=hf
 obtain ⟨a',b',h'⟩:=hg
 refine ⟨x*a+a',λi=>x*b i+b' i,λl=>?_⟩
 show x*f l+g l=_
 rw [h,h',RG]
 grind
noncomputable def gsW (p:Pl):Ws->List Rat
 | .nil=>[]
 | .cons _ g r=>vG p g::gsW p r
theorem Yd {p:Pl}:∀(xs:List Rat) (ws:Ws),vW p xs ws=dtR xs (gsW p ws)
 |[],ws=>by cases ws<;>simp [vW,dtR]
 |x::xs,.nil=>by simp [vW,dtR,gsW]
 |x::xs,.cons d g r=>by rw [vW,gsW,dtR,Yd xs r]
mutual
theorem X8 {p:Pl}{s0:Int}{n0:Str}:∀g:Gm,onG s0 n0 g->Aff λl=>vG (upP p s0 n0 l) g
 | .fin d,_=>Aff.const _
 | .deal n ws,h=>RN ws _ h
 | .move s n ws,.inl ⟨e1,e2,h⟩=>by
  refine ⟨0,λi=>(gsW p ws).getD i 0,λl=>?_⟩
  show vW _ (upP p s0 n0 l s n) ws=_
  rw [MP ws _ h,upP,if_pos ⟨e1,e2⟩,Yd,X5]
  grind
 | .move s n ws,.inr ⟨e,h⟩=>by
  have:=RN (p:=p) ws (p s n) h
  obtain ⟨a,b,hh⟩:=this
  refine ⟨a,b,λl=>?_⟩
  rw [← hh l]
  show vW _ (upP p s0 n0 l s n) ws=_
  rw [show upP p s0 n0 l s n=p s n from if_neg e]
theorem RN {p:Pl}{s0:Int}{n0:Str}:∀(ws:Ws) (xs:List Rat),onW s0 n0 ws->Aff λl=>vW (upP p s0 n0 l) xs ws
 | .nil,xs,_=>by cases xs<;>(simp [vW];exact Aff.const _)
 | .cons d g r,[],_=>by simp [vW];exact Aff.const _
 | .cons d g r,x::xs,h=>by
  have:=(X8 (p:=p) g h.1).lin x (RN (p:=p) r xs h.2)
  simpa only [vW] using this
end
theorem Aff.mix {f:List Rat->Rat}(h:Aff f){w:Rat}{l m k:List Rat}(hk:k=(l.zip m).map λp=>w*p.1+(1-w)*p.2)(hl:l.length=m.length):f k=w*f l+(1-w)*f m:=by
 obtain ⟨a,b,h⟩:=h
 have e:∀(l m:List Rat) (b:Nat->Rat),l.length=m.length->dF ((l.zip m).map λp=>w*p.1+(1-w)*p.2) b=w*dF l b+(1-w)*dF m b:=by
  intro l
  induction l with
  |nil=>intro m b hm;cases m with
   |nil=>simp [dF];grind
   |cons _ _=>cases hm
  |cons x l ih=>intro m b hm;cases m with
   |nil=>cases hm
   |cons y m=>
    have:=ih m (λi=>b (i+1)) (by simpa using hm)
    simp only [List.zip_cons_cons,List.map_cons,dF]
    rw [this]
    grind
 rw [h,h,h,hk,e l m b hl]
 grind
noncomputable def uni (c k:Nat):List Rat:=(List.range c).map λj=>if j=k then 1 else 0
theorem Rv (k:Nat):∀(n i0:Nat) (b:Nat->Rat),dF ((List.range' i0 n).map λj=>if j=k then (1:Rat) else 0) b=if i0<=k/\k<i0+n then b (k-i0) else 0
 |0,i0,b=>by rw [if_neg (by omega)];rfl
 |n+1,i0,b=>by
  rw [List.range'_succ,List.map_cons,dF,Rv k n (i0+1)]
  by_cases e:i0=k
  ·subst e
   rw [if_pos rfl,if_neg (by omega),if_pos (by omega),Nat.sub_self]
   grind
  ·rw [if_neg e]
   by_cases h:i0+1<=k/\k<i0+1+n
   ·rw [if_pos h,if_pos (by omega),show k-(i0+1)+1=k-i0 by omega]
    grind
   ·rw [if_neg h,if_neg (by omega)]
    grind
theorem Zf {c k:Nat}(h:k<c)(b:Nat->Rat):dF (uni c k) b=b k:=by
 unfold uni
 rw [List.range_eq_range',Rv,if_pos (by omega),Nat.sub_zero]
noncomputable def smW (f:Nat->Rat):List Rat->Nat->Rat->Rat
 |[],_,q=>q
 |x::l,i,q=>smW f l (i+1) (q+x*f i)
theorem T3 (a:Rat)(b:Nat->Rat):∀(l:List Rat) (i:Nat) (q:Rat),smW (λk=>a+b k) l i q=q+a*l.sum+dF l λj=>b (i+j)
 |[],i,q=>by simp [smW,dF];grind
 |x::l,i,q=>by
  rw [smW,T3 a b l (i+1),List.sum_cons,dF]
  have e:(λj=>b (i+(j+1)))=λj=>b (i+1+j):=by funext j;rw [show i+(j+1)=i+1+j by omega]
  rw [e,Nat.add_zero]
  grind
theorem Aff.ways {f:List Rat->Rat}(h:Aff f){l:List Rat}(hs:l.sum=1):smW (λk=>f (uni l.length k)) l 0 0=f l:=by
 obtain ⟨a,b,h⟩:=h
 have e:∀(m:List Rat) (i:Nat) (q:Rat),i+m.length<=l.length->smW (λk=>f (uni l.length k)) m i q=smW (λk=>a+b k) m i q:=by
  intro m
  induction m with
  |nil=>intro i q _;rfl
  |cons x m ih=>
   intro i q hm
   have hm:i+(m.length+1)<=l.length:=hm
   rw [smW,smW,ih (i+1) _ (by omega),h,Zf (by omega)]
 rw [e l 0 0 (by omega),T3,h,hs]
 have:(λj=>b (0+j))=b:=by funext j;rw [Nat.zero_add]
 rw [this]
 grind
noncomputable def nmR:D->Str
 | .tup [_,.str n,_,_]=>n
 |_=>⟨#[]⟩
noncomputable def bN (Rs:List D)(q:Str->List Rat):D:=.dct (Rs.map λd=>.inr (nmR d)) (Rs.map λd=>.tup ((q (nmR d)).map rD))
theorem Bm (f:Str->D){n:Str}:∀Rs:List D,(∃d∈Rs,nmR d=n)->qN (Rs.map λd=>.inr (nmR d)) (Rs.map λd=>f (nmR d)) (.inr n)=some (f n)
 |[],⟨_,h,_⟩=>by cases h
 |d::Rs,⟨d',h,e⟩=>by
  show (if (Sum.inr (nmR d):Key)=.inr n then some (f (nmR d)) else qN (Rs.map λd=>.inr (nmR d)) (Rs.map λd=>f (nmR d)) (.inr n))=_
  by_cases c:nmR d=n
  ·rw [c,if_pos rfl]
  ·rw [if_neg (λz=>c (Sum.inr.inj z))]
   rcases List.mem_cons.mp h with z | z
   ·exact absurd (z ▸ e) c
   ·exact Bm f Rs ⟨d',z,e⟩
def okS (S:Nat)(l:List Rat)(c:Nat):Prop:=l.length=c/\(∀x∈l,0<=x.num/\Sz S x)/\l.sum=1/\l.length<=3
theorem Kc {x:Rat}:qg [rD x]=.ok (false,.bl true):=by
 have x0:∀a b:D,atI [a,b] 0=some a:=λ_ _=>rfl
 have x1:∀a b:D,atI [a,b] 1=some b:=λ_ _=>rfl
 have w:∀i:Int,tW [.int i]=.ok (false,.bl true):=λ_=>rfl
 have e:=iH x.num x.den
 rw [QJ] at e
 have g1:=iC x
 have l2:dW [.tup [.int x.num,.int x.den]]=some (.int 2):=rfl
 have it:Ga "tuple" (ak 0) [.fz (.tup [.int x.num,.int x.den])]=.ok (.bl true):=rfl
 rw [nJ]
 simp [qg,bj,tV,uo,aJ,gIf,rM,qK,fTv,it,aR,aU,aa,aB,ak,l2,fC,gNe,gNx,fFn,aA,gIx,x0,x1,w,bD,Me.let,Sl.let,Hm,mK,gGe,g1,e]
theorem U3 {S:Nat}(hS:S<=100){l:List Rat}{c:Nat}(h1:l.length=c)(h2:∀x∈l,0<=x.num/\Sz S x)(h3:l.sum=1)(h4:l.length<=6):dI [.tup (l.map rD),.int c]=.ok (false,.bl true):=by
 have et:=PL (k:=S) (λx hx=>(h2 x hx).2) (by have:l.length*(S+1)<=6*101:=Nat.mul_le_mul h4 (by omega);omega) (by omega)
 rw [h3] at et
 have ec:dJ (hName 0) gQ iD [.un] (l.map rD)=.ok (l.map λ_=>.bl true):=gH l λx hx=>by
  refine ⟨[.fz (rD x)],rfl,rfl,?_⟩
  have eu:=Qx (h2 x hx).2 rW (by omega)
  have e0:rD 0=.tup [.int 0,.int 1]:=rfl
  have q:¬(x.num*(0:Rat).den<(0:Rat).num*x.den):=by
   have:=(h2 x hx).1
   show ¬(x.num*1<0*(x.den:Int))
   omega
  rw [e0,decide_eq_false q] at eu
  have er:=Kc (x:=x)
  simp [iD,Hm,Vx,fFn,aa,aB,fC,aG,eu,er,fTv]
 have z1:l.length<=16777216:=by omega
 have eq:iI [.fz (.tup (l.map rD)),.fz (.int c)]=.ok (.lst (l.map λ_=>.bl true)):=by
  simp [iI,du,uE,aG,cMe,ec,z1]
 have ea:=Mx (f:=λ_:Rat=>D.bl true) (l:=l) λ_ _=>rfl
 have e1:rD 1=.tup [.int 1,.int 1]:=rfl
 have eg:gEq (rD 1) (.tup [.int 1,.int 1])=some true:=by rw [← e1,HS];simp
 have ln:dW [.tup (l.map rD)]=some (.int c):=by simp [dW,h1]
 have it:Ga "tuple" (ak 0) [.fz (.tup (l.map rD)),.fz (.int c)]=.ok (.bl true):=rfl
 have gl:rB [.tup (l.map rD)]=some (.lst (l.map rD)):=rfl
 simp [dI,jq,jE,bj,aJ,gIf,rM,qK,fTv,it,aR,aU,aa,aB,ak,ln,gNe,gNx,eq,ea,bD,Me.let,Sl.let,mK,fFn,gl,et,fC,eg]
theorem WX {S:Nat}(hS:S<=100){l:List Rat}{c:Nat}(h:okS S l c):dI [.tup (l.map rD),.int c]=.ok (false,.bl true):=U3 hS h.1 h.2.1 h.2.2.1 (by have:=h.2.2.2;omega)
theorem Uy {S:Nat}(hS:S<=100){Rs:List D}{q:Str->List Rat}(hr:∀d∈Rs,Cp d)(hl:Rs.length<=1000)(ho:∀d∈Rs,okS S (q (nmR d)) (wdD d)):j9 [.lst Rs,bN Rs q]=.ok (false,.bl true):=by
 have ec:dJ (hName 0) gQ jc [.un,.fz (bN Rs q)] Rs=.ok (Rs.map λ_=>.bl true):=by
  have:=gH (h:=hName 0) (ft:=gQ) (fe:=jc) (m0:=[.un,.fz (bN Rs q)]) (g:=id) (f:=λ_=>.bl true) Rs λd hd=>by
   refine ⟨[.fz d,.fz (bN Rs q)],rfl,rfl,?_⟩
   have hv:=Bm (λn=>.tup ((q n).map rD)) Rs ⟨d,hd,rfl⟩
   have ho':=WX hS (ho d hd)
   obtain ⟨s,n,ws,r,rfl⟩:=hr d hd
   have x1:∀a b c d:D,atI [a,b,c,d] 1=some b:=λ_ _ _ _=>rfl
   have x2:∀a b c d:D,atI [a,b,c,d] 2=some c:=λ_ _ _ _=>rfl
   have hv:qN (Rs.map λd=>.inr (nmR d)) (Rs.map λd=>.tup ((q (nmR d)).map rD)) (.inr n)=some (.tup ((q n).map rD)):=hv
   have ho':dI [.tup ((q n).map rD),.int ((eV ws).length:Nat)]=.ok (false,.bl true):=ho'
   have gi:Wb (.str n) (bN Rs q)=some true:=by simp [Wb,bN,m6,hv]
   have gg:cg (bN Rs q) (.str n)=some (.tup ((q n).map rD)):=by simp [cg,bN,m6,hv]
   have ln:dW [.tup (eV ws)]=some (.int ((eV ws).length:Nat)):=rfl
   simp [jc,Hm,mK,aA,ak,fC,gIx,eU,x1,x2,gi,gg,fFn,aa,aB,aU,ln,ho',fTv]
  simpa using this
 have z1:Rs.length<=16777216:=by omega
 have eq:lG [.fz (.lst Rs),.fz (bN Rs q)]=.ok (.lst (Rs.map λ_=>.bl true)):=by
  have eb:(Sl.fz (bN Rs q)).bor=.fz (bN Rs q):=rfl
  simp [lG,du,jH,ak,cMe,eb,ec,z1]
 have ea:=Mx (f:=λ_:D=>D.bl true) (l:=Rs) λ_ _=>rfl
 have l1:dW [bN Rs q]=some (.int Rs.length):=by simp [dW,bN]
 have l2:dW [.lst Rs]=some (.int Rs.length):=rfl
 have it:Ga "dict" (ak 1) [.fz (.lst Rs),.fz (bN Rs q)]=.ok (.bl true):=rfl
 simp [j9,ph,o6,bj,aJ,gIf,rM,qK,fTv,it,aR,aU,aa,aB,ak,l1,l2,gNe,gNx,eq,ea,bD,Me.let,Sl.let]
noncomputable abbrev rowsOf (g:Gm)(s:Int):List D:=(tbl (prG [] ([],[]) g)).2.filter λd=>decide (sdD d=s)
theorem CV {S:Nat}(hS:S<=100){g:Gm}{s:Int}{q:Str->List Rat}(h:iw g)(hs:sdG g)(hd:dp g<=50)(hz:szG g<=10000)(hl:(rowsOf g s).length<=1000)(ho:∀d∈rowsOf g s,okS S (q (nmR d)) (wdD d)):dX [dG g,.int s,bN (rowsOf g s) q]=.ok (false,.non):=by
 have e1:=Xp (s:=s) h hs hd hz
 have e2:=Uy hS (q:=q) (λd hd=>uR (List.mem_filter.mp hd).1) hl ho
 have e3:sJ [dG g,.int s,bN (rowsOf g s) q]=.ok (false,.bl true):=by
  simp [sJ,wM,wV,bj,bD,Me.let,Sl.let,fFn,aa,aB,aG,e1,e2]
 simp [dX,jZ,jW,bj,gIf,qK,fTv,fFn,aa,aB,aG,e3,gNx]
noncomputable def p2 (q1 q2:Str->List Rat):Pl:=λs n=>if s=1 then q1 n else if s=2 then q2 n else []
abbrev Tr3:=List Int×Gm×Rc
theorem RD {T:Tb}{p:Tr3}{k:List Kt}(h:k∈T.1):k∈(tst T p).1:=by
 unfold tst
 split
 ·split
  ·exact h
  ·exact List.mem_append_left _ h
 ·exact h
theorem Dm {k:List Kt}:∀(l:List Tr3) (T:Tb),k∈T.1->k∈(l.foldl tst T).1
 |[],T,h=>h
 |p::l,T,h=>Dm l (tst T p) (RD h)
theorem G8 {s:Int}{n:Str}{ws:Ws}:∀(l:List Tr3) (T:Tb) (p:Tr3),p∈l->p.2.1=.move s n ws->kn s n∈(l.foldl tst T).1
 |[],_,_,h,_=>by cases h
 |p'::l,T,p,h,e=>by
  rcases List.mem_cons.mp h with z | z
  ·subst z
   refine Dm l (tst T p) ?_
   unfold tst
   rw [e]
   show kn s n∈(if (cF T.1 T.2 (kn s n)).isSome=true then T else (T.1++[kn s n],T.2++[eU s n ws p.2.2])).1
   by_cases c:(cF T.1 T.2 (kn s n)).isSome=true
   ·rw [if_pos c]
    by_cases m:kn s n∈T.1
    ·exact m
    ·rw [Tj m] at c;cases c
   ·rw [if_neg c]
    exact List.mem_append_right _ List.mem_cons_self
  ·exact G8 l (tst T p') p z e
theorem WY {l:List Tr3}{p:Tr3}{s:Int}{n:Str}{ws:Ws}(h:p∈l)(e:p.2.1=.move s n ws):∃d∈(tbl l).2,∃q∈l,∃ws',q.2.1=.move s n ws'/\d=eU s n ws' q.2.2:=by
 have k:=G8 l ([],[]) p h e
 have T:=Lw.yL l ([],[]) ⟨rfl,List.nodup_nil⟩
 rw [T.1] at k
 obtain ⟨d,hd,ek⟩:=List.mem_map.mp k
 rcases yP l ([],[]) d hd with z | ⟨q,hq,s',n',ws',eq,rfl⟩
 ·cases z
 ·obtain ⟨e1,e2⟩:=ZL (show kn s' n'=kn s n from ek)
  subst e1 e2
  exact ⟨_,hd,q,hq,ws',eq,rfl⟩
def plc (S:Nat)(P:D)(p:Pl)(g:Gm):Prop:=match g with
 | .fin d=>∃q:Rat,d=rq q/\Sz 40 q
 | .deal _ ws=>(∃l:List Rat,eV ws=l.map rD/\∀x∈l,Sz S x)/\fK ws<=100
 | .move s n ws=>Wm S P p s n ws/\fK ws<=100
mutual
theorem Yl {S:Nat}{P:D}{p:Pl}:∀(g:Gm) (w:List Int) (r:Rc),(∀t∈prG w r g,plc S P p t.2.1)->cG S P p g
 | .fin d,w,r,h=>h (w,.fin d,r) (by rw [prG];exact List.mem_cons_self)
 | .deal n ws,w,r,h=>by
  have h0:=h (w,.deal n ws,r) (by rw [prG];exact List.mem_cons_self)
  exact ⟨h0.1,h0.2,Rr ws w (λ_=>r) 0 λt ht=>h t (by rw [prG];exact List.mem_cons_of_mem _ ht)⟩
 | .move s n ws,w,r,h=>by
  have h0:=h (w,.move s n ws,r) (by rw [prG];exact List.mem_cons_self)
  exact ⟨h0.1,h0.2,Rr ws w (rbm s n r) 0 λt ht=>h t (by rw [prG];exact List.mem_cons_of_mem _ ht)⟩
theorem Rr {S:Nat}{P:D}{p:Pl}:∀(ws:Ws) (w:List Int) (f:D->Rc) (i:Nat),(∀t∈prW w f i ws,plc S P p t.2.1)->cW S P p ws
 | .nil,_,_,_,_=>trivial
 | .cons l g r,w,f,i,h=>⟨Yl g _ (f l) λt ht=>h t (by rw [prW];exact List.mem_append_left _ ht),Rr r w f (i+1) λt ht=>h t (by rw [prW];exact List.mem_append_right _ ht)⟩
end
structure Gv (g:Gm):Prop extends Gd g where
 fn:∀p∈prG [] ([],[]) g,∀d,p.2.1=.fin d->∃q:Rat,d=rq q
theorem aas {q:Rat}(h:smQ (rq q)):Sz 40 q:=by
 have h1:q.num.natAbs<=999999999999:=h.1
 have h2:(q.den:Int)<=999:=h.2
 have b:(999999999999:Nat)<2 ^ 40:=by decide
 exact ⟨by omega,by omega⟩
theorem Z3 {ws ws':Ws}{s:Int}{n:Str}{r r':Rc}(h:eU s n ws r=eU s n ws' r'):fK ws=fK ws':=by
 unfold eU at h
 simp at h
 rw [← lB,← lB,h.1]
theorem VB {g:Gm}(G:Gd g){t:Tr3}(h:t∈prG [] ([],[]) g){s:Int}{n:Str}{ws:Ws}(e:t.2.1=.move s n ws):(s=1\/s=2)/\fK ws<=100:=by
 have:=Cu [] ([],[]) g G.len G.sd t h
 unfold okP at this
 rw [e] at this
 exact this
def okQ (S:Nat)(g:Gm)(s:Int)(q:Str->List Rat):Prop:=∀d∈rowsOf g s,okS S (q (nmR d)) (wdD d)
theorem abp {g:Gm}(G:Gd g){t:Tr3}(h:t∈prG [] ([],[]) g){s:Int}{n:Str}{ws:Ws}(e:t.2.1=.move s n ws):∃d∈rowsOf g s,nmR d=n/\wdD d=fK ws:=by
 obtain ⟨d,hd,t',ht',ws',e',rfl⟩:=WY h e
 obtain ⟨ρ,hρ⟩:=G.row
 have r1:=(hρ t h s n ws e).1
 have r2:=(hρ t' ht' s n ws' e').1
 refine ⟨_,List.mem_filter.mpr ⟨hd,decide_eq_true (show sdD (eU s n ws' t'.2.2)=s from rfl)⟩,rfl,?_⟩
 show (eV ws').length=fK ws
 rw [lB]
 exact Z3 (r2.trans r1.symm)
noncomputable def Es (g:Gm)(q1 q2:Str->List Rat):D:=.dct [.inl 1,.inl 2] [bN (rowsOf g 1) q1,bN (rowsOf g 2) q2]
theorem wY {S:Nat}(hS:20<=S)(hS2:S<=100){g:Gm}(G:Gv g)(hb:bG S g<=8800){q1 q2:Str->List Rat}(h1:okQ S g 1 q1)(h2:okQ S g 2 q2):pH [dG g,bN (rowsOf g 1) q1,bN (rowsOf g 2) q2]=.ok (false,rD (vG (p2 q1 q2) g))/\Sz (bG S g) (vG (p2 q1 q2) g):=by
 have hz:=G.sz
 have hd:=G.dep
 have l1:(rowsOf g 1).length<=1000:=Nat.le_trans G.t1.1 (by decide)
 have l2:(rowsOf g 2).length<=1000:=Nat.le_trans G.t2.1 (by decide)
 have e1:=CV hS2 (s:=1) (q:=q1) G.len G.sd (by omega) (by omega) l1 h1
 have e2:=CV hS2 (s:=2) (q:=q2) G.len G.sd (by omega) (by omega) l2 h2
 have c:cG S (Es g q1 q2) (p2 q1 q2) g:=Yl g [] ([],[]) λt ht=>by
  have f:=G.fr t ht
  obtain ⟨w,u,r⟩:=t
  cases u with
  |fin d=>
   obtain ⟨q,hq⟩:=G.fn _ ht d rfl
   subst hq
   exact ⟨q,rfl,aas f.1⟩
  |deal n ws=>
   obtain ⟨l,hl,hs,_⟩:=f.1
   exact ⟨⟨l,hl,λx hx=>((hs x hx).1).mono hS⟩,f.2.1⟩
  |move s n ws=>
   obtain ⟨sd,lw⟩:=VB G.toGd ht rfl
   refine ⟨?_,lw⟩
   obtain ⟨d,hd,en,ew⟩:=abp G.toGd ht (n:=n) rfl
   have go:∀(q:Str->List Rat),okQ S g s q->p2 q1 q2 s n=q n->cg (Es g q1 q2) (.int s)=some (bN (rowsOf g s) q)->Wm S (Es g q1 q2) (p2 q1 q2) s n ws:=λq ho ep eg=>by
    have o:=ho d hd
    rw [en,ew] at o
    refine ⟨?_,by rw [ep];exact o.1,λx hx=>by rw [ep] at hx;exact (o.2.1 x hx).2⟩
    rw [eg,ep]
    have v:=Bm (λn=>.tup ((q n).map rD)) (rowsOf g s) ⟨d,hd,en⟩
    show cg (bN (rowsOf g s) q) (.str n)=_
    simp [cg,bN,m6,v]
   rcases sd with rfl | rfl
   ·exact go q1 h1 rfl rfl
   ·exact go q2 h2 rfl rfl
 obtain ⟨ec,hc⟩:=Yt g 30 c (by omega) hb
 refine ⟨?_,hc⟩
 have ed:M9 [((fC (.int 1)),(aG 1)),((fC (.int 2)),(aG 2))] [.fz (dG g),.fz (bN (rowsOf g 1) q1),.fz (bN (rowsOf g 2) q2)]=.ok (Es g q1 q2):=rfl
 have r1:gEx (fFn dX (aa (aG 0) (aa (fC (.int 1)) (aa (aG 1) aB)))) [.fz (dG g),.fz (bN (rowsOf g 1) q1),.fz (bN (rowsOf g 2) q2)]=.ok (.nx,[.fz (dG g),.fz (bN (rowsOf g 1) q1),.fz (bN (rowsOf g 2) q2)]):=by
  simp [gEx,fFn,aa,aB,aG,fC,e1]
 have r2:gEx (fFn dX (aa (aG 0) (aa (fC (.int 2)) (aa (aG 2) aB)))) [.fz (dG g),.fz (bN (rowsOf g 1) q1),.fz (bN (rowsOf g 2) q2)]=.ok (.nx,[.fz (dG g),.fz (bN (rowsOf g 1) q1),.fz (bN (rowsOf g 2) q2)]):=by
  simp [gEx,fFn,aa,aB,aG,fC,e2]
 have er:fFn (gq 30) (aa (aG 0) (aa (M9 [((fC (.int 1)),(aG 1)),((fC (.int 2)),(aG 2))]) aB)) [.fz (dG g),.fz (bN (rowsOf g 1) q1),.fz (bN (rowsOf g 2) q2)]=.ok (rD (vG (p2 q1 q2) g)):=by
  have e0:aG 0 [.fz (dG g),.fz (bN (rowsOf g 1) q1),.fz (bN (rowsOf g 2) q2)]=.ok (dG g):=rfl
  simp [fFn,aa,aB,e0,ed,ec]
 simp [pH,zH,Ah,bj,aJ,r1,r2,bD,er,Me.let,Sl.let]
end Pk
namespace K21
open PySem L2 Hd F Pk Lw
noncomputable def qt (x:Int):Int:=if x % 4=0 then x / 4 % 4 else if x % 4=1 then x / 4 % 7 else if x % 4=2 then 0 else x / 4 % 1000
theorem abE (x:Int):0<=qt x/\qt x<=999:=by
 unfold qt
 split
 ·omega
 split
 ·omega
 split<;>omega
theorem Xf {s1 s3:Sl}{x:Int}{P:List D}(h:sm x)(hP:P.length<=100):gU [.fz (.int x),s1,.ow (.lst P),s3]=.ok (.nx,[.fz (.int (x*48271 % 2147483647)),s1,.ow (.lst (P++[.int (qt x)])),s3]):=by
 obtain ⟨h0,h1⟩:=h
 have b1:Bq x:=bgS (by omega)
 have b2:Bq 48271:=bgS (by decide)
 have b3:Bq 4:=bgS (by decide)
 have z1:P.length<16777216:=by omega
 have e:atI [D.int (x / 4 % 4),.int (x / 4 % 7),.int 0,.int (x / 4 % 1000)] (x % 4)=some (.int (qt x)):=by
  have h:x % 4=0\/x % 4=1\/x % 4=2\/x % 4=3:=by omega
  unfold qt
  rcases h with h | h | h | h<;>rw [h]<;>rfl
 simp [gU,aJ,cR,jL,putL,d8,aa,aB,aA,gIx,ak,fC,bF,mdI,f9,dC,dvI,b1,b2,b3,e,z1,aX]
theorem N8 {s1:Sl}:∀(c i:Nat) (x:Int) (P:List Int) (s3:Sl),sm x->P.length+c<=100->(∀p∈P,0<=p/\p<=999)->∃(y:Int) (s3':Sl) (Q:List Int),bJ (hName 3) gU ((List.range' i c).map λ(k:Nat)=>D.int k) [.fz (.int x),s1,.ow (.lst (P.map D.int)),s3]=.ok (.nx,[.fz (.int y),s1,.ow (.lst (Q.map D.int)),s3'])/\sm y/\Q.length=P.length+c/\∀p∈Q,0<=p/\p<=999
 |0,i,x,P,s3,h,_,hP=>⟨x,s3,P,rfl,h,rfl,hP⟩
 |c+1,i,x,P,s3,h,hl,hP=>by
  have st:=Xf (s1:=s1) (s3:=.fz (.int i)) (P:=P.map D.int) h (by simp;omega)
  have h':sm (x*48271 % 2147483647):=⟨by omega,by omega⟩
  obtain ⟨y,s3',Q,e,hy,hl',hQ⟩:=N8 (s1:=s1) c (i+1) (x*48271 % 2147483647) (P++[qt x]) (.fz (.int i)) h' (by simp;omega) λp hp=>by
   rcases List.mem_append.mp hp with z | z
   ·exact hP p z
   ·rw [List.mem_singleton.mp z];exact abE x
  refine ⟨y,s3',Q,?_,hy,by rw [hl'];simp;omega,hQ⟩
  rw [List.range'_succ,List.map_cons,cM (m1:=[.fz (.int x),s1,.ow (.lst (P.map D.int)),.fz (.int i)]) rfl st]
  rw [List.map_append] at e
  exact e
theorem DK:∀Q:List Int,(∀p∈Q,0<=p/\p<=999)->0<=Q.sum/\Q.sum<=999*Q.length
 |[],_=>by simp
 |p::Q,h=>by
  have:=DK Q λq hq=>h q (List.mem_cons_of_mem _ hq)
  have h1:=h p List.mem_cons_self
  simp only [List.sum_cons,List.length_cons]
  omega
theorem Lb:∀Q:List Int,(∀p∈Q,0<=p/\p<=999)->1∈Q->1<=Q.sum
 |[],_,h=>by cases h
 |p::Q,h,m=>by
  have h2:=DK Q λq hq=>h q (List.mem_cons_of_mem _ hq)
  have h1:=h p List.mem_cons_self
  rw [List.sum_cons]
  rcases List.mem_cons.mp m with z | z
  ·omega
  ·have:=Lb Q (λq hq=>h q (List.mem_cons_of_mem _ hq)) z
   omega
theorem aav {Q:List Int}{u v:Sl}{c:Int}(hS:0<Q.sum)(hS2:Q.sum<=2997)(z1:Q.length<=1000):nj [u,.fz (.int c),.fz (.lst (Q.map D.int)),v]=.ok (.lst (Q.map λp=>rD (Rat.divInt p Q.sum))):=by
 have ec:dJ (hName 0) gQ mY [.un,.fz (.lst (Q.map D.int))] (Q.map D.int)=.ok (Q.map λp=>rD (Rat.divInt p Q.sum)):=gH Q λp _=>by
  refine ⟨[.fz (.int p),.fz (.lst (Q.map D.int))],rfl,rfl,?_⟩
  have e:=rE (t:=p) hS (bgS (by omega))
  simp [mY,fFn,aa,aB,aG,aU,ak,zg,e]
 have z:Q.length<=16777216:=by omega
 simp [nj,du,jH,ak,cMe,Sl.bor,ec,z]
theorem ZQ {Q:List Int}{y:Int}{c:Nat}{s3:Sl}(hc:0<c)(hq:Q.length=c)(hl:c<=3):lU 2 (aA bF (ak 0) (ak 1)) (fC (.int 1)) [.fz (.int y),.fz (.int (c:Int)),.ow (.lst (Q.map D.int)),s3]=.ok (.nx,[.fz (.int y),.fz (.int (c:Int)),.ow (.lst ((Q.set (y % c).toNat 1).map D.int)),s3]):=by
 have h0:0<=y % (c:Int):=Int.emod_nonneg _ (by omega)
 have h1:y % (c:Int)<c:=Int.emod_lt_of_pos _ (by omega)
 have hn:¬((c:Int)=0):=by omega
 have b:Bq (c:Int):=bgS (by omega)
 have ix:ixN Q.length (y % (c:Int))=some (y % (c:Int)).toNat:=by
  unfold ixN
  rw [if_pos h0,if_pos (by rw [hq];exact h1)]
 have cn:¬(c=0):=by omega
 simp [lU,fC,jL,aA,ak,bF,mdI,hn,cn,hc,b,ix,putL,List.map_set]
theorem Qj {L:Zab}{QQ:Zae}{x c:Int}{y:Int}{s':Sl}{Q Q':List Int}{r:List D}(eL:L [.fz (.int x),.fz (.int c),.ow (.lst []),.un]=.ok (.nx,[.fz (.int y),.fz (.int c),.ow (.lst (Q.map D.int)),s']))
  (e1:gIf (aR gEq (aU JT (aa (ak 2) aB)) (fC (.int 0))) (lU 2 (aA bF (ak 0) (ak 1)) (fC (.int 1))) gNx [.fz (.int y),.fz (.int c),.ow (.lst (Q.map D.int)),s']=.ok (.nx,[.fz (.int y),.fz (.int c),.ow (.lst (Q'.map D.int)),s']))
  (eq:∀u v:Sl,QQ [u,.fz (.int c),.fz (.lst (Q'.map D.int)),v]=.ok (.lst r)):bj 4 2 (mF L QQ) [.int x,.int c]=.ok (false,.tup r):=by
 have gt:fH [.lst r]=some (.tup r):=rfl
 simp [bj,mF,aJ,eX,d8,aB,eL,e1,bD,Me.let,Sl.let,aU,aa,eq,gt]
theorem Bc {x:Int}{c:Nat}(h:sm x)(hc:1<=c/\c<=3):∃l:List Rat,gm [.int x,.int (c:Int)]=.ok (false,.tup (l.map rD))/\okS 20 l c/\∀q∈l,Sz 12 q:=by
 obtain ⟨y,s',Q,e,hy,hl,hQ⟩:=N8 (s1:=.fz (.int (c:Int))) c 0 x [] .un h (by simp;omega) (λ_ z=>by cases z)
 have hl:Q.length=c:=by simpa using hl
 have e1:(aa (ak 1) aB) [.fz (.int x),.fz (.int (c:Int)),.ow (.lst []),.un]=.ok [.int (c:Int)]:=by simp [aa,ak,aB]
 have e2:=BK e1 (by omega) (by omega)
 have eL:mW [.fz (.int x),.fz (.int (c:Int)),.ow (.lst []),.un]=.ok (.nx,[.fz (.int y),.fz (.int (c:Int)),.ow (.lst (Q.map D.int)),s']):=by
  unfold mW gZ
  rw [e2]
  show bJ (hName 3) gU ((List.range c).map λ(k:Nat)=>D.int k) _=_
  rw [List.range_eq_range']
  exact e
 have main:∀Q':List Int,Q'.length=c->(∀p∈Q',0<=p/\p<=999)->0<Q'.sum->gIf (aR gEq (aU JT (aa (ak 2) aB)) (fC (.int 0))) (lU 2 (aA bF (ak 0) (ak 1)) (fC (.int 1))) gNx [.fz (.int y),.fz (.int (c:Int)),.ow (.lst (Q.map D.int)),s']=.ok (.nx,[.fz (.int y),.fz (.int (c:Int)),.ow (.lst (Q'.map D.int)),s'])->
   ∃l:List Rat,gm [.int x,.int (c:Int)]=.ok (false,.tup (l.map rD))/\okS 20 l c/\∀q∈l,Sz 12 q:=λQ' hl' hQ' hS e3=>by
  have hb:=(DK Q' hQ').2
  have hS2:Q'.sum<=2997:=by omega
  have sz:∀q∈Q'.map λp=>Rat.divInt p Q'.sum,Sz 12 q:=λq hq=>by
   obtain ⟨p,hp,rfl⟩:=List.mem_map.mp hq
   have:=hQ' p hp
   exact zN (by omega) (by show p.natAbs<4096;omega) (by show Q'.sum.natAbs<4096;omega)
  refine ⟨Q'.map λp=>Rat.divInt p Q'.sum,?_,⟨by simp [hl'],λq hq=>⟨?_,(sz q hq).mono (by decide)⟩,by rw [yS,div_self hS],by simp;omega⟩,sz⟩
  ·rw [List.map_map]
   exact Qj eL e3 λu v=>aav hS hS2 (by omega)
  ·obtain ⟨p,hp,rfl⟩:=List.mem_map.mp hq
   have:=hQ' p hp
   by_cases z:p=0
   ·subst z;simp
   ·exact Int.le_of_lt (div_pos (by omega) hS)
 by_cases z:Q.sum=0
 ·refine main (Q.set (y % c).toNat 1) (by simp [hl]) (λp hp=>?_) ?_ ?_
  ·rcases List.mem_or_eq_of_mem_set hp with w | w
   ·exact hQ p w
   ·rw [w];omega
  ·have h1:(y % (c:Int)).toNat<Q.length:=by
    have:=Int.emod_lt_of_pos y (show 0<(c:Int) by omega)
    have:=Int.emod_nonneg y (show (c:Int)≠0 by omega)
    omega
   have:=Lb (Q.set (y % c).toNat 1) (λp hp=>by
    rcases List.mem_or_eq_of_mem_set hp with w | w
    ·exact hQ p w
    ·rw [w];omega) (List.mem_set h1 1)
   omega
  ·have:=ZQ (Q:=Q) (y:=y) (s3:=s') (by omega) hl hc.2
   simp [gIf,aR,aU,aa,aB,ak,zg,fC,z,this]
 ·refine main Q hl hQ ?_ ?_
  ·have:=(DK Q hQ).1
   omega
  ·simp [gIf,aR,aU,aa,aB,ak,zg,fC,z,gNx]
theorem Fd {a b:Rat}{k l:Nat}(ha:Sz k a)(hb:Sz l b)(hk:k+l<=8900):gf [rD a,rD b]=.ok (false,rD (a+b)):=by
 have a1:Bq a.num:=gP (cJ ha.1 (by omega))
 have a2:Bq (a.den:Int):=gP (cJ (by simpa using ha.2) (by omega))
 have b1:Bq b.num:=gP (cJ hb.1 (by omega))
 have b2:Bq (b.den:Int):=gP (cJ (by simpa using hb.2) (by omega))
 have e:=rE (t:=a.num*b.den+b.num*a.den) (show 0<(a.den:Int)*b.den from Int.mul_pos (by have:=iC a;omega) (by have:=iC b;omega)) (gP (cJ (oK (by simpa using ha.2) (by simpa using hb.2)) (by omega)))
 rw [Lp] at e
 simp [gf,bj,qR,rP,bD,Me.let,Sl.let,fFn,aa,aB,aA,ak,fC,gIx,nJ,ix0,ix1,f9,bY,a1,a2,b1,b2]
 rw [e]
 simp [nJ]
theorem Bj {a b:Rat}{k l:Nat}(ha:Sz k a)(hb:Sz l b)(hk:k+l<=8900):gk [rD a,rD b]=.ok (false,rD (a*b)):=by
 have a1:Bq a.num:=gP (cJ ha.1 (by omega))
 have a2:Bq (a.den:Int):=gP (cJ (by simpa using ha.2) (by omega))
 have b1:Bq b.num:=gP (cJ hb.1 (by omega))
 have b2:Bq (b.den:Int):=gP (cJ (by simpa using hb.2) (by omega))
 have e:=rE (t:=a.num*b.num) (show 0<(a.den:Int)*b.den from Int.mul_pos (by have:=iC a;omega) (by have:=iC b;omega)) (gP (cJ (oK (by simpa using ha.2) (by simpa using hb.2)) (by omega)))
 rw [T4] at e
 simp [gk,bj,pU,qe,bD,Me.let,Sl.let,fFn,aa,aB,aA,ak,fC,gIx,nJ,ix0,ix1,f9,a1,a2,b1,b2]
 rw [e]
 simp [nJ]
theorem JK {k:Nat}{w:Rat}(h:Sz k w):Sz k (-w):=⟨by simpa using h.1,by simpa using h.2⟩
theorem Iz {w a b:Rat}{k l:Nat}(hw:Sz 12 w)(ha:Sz k a)(hb:Sz l b)(hk:k+l+40<=8900):fj [rD w,rD a,rD b]=.ok (false,rD (w*a+(1-w)*b))/\Sz (k+l+27) (w*a+(1-w)*b):=by
 have x0:∀a b:D,atI [a,b] 0=some a:=λ_ _=>rfl
 have x1:∀a b:D,atI [a,b] 1=some b:=λ_ _=>rfl
 have e1:=Fd Ft (JK hw) (by omega)
 have s1:=uz Ft (JK hw)
 have e0:rD 1=.tup [.int 1,.int 1]:=rfl
 have en:rD (-w)=.tup [.int (-w.num),.int w.den]:=by rw [nJ];simp
 rw [show (1:Rat) + -w=1-w by grind] at e1 s1
 have e2:=Bj hw ha (by omega)
 have e3:=Bj s1 hb (by omega)
 have e4:=Fd (oF hw ha) (oF s1 hb) (by omega)
 refine ⟨?_,(uz (oF hw ha) (oF s1 hb)).mono (by omega)⟩
 rw [e0,en] at e1
 have eg:aX 3 (fFn gf (aa (bA (aa (fC (.int 1)) (aa (fC (.int 1)) aB))) (aa (bA (aa (aA dB (fC (.int 0)) (aA gIx (ak 0) (fC (.int 0)))) (aa (aA gIx (ak 0) (fC (.int 1))) aB))) aB))) [.fz (rD w),.fz (rD a),.fz (rD b),.un]=.ok (.nx,[.fz (rD w),.fz (rD a),.fz (rD b),.fz (rD (1-w))]):=by
  rw [nJ w]
  simp [aX,fFn,aa,aB,bA,fC,aA,F.dB,ak,gIx,x0,x1,e1]
 simp [fj,bj,lM,lJ,aJ,eg,bD,Me.let,Sl.let,fFn,aa,aB,aG,e2,e3,e4]
theorem Wn {Rs:List D}{q:Str->List Rat}{d:D}{l:List Rat}(h:∀d'∈Rs,nmR d'≠nmR d):
  D.dct (putD (Rs.map λd=>.inr (nmR d)) (Rs.map λd=>.tup ((q (nmR d)).map rD)) (.inr (nmR d)) (.tup (l.map rD))).1 (putD (Rs.map λd=>.inr (nmR d)) (Rs.map λd=>.tup ((q (nmR d)).map rD)) (.inr (nmR d)) (.tup (l.map rD))).2=bN (Rs++[d]) λn=>if n=nmR d then l else q n:=by
 have a:¬((Rs.map λd=>(Sum.inr (nmR d):Key)).any (λx=>decide (x=.inr (nmR d)))=true):=by
  intro z
  obtain ⟨x,hx,e⟩:=List.any_eq_true.mp z
  obtain ⟨d',hd,rfl⟩:=List.mem_map.mp hx
  exact h d' hd (Sum.inr.inj (of_decide_eq_true e))
 unfold putD
 rw [if_neg a]
 unfold bN
 rw [List.map_append,List.map_append]
 congr 1
 show _=(Rs.map λd'=>D.tup ((if nmR d'=nmR d then l else q (nmR d')).map rD))++[D.tup ((if nmR d=nmR d then l else q (nmR d)).map rD)]
 rw [if_pos rfl]
 have:(Rs.map λd=>D.tup ((q (nmR d)).map rD))=Rs.map λd'=>D.tup ((if nmR d'=nmR d then l else q (nmR d')).map rD):=List.map_congr_left λd' hd=>by rw [if_neg (h d' hd)]
 rw [← this]
noncomputable def Ce (q:Str->List Rat)(n:Str)(l:List Rat):Str->List Rat:=λm=>if m=n then l else q m
theorem Dd {q:Str->List Rat}{n:Str}{l:List Rat}:∀Rs:List D,xO (Rs.map λd=>.inr (nmR d)) (Rs.map λd=>.tup ((q (nmR d)).map rD)) (.inr n) (.tup (l.map rD))=Rs.map λd=>.tup ((Ce q n l (nmR d)).map rD)
 |[]=>rfl
 |d::Rs=>by
  show (if (Sum.inr (nmR d):Key)=.inr n then _ else _)::xO _ _ _ _=_::_
  rw [Dd Rs]
  congr 1
  by_cases c:nmR d=n
  ·rw [if_pos (by rw [c])];simp [Ce,c]
  ·rw [if_neg (λz=>c (Sum.inr.inj z))];simp [Ce,c]
theorem Ol {Rs:List D}{q:Str->List Rat}{n:Str}{l:List Rat}(h:∃d∈Rs,nmR d=n):
  D.dct (putD (Rs.map λd=>.inr (nmR d)) (Rs.map λd=>.tup ((q (nmR d)).map rD)) (.inr n) (.tup (l.map rD))).1 (putD (Rs.map λd=>.inr (nmR d)) (Rs.map λd=>.tup ((q (nmR d)).map rD)) (.inr n) (.tup (l.map rD))).2=bN Rs (Ce q n l):=by
 obtain ⟨d,hd,e⟩:=h
 have a:(Rs.map λd=>(Sum.inr (nmR d):Key)).any (λx=>decide (x=.inr n))=true:=List.any_eq_true.mpr ⟨.inr (nmR d),List.mem_map.mpr ⟨d,hd,rfl⟩,decide_eq_true (by rw [e])⟩
 unfold putD
 rw [if_pos a,Dd]
 rfl
theorem W8 {s:Int}{n:Str}{ws:Ws}{r:Rc}:gIx (eU s n ws r) (.int 0)=some (.int s)/\gIx (eU s n ws r) (.int 1)=some (.str n)/\gIx (eU s n ws r) (.int 2)=some (.tup (eV ws)):=⟨rfl,rfl,rfl⟩
theorem aad {Rows:List D}{row W v:D}{s cell x:Int}{n:Str}{ks:List Key}{ds:List D}{w:Int}{i:Nat}(hi:Bq (i:Int))(ix:gIx (.lst Rows) (.int i)=some row)(r0:gIx row (.int 0)=some (.int s))(r1:gIx row (.int 1)=some (.str n))(r2:gIx row (.int 2)=some W)(ln:dW [W]=some (.int w))
  (ex:cB [.int cell,.int (3*i+1)]=.ok (false,.int x)) (el:gm [.int x,.int w]=.ok (false,v)) (hz:ks.length<sizeLine):
  dR [.fz (.lst Rows),.fz (.int s),.fz (.int cell),.ow (.dct ks ds),.fz (.int i)]=.ok (.nx,[.fz (.lst Rows),.fz (.int s),.fz (.int cell),.ow (.dct (putD ks ds (.inr n) v).1 (putD ks ds (.inr n) v).2),.fz (.int i)]):=by
 have b3:Bq 3:=bgS (by decide)
 rw [Tt] at hz
 generalize hp:putD ks ds (.inr n) v=p
 obtain ⟨p1,p2⟩:=p
 simp [dR,gIf,aR,aA,ak,ix,fC,r0,r1,r2,iM,fFn,aa,aB,aG,f9,bY,b3,hi,ex,aU,ln,el,BR,m6,hz,Dy,hp]
theorem V5 {Rows:List D}{row:D}{s a:Int}{S2 S3:Sl}{i:Nat}(ix:gIx (.lst Rows) (.int i)=some row)(r0:gIx row (.int 0)=some (.int a))(c:¬a=s):
  dR [.fz (.lst Rows),.fz (.int s),S2,S3,.fz (.int i)]=.ok (.nx,[.fz (.lst Rows),.fz (.int s),S2,S3,.fz (.int i)]):=by
 simp [dR,gIf,aR,aA,ak,ix,fC,r0,c,gNx]
theorem V2 {Rows:List D}{s cell:Int}{done:List D}{q:Str->List Rat}{i:Nat}{d:D}(hi:i<=300)(hd:Rows[i]? = some d)(hr:Cp d)(hw:1<=wdD d/\wdD d<=3)(hz:done.length<=1000)(hn:sdD d=s->∀d'∈done,nmR d'≠nmR d):
  ∃q',dR [.fz (.lst Rows),.fz (.int s),.fz (.int cell),.ow (bN done q),.fz (.int i)]=.ok (.nx,[.fz (.lst Rows),.fz (.int s),.fz (.int cell),.ow (bN (if sdD d=s then done++[d] else done) q'),.fz (.int i)])/\
   (∀d'∈done,q' (nmR d')=q (nmR d'))/\(sdD d=s->okS 20 (q' (nmR d)) (wdD d)/\∀x∈q' (nmR d),Sz 12 x):=by
 obtain ⟨a,n,ws,r,rfl⟩:=hr
 have ix:gIx (.lst Rows) (.int i)=some (eU a n ws r):=kj hd
 obtain ⟨r0,r1,r2⟩:=W8 (s:=a) (n:=n) (ws:=ws) (r:=r)
 by_cases c:a=s
 ·subst c
  obtain ⟨x,ex,hx⟩:=xF cell (3*i+1) (by omega)
  obtain ⟨l,el,hl,hs⟩:=Bc (c:=wdD (eU a n ws r)) hx hw
  have pn:=Wn (Rs:=done) (q:=q) (d:=eU a n ws r) (l:=l) (hn rfl)
  refine ⟨λm=>if m=nmR (eU a n ws r) then l else q m,?_,λd' hd'=>if_neg (hn rfl d' hd'),λ_=>by simpa using And.intro hl hs⟩
  rw [show sdD (eU a n ws r)=a from rfl,if_pos rfl,← pn]
  exact aad (bgS (by omega)) ix r0 r1 r2 rfl ex el (by rw [List.length_map];exact Nat.lt_of_le_of_lt hz (by decide))
 ·refine ⟨q,?_,λ_ _=>rfl,λz=>absurd z c⟩
  rw [show sdD (eU a n ws r)=a from rfl,if_neg c]
  exact V5 ix r0 c
theorem TX {L:Zab}{a b c r:D}{s4:Sl}(eL:L [.fz a,.fz b,.fz c,.ow (.dct [] []),.un]=.ok (.nx,[.fz a,.fz b,.fz c,.ow r,s4])):bj 5 3 (oh L) [a,b,c]=.ok (true,r):=by
 simp [oh,bj,aJ,eX,vo,eL,nP]
theorem Ub {Rows:List D}{S1 S2 S3 S4:Sl}:(aa (aU dW (aa (ak 0) aB)) aB) [.fz (.lst Rows),S1,S2,S3,S4]=.ok [.int (Rows.length:Int)]:=by
 have:dW [.lst Rows]=some (.int Rows.length):=by simp [dW]
 simp [aa,aB,aU,ak,this]
theorem M4 {Rows:List D}{s cell:Int}(hl:Rows.length<=300)(hr:∀d∈Rows,Cp d/\1<=wdD d/\wdD d<=3):∀(rest pre:List D) (done:List D) (q:Str->List Rat) (s4:Sl),Rows=pre++rest->done.length<=pre.length->((done++rest.filter λd=>decide (sdD d=s)).map nmR).Nodup->(∀d∈done,okS 20 (q (nmR d)) (wdD d)/\∀x∈q (nmR d),Sz 12 x)->
  ∃q' s4',bJ (hName 4) dR ((List.range' pre.length rest.length).map λ(k:Nat)=>D.int k) [.fz (.lst Rows),.fz (.int s),.fz (.int cell),.ow (bN done q),s4]=.ok (.nx,[.fz (.lst Rows),.fz (.int s),.fz (.int cell),.ow (bN (done++rest.filter λd=>decide (sdD d=s)) q'),s4'])/\
   ∀d∈done++rest.filter (λd=>decide (sdD d=s)),okS 20 (q' (nmR d)) (wdD d)/\∀x∈q' (nmR d),Sz 12 x
 |[],pre,done,q,s4,_,_,_,ho=>⟨q,s4,by simp [bJ],by simpa using ho⟩
 |d::rest,pre,done,q,s4,e,hd,nd,ho=>by
  have hi:Rows[pre.length]? = some d:=by rw [e];simp
  have hm:d∈Rows:=List.mem_of_getElem? hi
  obtain ⟨h1,h2⟩:=hr d hm
  have lp:pre.length<Rows.length:=by rw [e];simp
  have hn:sdD d=s->∀d'∈done,nmR d'≠nmR d:=λc d' hd' z=>by
   rw [List.filter_cons,if_pos (decide_eq_true c),List.map_append,List.nodup_append] at nd
   exact nd.2.2 (nmR d') (List.mem_map.mpr ⟨d',hd',rfl⟩) (nmR d) (by rw [List.map_cons];exact List.mem_cons_self) z
  obtain ⟨q1,st,k1,k2⟩:=V2 (Rows:=Rows) (s:=s) (cell:=cell) (done:=done) (q:=q) (i:=pre.length) (by omega) hi h1 h2 (by omega) hn
  have e':Rows=(pre++[d])++rest:=by rw [e];simp
  have step:∀dn:List D,(if sdD d=s then done++[d] else done)=dn->dn++rest.filter (λd=>decide (sdD d=s))=done++(d::rest).filter (λd=>decide (sdD d=s)):=λdn ed=>by
   rw [List.filter_cons]
   by_cases c:sdD d=s
   ·rw [if_pos c] at ed;rw [if_pos (decide_eq_true c),← ed];simp
   ·rw [if_neg c] at ed;rw [if_neg (by simpa using c),← ed]
  generalize hdn:(if sdD d=s then done++[d] else done)=dn at st
  have st2:=step dn hdn
  have ho':∀d'∈dn,okS 20 (q1 (nmR d')) (wdD d')/\∀x∈q1 (nmR d'),Sz 12 x:=λd' hd'=>by
   by_cases c:sdD d=s
   ·rw [if_pos c] at hdn
    rw [← hdn] at hd'
    rcases List.mem_append.mp hd' with z | z
    ·rw [k1 d' z];exact ho d' z
    ·rw [List.mem_singleton.mp z];exact k2 c
   ·rw [if_neg c] at hdn
    rw [← hdn] at hd'
    rw [k1 d' hd'];exact ho d' hd'
  have ln:dn.length<=(pre++[d]).length:=by
   rw [← hdn]
   split<;>simp<;>omega
  obtain ⟨q2,s4',e2,h3⟩:=M4 hl hr rest (pre++[d]) dn q1 (.fz (.int pre.length)) e' ln (by rw [st2];exact nd) ho'
  refine ⟨q2,s4',?_,by rw [← st2];exact h3⟩
  rw [List.length_cons,List.range'_succ,List.map_cons,cM (m1:=[.fz (.lst Rows),.fz (.int s),.fz (.int cell),.ow (bN done q),.fz (.int pre.length)]) rfl st,← st2]
  rw [List.length_append,List.length_singleton] at e2
  exact e2
theorem Nm {Rows:List D}{s cell:Int}(hl:Rows.length<=300)(hr:∀d∈Rows,Cp d/\1<=wdD d/\wdD d<=3)(nd:((Rows.filter λd=>decide (sdD d=s)).map nmR).Nodup):
  ∃q,rQ [.lst Rows,.int s,.int cell]=.ok (true,bN (Rows.filter λd=>decide (sdD d=s)) q)/\∀d∈Rows.filter (λd=>decide (sdD d=s)),okS 20 (q (nmR d)) (wdD d)/\∀x∈q (nmR d),Sz 12 x:=by
 obtain ⟨q,s4',e,h⟩:=M4 (cell:=cell) (s:=s) hl hr Rows [] [] (λ_=>[]) .un rfl (by simp) (by simpa using nd) (λ_ z=>by cases z)
 refine ⟨q,?_,by simpa using h⟩
 rw [List.nil_append] at e
 have e2:=BK (Ub (Rows:=Rows) (S1:=.fz (.int s)) (S2:=.fz (.int cell)) (S3:=.ow (.dct [] [])) (S4:=.un)) (by omega) (by omega)
 have eL:oY [.fz (.lst Rows),.fz (.int s),.fz (.int cell),.ow (.dct [] []),.un]=.ok (.nx,[.fz (.lst Rows),.fz (.int s),.fz (.int cell),.ow (bN (Rows.filter λd=>decide (sdD d=s)) q),s4']):=by
  unfold oY gZ
  rw [e2]
  show bJ (hName 4) dR ((List.range Rows.length).map λ(k:Nat)=>D.int k) _=_
  rw [List.range_eq_range']
  exact e
 exact TX eL
theorem Z1 {q1 q2:Str->List Rat}{n:Str}{l:List Rat}:p2 (Ce q1 n l) q2=upP (p2 q1 q2) 1 n l:=by
 funext s m
 unfold p2 upP Ce
 by_cases h:s=1
 ·subst h;by_cases k:m=n<;>simp [k]
 ·simp [h]
theorem Z8 {q1 q2:Str->List Rat}{n:Str}{l:List Rat}:p2 q1 (Ce q2 n l)=upP (p2 q1 q2) 2 n l:=by
 funext s m
 unfold p2 upP Ce
 by_cases h:s=1
 ·subst h;simp
 ·by_cases k:s=2
  ·subst k;by_cases j:m=n<;>simp [j]
  ·simp [h,k]
theorem Ib {Φ:Zac}{g nm v r:D}{ks1 ks2:List Key}{ds1 ds2:List D}{k:Key}{s:Int}(hk:m6 nm=some k)(f1:jC ds1=true)(f2:jC ds2=true)(z1:ks1.length<sizeLine)(z2:ks2.length<sizeLine)(fr:mj r=true)
  (hs:(s=1/\Φ [g,.dct (putD ks1 ds1 k v).1 (putD ks1 ds1 k v).2,.dct ks2 ds2]=.ok (false,r))\/(s=2/\Φ [g,.dct ks1 ds1,.dct (putD ks2 ds2 k v).1 (putD ks2 ds2 k v).2]=.ok (false,r))):
  bj 8 5 (lC Φ) [g,.lst [.dct ks1 ds1,.dct ks2 ds2],.int s,nm,v]=.ok (false,r):=by
 have x20:∀a b:D,atI [a,b] 0=some a:=λ_ _=>rfl
 have x21:∀a b:D,atI [a,b] 1=some b:=λ_ _=>rfl
 have fd:(v9 (aU wW (aa (aA gIx (ak 1) (fC (.int 0))) aB)) (v9 (aU wW (aa (aA gIx (ak 1) (fC (.int 1))) aB)) aB)) [.fz g,.fz (.lst [.dct ks1 ds1,.dct ks2 ds2]),.fz (.int s),.fz nm,.fz v,.un,.un,.un]=.ok [.dct ks1 ds1,.dct ks2 ds2]:=by
  simp [v9,aU,aa,aB,aA,ak,fC,gIx,x20,x21,wW,Ax,f1,f2]
 rw [Tt] at z1 z2
 have key:lC Φ [.fz g,.fz (.lst [.dct ks1 ds1,.dct ks2 ds2]),.fz (.int s),.fz nm,.fz v,.un,.un,.un]=.ok (.rt false r,[.un,.un,.un,.un,.un,.un,.un,.un]):=by
  unfold lC SM
  rw [fd,Res.mJ,if_pos ⟨show (8:Nat)<=8 by decide,show (2:Nat)<=sizeLine by decide⟩]
  refine Qy λas hl nd=>?_
  match as,hl,nd with
  |[a1,a2],_,nd=>
   have ne:a1≠a2:=by simpa using nd
   have go:∀(d1 d2:D),pF (aA gIx (ak 5) (aA dB (ak 2) (fC (.int 1)))) (aG 3) (aG 4) [.fz g,.fz (.lst [.dct ks1 ds1,.dct ks2 ds2]),.fz (.int s),.fz nm,.fz v,.fz (.lst [.adr a1,.adr a2]),.hd true a1 (.dct ks1 ds1),.hd true a2 (.dct ks2 ds2)]=.ok (.nx,[.fz g,.fz (.lst [.dct ks1 ds1,.dct ks2 ds2]),.fz (.int s),.fz nm,.fz v,.fz (.lst [.adr a1,.adr a2]),.hd true a1 d1,.hd true a2 d2])->Φ [g,d1,d2]=.ok (false,r)->
     ∃m',(aJ (pF (aA gIx (ak 5) (aA dB (ak 2) (fC (.int 1)))) (aG 3) (aG 4)) (bD (Vl Φ (aa (ak 0) (aa (wA 6 (aA gIx (ak 5) (fC (.int 0)))) (aa (wA 7 (aA gIx (ak 5) (fC (.int 1)))) aB)))))) [.fz g,.fz (.lst [.dct ks1 ds1,.dct ks2 ds2]),.fz (.int s),.fz nm,.fz v,.fz (.lst [.adr a1,.adr a2]),.hd true a1 (.dct ks1 ds1),.hd true a2 (.dct ks2 ds2)]=.ok (.rt false r,m')/\m'.length=8:=λd1 d2 e1 e2=>by
    refine ⟨[.fz g,.fz (.lst [.dct ks1 ds1,.dct ks2 ds2]),.fz (.int s),.fz nm,.fz v,.fz (.lst [.adr a1,.adr a2]),.hd true a1 d1,.hd true a2 d2],?_,rfl⟩
    simp [aJ,e1,bD,Me.let,Sl.let,Vl,aa,aB,ak,wA,aA,fC,gIx,x20,x21,e2,fr]
   rcases hs with ⟨rfl,e⟩ | ⟨rfl,e⟩
   ·refine go _ _ ?_ e
    simp [pF,aG,aA,gIx,ak,fC,F.dB,x20,x21,hk,HN,z1]
   ·refine go _ _ ?_ e
    simp [pF,aG,aA,gIx,ak,fC,F.dB,x20,x21,hk,HN,z2,ne]
 simp [bj,key]
theorem LC:∀l:List Rat,jC (l.map rD)=true
 |[]=>rfl
 |x::l=>by show (mj (rD x) && jC (l.map rD))=true;rw [LC l];rfl
theorem pN {q:Str->List Rat}:∀Rs:List D,jC (Rs.map λd=>.tup ((q (nmR d)).map rD))=true
 |[]=>rfl
 |d::Rs=>by show (jC ((q (nmR d)).map rD) && jC (Rs.map λd=>.tup ((q (nmR d)).map rD)))=true;rw [pN Rs,LC];rfl
theorem okS.mono {S S':Nat}{l:List Rat}{c:Nat}(h:okS S l c)(hS:S<=S'):okS S' l c:=⟨h.1,λx hx=>⟨(h.2.1 x hx).1,(h.2.1 x hx).2.mono hS⟩,h.2.2⟩
theorem okQ.mono {S S':Nat}{g:Gm}{s:Int}{q:Str->List Rat}(h:okQ S g s q)(hS:S<=S'):okQ S' g s q:=λd hd=>okS.mono (h d hd) hS
theorem U5 {f:D->Str}:∀{l:List D},(l.map f).Nodup->∀{a b:D},a∈l->b∈l->f a=f b->a=b
 |[],_,_,_,h,_,_=>by cases h
 |d::l,nd,a,b,ha,hb,e=>by
  obtain ⟨n1,n2⟩:=List.nodup_cons.mp (show (f d::l.map f).Nodup from nd)
  rcases List.mem_cons.mp ha with h1 | h1<;>rcases List.mem_cons.mp hb with h2 | h2
  ·rw [h1,h2]
  ·rw [h1] at e;exact absurd (List.mem_map.mpr ⟨b,h2,e.symm⟩) n1
  ·rw [h2] at e;exact absurd (List.mem_map.mpr ⟨a,h1,e⟩) n1
  ·exact U5 n2 h1 h2 e
theorem okQ.up {S:Nat}{g:Gm}{s:Int}{q:Str->List Rat}(h:okQ S g s q)(nd:((rowsOf g s).map nmR).Nodup){d:D}(hd:d∈rowsOf g s){l:List Rat}(hl:okS S l (wdD d)):okQ S g s (Ce q (nmR d) l):=λd' hd'=>by
 unfold Ce
 by_cases c:nmR d'=nmR d
 ·rw [if_pos c,U5 nd hd' hd c];exact hl
 ·rw [if_neg c];exact h d' hd'
theorem zb {S:Nat}(hS:20<=S)(hS2:S<=100){g:Gm}(G:Gv g)(hb:bG S g<=8800){q1 q2:Str->List Rat}(h1:okQ S g 1 q1)(h2:okQ S g 2 q2){s:Int}(hs:s=1\/s=2)(nd:((rowsOf g s).map nmR).Nodup){d:D}(hd:d∈rowsOf g s){l:List Rat}(hl:okS S l (wdD d)):
  dO [dG g,.lst [bN (rowsOf g 1) q1,bN (rowsOf g 2) q2],.int s,.str (nmR d),.tup (l.map rD)]=.ok (false,rD (vG (upP (p2 q1 q2) s (nmR d) l) g))/\Sz (bG S g) (vG (upP (p2 q1 q2) s (nmR d) l) g):=by
 have l1:(rowsOf g 1).length<=1000:=Nat.le_trans G.t1.1 (by decide)
 have l2:(rowsOf g 2).length<=1000:=Nat.le_trans G.t2.1 (by decide)
 have z1:((rowsOf g 1).map λd=>(Sum.inr (nmR d):Key)).length<sizeLine:=by rw [List.length_map];exact Nat.lt_of_le_of_lt l1 (by decide)
 have z2:((rowsOf g 2).map λd=>(Sum.inr (nmR d):Key)).length<sizeLine:=by rw [List.length_map];exact Nat.lt_of_le_of_lt l2 (by decide)
 rcases hs with rfl | rfl
 ·obtain ⟨e,h⟩:=wY hS hS2 G hb (okQ.up h1 nd hd hl) h2
  rw [Z1] at e h
  refine ⟨Ib (k:=.inr (nmR d)) rfl (pN _) (pN _) z1 z2 rfl (.inl ⟨rfl,?_⟩),h⟩
  rw [Ol ⟨d,hd,rfl⟩]
  exact e
 ·obtain ⟨e,h⟩:=wY hS hS2 G hb h1 (okQ.up h2 nd hd hl)
  rw [Z8] at e h
  refine ⟨Ib (k:=.inr (nmR d)) rfl (pN _) (pN _) z1 z2 rfl (.inr ⟨rfl,?_⟩),h⟩
  rw [Ol ⟨d,hd,rfl⟩]
  exact e
theorem Y7 {e:En}{N:Nd}{s:Int}{n:Str}{d:D}(h:Row e N s n d):1<=wdD d/\wdD d<=3:=by
 obtain ⟨rc,c,b,k,_,_,_,_,_,hc,_,rfl⟩:=h
 show 1<=((List.range c).map _).length/\((List.range c).map _).length<=3
 simpa using hc
theorem su {g:Gm}(s:Int):((rowsOf g s).map nmR).Nodup:=by
 have T:=yL (prG [] ([],[]) g) ([],[]) ⟨rfl,List.nodup_nil⟩
 have nd:=T.2
 rw [T.1] at nd
 have pw:(tbl (prG [] ([],[]) g)).2.Pairwise λa b=>kOf a≠kOf b:=List.pairwise_map.mp nd
 refine List.pairwise_map.mpr ((pw.filter λd=>decide (sdD d=s)).imp_of_mem λ{a b} ha hb h z=>h ?_)
 obtain ⟨a1,a2⟩:=List.mem_filter.mp ha
 obtain ⟨b1,b2⟩:=List.mem_filter.mp hb
 obtain ⟨s1,n1,w1,r1,rfl⟩:=uR a1
 obtain ⟨s2,n2,w2,r2,rfl⟩:=uR b1
 have e1:s1=s:=of_decide_eq_true a2
 have e2:s2=s:=of_decide_eq_true b2
 have e3:n1=n2:=z
 show kn s1 n1=kn s2 n2
 rw [e1,e2,e3]
theorem ab7 {e:En}(E:nA e)(nd:e.pool.Nodup){N:Nd}{m:Int×Int}(I:oH N m){g:Gm}{dep:Nat}(hd:dep<=12)(G:Grw e N ([],[]) g dep)(hz:szG g<=64):Gv g where
 toGd:=ab3 E nd I hd G hz
 fn:=λp hp d ep=>by
  have:=G.pl [] p hp
  unfold Ug at this
  rw [ep] at this
  exact this.2
theorem J3 {l:List Rat}{k:Nat}(h:k<l.length):gIx (.tup (l.map rD)) (.int k)=some (rD (l.getD k 0)):=by
 have:(l.map rD)[k]? = some (rD (l.getD k 0)):=by rw [List.getElem?_map,List.getElem?_eq_getElem h,List.getD_eq_getElem?_getD,List.getElem?_eq_getElem h];rfl
 exact kj this
noncomputable def yq (w:Rat)(l m:List Rat):List Rat:=(List.range l.length).map λk=>w*l.getD k 0+(1-w)*m.getD k 0
theorem Om {w:Rat}{l m:List Rat}(h:l.length=m.length):yq w l m=(l.zip m).map λp=>w*p.1+(1-w)*p.2:=by
 apply List.ext_getElem
 ·simp [yq,h]
 ·intro i h1 h2
  have i1:i<l.length:=by simpa [yq] using h1
  have i2:i<m.length:=by omega
  simp [yq,List.getD_eq_getElem?_getD,i1,i2]
theorem mem_getD {l:List Rat}{k:Nat}(h:k<l.length):l.getD k 0∈l:=by
 rw [List.getD_eq_getElem?_getD,List.getElem?_eq_getElem h];exact List.getElem_mem h
theorem DY (x:Rat):0<=x.num↔0<=x:=Rat.num_nonneg
theorem KZ {w:Rat}:∀{l m:List Rat},l.length=m.length->((l.zip m).map λp=>w*p.1+(1-w)*p.2).sum=w*l.sum+(1-w)*m.sum
 |[],[],_=>by simp;grind
 |[],_::_,h=>by cases h
 |_::_,[],h=>by cases h
 |x::l,y::m,h=>by
  have:=KZ (w:=w) (l:=l) (m:=m) (by simpa using h)
  simp only [List.zip_cons_cons,List.map_cons,List.sum_cons,this]
  grind
theorem aat {w:Rat}{l m:List Rat}{c:Nat}(h0:0<=w)(h1:w<=1)(hw:Sz 12 w)(hl:okS 20 l c)(hm:okS 20 m c)(sl:∀x∈l,Sz 12 x)(sm':∀x∈m,Sz 12 x):okS 51 (yq w l m) c:=by
 have e:l.length=m.length:=hl.1.trans hm.1.symm
 refine ⟨by simp [yq,hl.1],λx hx=>?_,?_,by simp [yq];exact hl.2.2.2⟩
 ·unfold yq at hx
  obtain ⟨k,hk,rfl⟩:=List.mem_map.mp hx
  have hk:=List.mem_range.mp hk
  have a:=hl.2.1 _ (mem_getD hk)
  have b:=hm.2.1 _ (mem_getD (show k<m.length by omega))
  have sa:=sl _ (mem_getD hk)
  have sb:=sm' _ (mem_getD (show k<m.length by omega))
  have p1:=(DY _).mp a.1
  have p2:=(DY _).mp b.1
  refine ⟨(DY _).mpr ?_,?_⟩
  ·have q1:=Rat.mul_nonneg h0 p1
   have q2:=Rat.mul_nonneg (show (0:Rat)<=1-w by grind) p2
   grind
  ·have s1:=uz Ft (JK hw)
   rw [show (1:Rat) + -w=1-w by grind] at s1
   exact (uz (oF hw sa) (oF s1 sb)).mono (by decide)
 ·rw [Om e,KZ e,hl.2.2.1,hm.2.2.1]
  grind
theorem abl {x0 x1 x2 x3 x4 x5 x6 x7 x8 x9 x11 x15 x16 x17 x18 x19 x20:Sl}{w:Rat}{l m:List Rat}{c:Nat}(hw:Sz 12 w)(hc:c<=3)(hl:l.length=c)(hm:m.length=c)(sl:∀x∈l,Sz 12 x)(sm':∀x∈m,Sz 12 x):
  yO [x0,x1,x2,x3,x4,x5,x6,x7,x8,x9,.fz (.int (c:Int)),x11,.fz (.tup (l.map rD)),.fz (.tup (m.map rD)),.fz (rD w),x15,x16,x17,x18,x19,x20]=.ok (.lst ((yq w l m).map rD)):=by
 have e1:(aa (ak 10) aB) [x0,x1,x2,x3,x4,x5,x6,x7,x8,x9,.fz (.int (c:Int)),x11,.fz (.tup (l.map rD)),.fz (.tup (m.map rD)),.fz (rD w),x15,x16,x17,x18,x19,x20]=.ok [.int (c:Int)]:=by simp [aa,aB,ak]
 have e2:=BK e1 (by omega) (by omega)
 have ec:dJ (hName 0) gQ yH [.un,.fz (rD w),.fz (.tup (l.map rD)),.fz (.tup (m.map rD))] ((List.range c).map λ(k:Nat)=>D.int k)=.ok ((List.range c).map λk=>rD (w*l.getD k 0+(1-w)*m.getD k 0)):=gH (List.range c) λk hk=>by
  have hk:=List.mem_range.mp hk
  refine ⟨[.fz (.int k),.fz (rD w),.fz (.tup (l.map rD)),.fz (.tup (m.map rD))],rfl,rfl,?_⟩
  have t1:=J3 (l:=l) (k:=k) (by omega)
  have t2:=J3 (l:=m) (k:=k) (by omega)
  have em:=(Iz hw (sl _ (mem_getD (show k<l.length by omega))) (sm' _ (mem_getD (show k<m.length by omega))) (by decide)).1
  generalize l.getD k 0=x at t1 em ⊢
  generalize m.getD k 0=y at t2 em ⊢
  simp [yH,fFn,aa,aB,aG,aA,ak,t1,t2,em]
 have hcm:cMe 1 [14,12,13] [x0,x1,x2,x3,x4,x5,x6,x7,x8,x9,.fz (.int (c:Int)),x11,.fz (.tup (l.map rD)),.fz (.tup (m.map rD)),.fz (rD w),x15,x16,x17,x18,x19,x20]=[.un,.fz (rD w),.fz (.tup (l.map rD)),.fz (.tup (m.map rD))]:=rfl
 unfold yO du
 rw [e2,Res.mJ,if_pos (by simp;exact Nat.le_trans hc (by decide)),hcm]
 show (match dJ (hName 0) gQ yH [.un,.fz (rD w),.fz (.tup (l.map rD)),.fz (.tup (m.map rD))] ((List.range c).map λ(k:Nat)=>D.int k) with | .ok ys=>Res.ok (D.lst ys) | _=>.stuck)=_
 rw [ec]
 show Res.ok (D.lst _)=_
 rw [yq,hl,List.map_map]
 rfl
theorem abP {x0 x1 x2 x3 x4 x5 x6 x7 x8 x9 x11 x12 x13 x14 x15 x16 x17 x18 x20:Sl}{c k:Nat}(hc:c<=3):
  uZ [x0,x1,x2,x3,x4,x5,x6,x7,x8,x9,.fz (.int (c:Int)),x11,x12,x13,x14,x15,x16,x17,x18,.fz (.int (k:Int)),x20]=.ok (.lst ((uni c k).map rD)):=by
 have e1:(aa (ak 10) aB) [x0,x1,x2,x3,x4,x5,x6,x7,x8,x9,.fz (.int (c:Int)),x11,x12,x13,x14,x15,x16,x17,x18,.fz (.int (k:Int)),x20]=.ok [.int (c:Int)]:=by simp [aa,aB,ak]
 have e2:=BK e1 (by omega) (by omega)
 have ec:dJ (hName 0) gQ uN [.un,.fz (.int (k:Int))] ((List.range c).map λ(j:Nat)=>D.int j)=.ok ((List.range c).map λj=>rD (if j=k then 1 else 0)):=gH (List.range c) λj hj=>by
  refine ⟨[.fz (.int j),.fz (.int k)],rfl,rfl,?_⟩
  by_cases h:j=k
  ·have:((j:Int)=(k:Int)):=by omega
   have r1:rD 1=.tup [.int 1,.int 1]:=rfl
   simp [uN,bA,aa,aB,aU,mK,ak,h,Vb,fC,r1]
  ·have:¬((j:Int)=(k:Int)):=by omega
   have r0:rD 0=.tup [.int 0,.int 1]:=rfl
   simp [uN,bA,aa,aB,aU,mK,ak,this,h,Vb,fC,r0]
 have hcm:cMe 1 [19] [x0,x1,x2,x3,x4,x5,x6,x7,x8,x9,.fz (.int (c:Int)),x11,x12,x13,x14,x15,x16,x17,x18,.fz (.int (k:Int)),x20]=[.un,.fz (.int (k:Int))]:=rfl
 unfold uZ du
 rw [e2,Res.mJ,if_pos (by simp;exact Nat.le_trans hc (by decide)),hcm]
 show (match dJ (hName 0) gQ uN [.un,.fz (.int (k:Int))] ((List.range c).map λ(j:Nat)=>D.int j) with | .ok ys=>Res.ok (D.lst ys) | _=>.stuck)=_
 rw [ec]
 show Res.ok (D.lst _)=_
 rw [uni,List.map_map]
 rfl
noncomputable def sL (ns pl t G R P s n W rc c cell one oth w both f1 f2:D)(x18 x19 x20:Sl):Me:=[.fz ns,.fz pl,.fz t,.fz G,.fz R,.fz P,.fz s,.fz n,.fz W,.fz rc,.fz c,.fz cell,.fz one,.fz oth,.fz w,.fz both,.fz f1,.fz f2,x18,x19,x20]
section
variable {ns pl t G R P n W rc cell oth w both f1 f2:D}{s:Int}
theorem aO {f:Zae}{fs:Zad}{m:Me}{d:D}{ds:List D}(h:f m=.ok d)(h2:fs m=.ok ds):aa f fs m=.ok (d::ds):=by simp [aa,h,h2]
theorem fO {Φ:Zac}{fs:Zad}{m:Me}{ds:List D}{b:Bool}{d:D}(h:fs m=.ok ds)(h2:Φ ds=.ok (b,d)):fFn Φ fs m=.ok d:=by simp [fFn,h,h2]
theorem gW {i:Nat}{f:Zae}{m:Me}{d:D}(h:f m=.ok d):aX i f m=.ok (.nx,m.set i (.fz d)):=by simp [aX,h]
theorem fW {f k:Zab}{m m':Me}(h:f m=.ok (.nx,m')):aJ f k m=k m':=by simp [aJ,h]
theorem lN {g:D->D->Option D}{f1 f2:Zae}{m:Me}{a b d:D}(h1:f1 m=.ok a)(h2:f2 m=.ok b)(h:g a b=some d):aA g f1 f2 m=.ok d:=by simp [aA,h1,h2,h]
theorem yX {g:List D->Option D}{fs:Zad}{m:Me}{ds:List D}{d:D}(h1:fs m=.ok ds)(h:g ds=some d):aU g fs m=.ok d:=by simp [aU,h1,h]
theorem Xd {x20:Sl}{one:D}{us:List D}{c k:Nat}{q x V y z:D}(e4:∀x20,uZ (sL ns pl t G R P (.int s) n W rc (.int c) cell one oth w both f1 f2 (.fz q) (.fz (.int k)) x20)=.ok (.lst us))(ew:dO [G,P,.int s,n,.tup us]=.ok (false,V))(ix:gIx one (.int k)=some x)(et:gk [x,V]=.ok (false,y))(ep:gf [q,y]=.ok (false,z)):
  uY (sL ns pl t G R P (.int s) n W rc (.int c) cell one oth w both f1 f2 (.fz q) (.fz (.int k)) x20)=.ok (.nx,sL ns pl t G R P (.int s) n W rc (.int c) cell one oth w both f1 f2 (.fz z) (.fz (.int k)) (.fz (.tup us))):=by
 have gt:fH [.lst us]=some (.tup us):=rfl
 have e:=e4 x20
 unfold uY
 clear e4
 generalize dO=fw at *
 generalize gk=ft at *
 generalize gf=fp at *
 generalize uZ=q4 at *
 refine (fW (gW (yX (aO e rfl) gt))).trans ?_
 exact gW (m:=sL ns pl t G R P (.int s) n W rc (.int c) cell one oth w both f1 f2 (.fz q) (.fz (.int k)) (.fz (.tup us))) (fO (aO (d:=q) rfl (aO (fO (aO (lN (a:=one) (b:=.int k) rfl rfl ix) (aO (fO (aO (d:=G) rfl (aO (d:=P) rfl (aO (d:=.int s) rfl (aO (d:=n) rfl (aO (d:=.tup us) rfl rfl))))) ew) rfl)) et) rfl)) ep)
theorem Ld {one:List Rat}{c B:Nat}{V:List Rat->Rat}(hc:c<=3)(hl:one.length=c)(so:∀x∈one,Sz 12 x)(hB:B<=2800)(ew:∀k,k<c->dO [G,P,.int s,n,.tup ((uni c k).map rD)]=.ok (false,rD (V (uni c k)))/\Sz B (V (uni c k))):
  ∀(m pre:List Rat) (q:Rat) (j:Nat) (x19 x20:Sl),one=pre++m->Sz j q->j+m.length*(B+13)<=8900->∃x19' x20',bJ (hName 19) uY ((List.range' pre.length m.length).map λ(k:Nat)=>D.int k) (sL ns pl t G R P (.int s) n W rc (.int c) cell (.tup (one.map rD)) oth w both f1 f2 (.fz (rD q)) x19 x20)=.ok (.nx,sL ns pl t G R P (.int s) n W rc (.int c) cell (.tup (one.map rD)) oth w both f1 f2 (.fz (rD (smW (λk=>V (uni c k)) m pre.length q))) x19' x20')
 |[],pre,q,j,x19,x20,_,_,_=>⟨x19,x20,rfl⟩
 |x::m,pre,q,j,x19,x20,e,hq,hz=>by
  have hp:pre.length<one.length:=by rw [e];simp
  have hk:pre.length<c:=by omega
  have hz':j+(m.length+1)*(B+13)<=8900:=hz
  rw [Nat.add_mul] at hz'
  have gx:one.getD pre.length 0=x:=by rw [e];simp
  have ix:=J3 hp
  rw [gx] at ix
  have hx:Sz 12 x:=so x (by rw [e];simp)
  obtain ⟨w1,w2⟩:=ew pre.length hk
  have st:=Xd (ns:=ns) (pl:=pl) (t:=t) (G:=G) (R:=R) (P:=P) (n:=n) (W:=W) (rc:=rc) (cell:=cell) (oth:=oth) (w:=w) (both:=both) (f1:=f1) (f2:=f2) (s:=s) (x20:=x20) (q:=rD q) (c:=c) (k:=pre.length) (λx20=>abP hc) w1 ix (Bj hx w2 (by omega)) (Fd hq (oF hx w2) (by omega))
  obtain ⟨x19',x20',e2⟩:=Ld hc hl so hB ew m (pre++[x]) (q+x*V (uni c pre.length)) (j+(12+B)+1) (.fz (.int pre.length)) (.fz (.tup ((uni c pre.length).map rD))) (by rw [e];simp) (uz hq (oF hx w2)) (by omega)
  refine ⟨x19',x20',?_⟩
  rw [List.length_append,List.length_singleton] at e2
  rw [List.length_cons,List.range'_succ,List.map_cons,cM (m1:=sL ns pl t G R P (.int s) n W rc (.int c) cell (.tup (one.map rD)) oth w both f1 f2 (.fz (rD q)) (.fz (.int pre.length)) x20) rfl st]
  exact e2
theorem aaS {one:List Rat}{c B:Nat}{V:List Rat->Rat}{x19 x20:Sl}(hc:c<=3)(hl:one.length=c)(so:∀x∈one,Sz 12 x)(hB:B<=2800)(ew:∀k,k<c->dO [G,P,.int s,n,.tup ((uni c k).map rD)]=.ok (false,rD (V (uni c k)))/\Sz B (V (uni c k))):
  ∃x19' x20',yR (sL ns pl t G R P (.int s) n W rc (.int c) cell (.tup (one.map rD)) oth w both f1 f2 (.fz (rD 0)) x19 x20)=.ok (.nx,sL ns pl t G R P (.int s) n W rc (.int c) cell (.tup (one.map rD)) oth w both f1 f2 (.fz (rD (smW (λk=>V (uni c k)) one 0 0))) x19' x20'):=by
 have hz:1+one.length*(B+13)<=8900:=by
  have:one.length*(B+13)<=3*2813:=Nat.mul_le_mul (by omega) (by omega)
  omega
 obtain ⟨x19',x20',e⟩:=Ld (ns:=ns) (pl:=pl) (t:=t) (G:=G) (R:=R) (P:=P) (n:=n) (W:=W) (rc:=rc) (cell:=cell) (oth:=oth) (w:=w) (both:=both) (f1:=f1) (f2:=f2) (s:=s) hc hl so hB ew one [] 0 1 x19 x20 rfl rW hz
 refine ⟨x19',x20',?_⟩
 have e1:(aa (ak 10) aB) (sL ns pl t G R P (.int s) n W rc (.int c) cell (.tup (one.map rD)) oth w both f1 f2 (.fz (rD 0)) x19 x20)=.ok [.int (c:Int)]:=by simp [sL,aa,aB,ak]
 have e2:=BK e1 (by omega) (by omega)
 unfold yR gZ
 rw [e2]
 show bJ (hName 19) uY ((List.range c).map λ(k:Nat)=>D.int k) _=_
 rw [List.range_eq_range',← hl]
 rw [← hl] at e
 exact e
end
theorem SN {t:Zaf}{a:Zab}{m:Me}(h:t m=.ok false):gIf t a gNx m=.ok (.nx,m):=by simp [gIf,h,gNx]
theorem Rw {t:Zaf}{a b:Zab}{m:Me}(h:t m=.ok true):gIf t a b m=a m:=by simp [gIf,h]
theorem Az {g:D->D->Option Bool}{f1 f2:Zae}{m:Me}{a b:D}{r:Bool}(h1:f1 m=.ok a)(h2:f2 m=.ok b)(h:g a b=some r):aR g f1 f2 m=.ok r:=by simp [aR,h1,h2,h]
theorem Ln {g:D->D->Option Bool}{f1 f2:Zae}{m:Me}{a b:D}{r:Bool}(h1:f1 m=.ok a)(h2:f2 m=.ok b)(h:g a b=some r):mK g f1 f2 m=.ok (.bl r):=by simp [mK,h1,h2,h]
theorem RB {f:Zae}{m:Me}{d:D}(h:f m.let=.ok d):bD f m=.ok (.rt false d,m.let):=by simp [bD,h]
theorem Z6 {fs:Zad}{m:Me}{ds:List D}(h:fs m=.ok ds)(hz:ds.length<=100):bA fs m=.ok (.tup ds):=by
 have:ds.length<=16777216:=by omega
 simp [bA,h,this]
theorem T7 {fs:Zad}{m:Me}{ds:List D}(h:fs m=.ok ds)(hz:ds.length<=100):d8 fs m=.ok (.lst ds):=by
 have:ds.length<=16777216:=by omega
 simp [d8,h,this]
noncomputable def s5 (ns pl G R P:D)(t:Int):Me:=[.fz ns,.fz pl,.fz (.int t),.fz G,.fz R,.fz P,.un,.un,.un,.un,.un,.un,.un,.un,.un,.un,.un,.un,.un,.un,.un]
section
variable {fb fc fl fp fm fg ft fpt fpn fw fmx:Zac}{l2:Zae}{l6:Zab}{ns pl G P1 P2:D}{R s1:List D}{c0 c1 c2 c3 c4 c5 c6:Int}
theorem aaQ (h0:fc [ns,.int 0]=.ok (false,.int c0))(h1:fc [ns,.int 1]=.ok (false,.int c1))(h2:fc [ns,.int 2]=.ok (false,.int c2))(h3:fc [ns,.int 3]=.ok (false,.int c3))(h4:fc [ns,.int 4]=.ok (false,.int c4))(h5:fc [ns,.int 5]=.ok (false,.int c5))
  (hp:fp [.int c0,.int c1]=.ok (true,pl)) (e1:fSl (ak 0) (fO1 (fC (.int 8))) (fO1 (fC (.int 44))) [.fz ns,.fz pl,.fz (.int c2),.un,.un,.un,.un,.un,.un,.un,.un,.un,.un,.un,.un,.un,.un,.un,.un,.un,.un]=.ok (.lst s1)) (ga:bY (.lst s1) (.lst [.int c3])=some (.lst (s1++[.int c3]))) (g1:fg [.lst (s1++[.int c3]),.int c2,.int 5,.int 35,pl]=.ok (false,G))
  (t1:ft [G]=.ok (true,.lst R)) (p1:fpn [.lst R,.int 1,.int c4]=.ok (true,P1)) (p2:fpn [.lst R,.int 2,.int c5]=.ok (true,P2)) {k:Zab}:
  aJ (aX 1 (fFn fp (aa (fFn fc (aa (aG 0) (aa (fC (.int 0)) aB))) (aa (fFn fc (aa (aG 0) (aa (fC (.int 1)) aB))) aB)))) (aJ (aX 2 (fFn fc (aa (aG 0) (aa (fC (.int 2)) aB)))) (aJ (aX 3 (fFn fg (aa (aA bY (fSl (ak 0) (fO1 (fC (.int 8))) (fO1 (fC (.int 44)))) (d8 (aa (fFn fc (aa (aG 0) (aa (fC (.int 3)) aB))) aB))) (aa (aG 2) (aa (fC (.int 5)) (aa (fC (.int 35)) (aa (aG 1) aB)))))))
   (aJ (aX 4 (fFn ft (aa (aG 3) aB))) (aJ (aX 5 (d8 (aa (fFn fpn (aa (aG 4) (aa (fC (.int 1)) (aa (fFn fc (aa (aG 0) (aa (fC (.int 4)) aB))) aB)))) (aa (fFn fpn (aa (aG 4) (aa (fC (.int 2)) (aa (fFn fc (aa (aG 0) (aa (fC (.int 5)) aB))) aB)))) aB)))) k)))) [.fz ns,.un,.un,.un,.un,.un,.un,.un,.un,.un,.un,.un,.un,.un,.un,.un,.un,.un,.un,.un,.un]=k (s5 ns pl G (.lst R) (.lst [P1,P2]) c2):=by
 refine (fW (gW (fO (aO (fO (aO (d:=ns) rfl (aO (d:=.int 0) rfl rfl)) h0) (aO (fO (aO (d:=ns) rfl (aO (d:=.int 1) rfl rfl)) h1) rfl)) hp))).trans ?_
 refine (fW (gW (fO (aO (d:=ns) rfl (aO (d:=.int 2) rfl rfl)) h2))).trans ?_
 refine (fW (gW (fO (aO (lN e1 (T7 (ds:=[.int c3]) (aO (fO (aO (d:=ns) rfl (aO (d:=.int 3) rfl rfl)) h3) rfl) (show (1:Nat)<=100 by decide)) ga) (aO (d:=.int c2) rfl (aO (d:=.int 5) rfl (aO (d:=.int 35) rfl (aO (d:=pl) rfl rfl))))) g1))).trans ?_
 refine (fW (gW (fO (aO (d:=G) rfl rfl) t1))).trans ?_
 refine (fW (gW (T7 (ds:=[P1,P2]) (aO (fO (aO (d:=.lst R) rfl (aO (d:=.int 1) rfl (aO (fO (aO (d:=ns) rfl (aO (d:=.int 4) rfl rfl)) h4) rfl))) p1) (aO (fO (aO (d:=.lst R) rfl (aO (d:=.int 2) rfl (aO (fO (aO (d:=ns) rfl (aO (d:=.int 5) rfl rfl)) h5) rfl))) p2) rfl)) (show (2:Nat)<=100 by decide)))).trans ?_
 rfl
theorem aaa {f:Zae}{h:Zba}{m m':Me}{d:D}(e:f m=.ok d)(e2:h d m=some m'):Ue f h m=.ok (.nx,m'):=by simp [Ue,e,e2]
theorem Hj {a b:Int}(hb:0<b)(hB:Bq b):bF (.int a) (.int b)=some (.int (a % b)):=by
 have:¬b=0:=by omega
 simp [bF,mdI,this,hb,hB]
theorem Yi {a b:Int}(hb:0<b)(hB:Bq b):dC (.int a) (.int b)=some (.int (a / b)):=by
 have:¬b=0:=by omega
 simp [dC,dvI,this,hb,hB]
theorem abR {W rcd one oth w0 w f1 f2 f3 wh : D} {bs : List D} {n : Str} {s x3 x4 c kk : Int} {x19 x20 : Sl} (q0 : gEq (.lst R) (.lst []) = some false) (hk : 0 < kk) (hkB : Bq kk) (ln : dW [.lst R] = some (.int kk)) (ri : gIx (.lst R) (.int (c2 / 128 % kk)) = some (.tup [.int s, .str n, W, rcd])) (wl : dW [W] = some (.int c)) (h6 : fc [ns, .int 6] = .ok (false, .int c6))
    (m3 : fm [.int c6, .int 3] = .ok (false, .int x3)) (m4 : fm [.int c6, .int 4] = .ok (false, .int x4)) (o1 : fpt [.int x3, .int c] = .ok (false, one)) (o2 : fpt [.int x4, .int c] = .ok (false, oth)) (lw : fl [.int (c6 % 8), .int 7] = .ok (false, w0)) (hw : (c6 % 8 = 7 ∧ fl [.int (c6 / 8 % 1000), .int 999] = .ok (false, w)) ∨ (¬ c6 % 8 = 7 ∧ w = w0))
    (l2e : ∀ x15 x16 x17 x18 x19 x20, l2 [.fz ns, .fz pl, .fz (.int c2), .fz G, .fz (.lst R), .fz (.lst [P1, P2]), .fz (.int s), .fz (.str n), .fz W, .fz rcd, .fz (.int c), .fz (.int c6), .fz one, .fz oth, .fz w, x15, x16, x17, x18, x19, x20] = .ok (.lst bs)) (gt : fH [.lst bs] = some (.tup bs))
    (a1 : fw [G, .lst [P1, P2], .int s, .str n, one] = .ok (false, f1)) (a2 : fw [G, .lst [P1, P2], .int s, .str n, oth] = .ok (false, f2)) (a3 : fw [G, .lst [P1, P2], .int s, .str n, .tup bs] = .ok (false, f3)) (mx : fmx [w, f1, f2] = .ok (false, f3)) (ne : gNe f3 f3 = some false)
    (l6e : l6 (sL ns pl (.int c2) G (.lst R) (.lst [P1, P2]) (.int s) (.str n) W rcd (.int c) (.int c6) one oth w (.tup bs) f1 f2 (.fz (.tup [.int 0, .int 1])) .un .un) = .ok (.nx, sL ns pl (.int c2) G (.lst R) (.lst [P1, P2]) (.int s) (.str n) W rcd (.int c) (.int c6) one oth w (.tup bs) f1 f2 (.fz f1) x19 x20)) (eqq : gEq f1 f1 = some true) (k0 : Me → Res (Fl × Me)) :
    ∃ m', aJ (gIf (aR gEq (ak 4) (d8 aB)) k0 gNx)
 (aJ (Ue (aA gIx (ak 4) (aA bF (aA dC (ak 2) (fC (.int 128))) (aU dW (aa (ak 4) aB)))) (ig 4 (bu (hName 6) (bu (hName 7) (bu (hName 8) (bu (hName 9) ik))))))
 (aJ (aX 10 (aU dW (aa (ak 8) aB)))
 (aJ (aX 11 (fFn fc (aa (aG 0) (aa (fC (.int 6)) aB))))
 (aJ (aX 12 (fFn fpt (aa (fFn fm (aa (aG 11) (aa (fC (.int 3)) aB))) (aa (aG 10) aB))))
 (aJ (aX 13 (fFn fpt (aa (fFn fm (aa (aG 11) (aa (fC (.int 4)) aB))) (aa (aG 10) aB))))
 (aJ (aX 14 (fFn fl (aa (aA bF (ak 11) (fC (.int 8))) (aa (fC (.int 7)) aB))))
 (aJ (gIf (aR gEq (aA bF (ak 11) (fC (.int 8))) (fC (.int 7))) (aX 14 (fFn fl (aa (aA bF (aA dC (ak 11) (fC (.int 8))) (fC (.int 1000))) (aa (fC (.int 999)) aB)))) gNx)
 (aJ (aX 15 (aU fH (aa l2 aB)))
 (aJ (aX 16 (fFn fw (aa (aG 3) (aa (aG 5) (aa (aG 6) (aa (aG 7) (aa (aG 12) aB)))))))
 (aJ (aX 17 (fFn fw (aa (aG 3) (aa (aG 5) (aa (aG 6) (aa (aG 7) (aa (aG 13) aB)))))))
 (aJ (gIf (aR gNe (fFn fw (aa (aG 3) (aa (aG 5) (aa (aG 6) (aa (aG 7) (aa (aG 15) aB)))))) (fFn fmx (aa (aG 14) (aa (aG 16) (aa (aG 17) aB))))) (bD (fC (.bl false))) gNx)
 (aJ (aX 18 (bA (aa (fC (.int 0)) (aa (fC (.int 1)) aB))))
 (aJ l6
 (bD (mK gEq (ak 18) (ak 16)))))))))))))))) (s5 ns pl G (.lst R) (.lst [P1, P2]) c2) = .ok (.rt false (.bl true), m') := by
  have b8 : Bq 8 := bgS (by decide)
  have b128 : Bq 128 := bgS (by decide)
  have b1000 : Bq 1000 := bgS (by decide)
  refine ⟨Me.let (sL ns pl (.int c2) G (.lst R) (.lst [P1, P2]) (.int s) (.str n) W rcd (.int c) (.int c6) one oth w (.tup bs) f1 f2 (.fz f1) x19 x20), ?_⟩
  refine (fW (SN (Az (a := .lst R) (b := .lst []) rfl rfl q0))).trans ?_
  refine (fW (m' := [.fz ns, .fz pl, .fz (.int c2), .fz G, .fz (.lst R), .fz (.lst [P1, P2]), .fz (.int s), .fz (.str n), .fz W, .fz rcd, .un, .un, .un, .un, .un, .un, .un, .un, .un, .un, .un]) (aaa (lN (a := .lst R) rfl (lN (lN (a := .int c2) (b := .int 128) rfl rfl (Yi (by decide) b128)) (yX (aO (d := .lst R) rfl rfl) ln) (Hj hk hkB)) ri) rfl)).trans ?_
  refine (fW (gW (yX (aO (d := W) rfl rfl) wl))).trans ?_
  refine (fW (gW (fO (aO (d := ns) rfl (aO (d := .int 6) rfl rfl)) h6))).trans ?_
  refine (fW (gW (fO (aO (fO (aO (d := .int c6) rfl (aO (d := .int 3) rfl rfl)) m3) (aO (d := .int c) rfl rfl)) o1))).trans ?_
  refine (fW (gW (fO (aO (fO (aO (d := .int c6) rfl (aO (d := .int 4) rfl rfl)) m4) (aO (d := .int c) rfl rfl)) o2))).trans ?_
  refine (fW (gW (fO (aO (lN (a := .int c6) (b := .int 8) rfl rfl (Hj (by decide) b8)) (aO (d := .int 7) rfl rfl)) lw))).trans ?_
  refine (fW (m' := [.fz ns, .fz pl, .fz (.int c2), .fz G, .fz (.lst R), .fz (.lst [P1, P2]), .fz (.int s), .fz (.str n), .fz W, .fz rcd, .fz (.int c), .fz (.int c6), .fz one, .fz oth, .fz w, .un, .un, .un, .un, .un, .un]) ?_).trans ?_
  · rcases hw with ⟨h7, hw⟩ | ⟨h7, rfl⟩
    · exact (Rw (Az (lN (a := .int c6) (b := .int 8) rfl rfl (Hj (by decide) b8)) (b := .int 7) rfl (by rw [N5, h7];rfl))).trans (gW (fO (aO (lN (lN (a := .int c6) (b := .int 8) rfl rfl (Yi (by decide) b8)) (b := .int 1000) rfl (Hj (by decide) b1000)) (aO (d := .int 999) rfl rfl)) hw))
    · exact SN (Az (lN (a := .int c6) (b := .int 8) rfl rfl (Hj (by decide) b8)) (b := .int 7) rfl (by rw [N5, decide_eq_false h7]))
  refine (fW (gW (yX (aO (l2e _ _ _ _ _ _) rfl) gt))).trans ?_
  refine (fW (gW (fO (aO (d := G) rfl (aO (d := .lst [P1, P2]) rfl (aO (d := .int s) rfl (aO (d := .str n) rfl (aO (d := one) rfl rfl))))) a1))).trans ?_
  refine (fW (gW (fO (aO (d := G) rfl (aO (d := .lst [P1, P2]) rfl (aO (d := .int s) rfl (aO (d := .str n) rfl (aO (d := oth) rfl rfl))))) a2))).trans ?_
  refine (fW (SN (Az (fO (aO (d := G) rfl (aO (d := .lst [P1, P2]) rfl (aO (d := .int s) rfl (aO (d := .str n) rfl (aO (d := .tup bs) rfl rfl))))) a3) (fO (aO (d := w) rfl (aO (d := f1) rfl (aO (d := f2) rfl rfl))) mx) ne))).trans ?_
  refine (fW (gW (Z6 (ds := [.int 0, .int 1]) rfl (by decide)))).trans ?_
  refine (fW l6e).trans ?_
  exact RB (Ln (a := f1) (b := f1) rfl rfl eqq)
end
theorem IK:∀(l:List Tr3) (T:Tb),(l.foldl tst T).2.length<=T.2.length+l.length
 |[],T=>by simp
 |p::l,T=>by
  have h:=IK l (tst T p)
  have:(tst T p).2.length<=T.2.length+1:=by
   unfold tst
   split
   ·split<;>simp
   ·omega
  simp only [List.foldl_cons,List.length_cons]
  omega
theorem ZC {c k:Nat}(hc:c<=3)(hk:k<c):okS 20 (uni c k) c:=by
 refine ⟨by simp [uni],λx hx=>?_,?_,by simp [uni];exact hc⟩
 ·unfold uni at hx
  obtain ⟨j,_,rfl⟩:=List.mem_map.mp hx
  split
  ·exact ⟨by decide,Ft.mono (by decide)⟩
  ·exact ⟨by decide,rW.mono (by decide)⟩
 ·have h:c=1\/c=2\/c=3:=by omega
  rcases h with rfl | rfl | rfl
  ·have:k=0:=by omega
   subst this;decide +kernel
  ·have:k=0\/k=1:=by omega
   rcases this with rfl | rfl<;>decide +kernel
  ·have:k=0\/k=1\/k=2:=by omega
   rcases this with rfl | rfl | rfl<;>decide +kernel
theorem dn {t b:Int}(h0:0<=t)(hb:0<b):0<=Rat.divInt t b:=by
 by_cases z:t=0
 ·subst z;simp
 ·exact (DY _).mp (Int.le_of_lt (div_pos (by omega) hb))
theorem Yo {t b:Int}(h0:0<=t)(h1:t<=b)(hb:0<b)(h2:b<4096):Sz 12 (Rat.divInt t b)/\0<=Rat.divInt t b/\Rat.divInt t b<=1:=by
 refine ⟨zN (by omega) (by show t.natAbs<4096;omega) (by show b.natAbs<4096;omega),dn h0 hb,?_⟩
 have e:=yS b [t,b-t]
 have q:=dn (t:=b-t) (by omega) hb
 have s:[t,b-t].sum=b:=by simp;omega
 rw [s,div_self hb] at e
 simp at e
 grind
theorem rne {v:Rat}:gNe (rD v) (rD v)=some false:=by unfold gNe;rw [HS];simp
theorem req {v:Rat}:gEq (rD v) (rD v)=some true:=by rw [HS];simp
theorem aam {R:List D}(h:R≠[])(hR:okD (.lst R)=true/\pZ (.lst R)<=64):gEq (.lst R) (.lst [])=some false:=by
 cases R with
 |nil=>exact absurd rfl h
 |cons x xs=>
 obtain ⟨hk,hd⟩:=hR
 have hk:oO (x::xs)=true:=by simpa [okD] using hk
 have hd:m7 (x::xs)+1<=64:=by simpa [pZ] using hd
 obtain ⟨ps,h1,h2,h3,h4⟩:=vI (x::xs) hk
 have e:toPy (.lst (x::xs))=some (.list ps):=by
  show (tR (x::xs)).map PyData.list=_
  rw [h1];rfl
 have s1:SeqAt.shaped (.list ps)=true:=by
  unfold SeqAt.shaped
  simp [PyData.canLay0,h2,PyData.depth,h3];omega
 have s2:SeqAt.shaped (.list [])=true:=by
  unfold SeqAt.shaped
  simp [PyData.canLay0,PyData.canLayAll0,PyData.depth,PyData.depthAll]
 have v:PyData.eqv (.list ps) (.list [])=false:=by
  cases ps with
  |nil=>
   obtain ⟨y,_,h1⟩:=Option.bind_eq_some_iff.mp (show (toPy x).bind _=_ from h1)
   obtain ⟨z,_,h1⟩:=Option.map_eq_some_iff.mp h1
   cases h1
  |cons p ps=>simp [PyData.eqv,PyData.eqvAll]
 show qj (.lst (x::xs)) (.lst [])=_
 unfold qj
 rw [e,show toPy (.lst [])=some (.list []) from rfl]
 simp [s1,s2,v]
theorem ab4 {fb:Zac}{ns pl G P1 P2 v:D}{c2:Int}{k:Zab}(q0:gEq (.lst []) (.lst [])=some true)(b1:fb [G,P1,P2]=.ok (false,v))(b2:fb [G,.dct [] [],.dct [] []]=.ok (false,v))(eq:gEq v v=some true):
  ∃m',aJ (gIf (aR gEq (ak 4) (d8 aB)) (bD (mK gEq (fFn fb (aa (aG 3) (aa (aA gIx (ak 5) (fC (.int 0))) (aa (aA gIx (ak 5) (fC (.int 1))) aB)))) (fFn fb (aa (aG 3) (aa vo (aa vo aB)))))) gNx) k (s5 ns pl G (.lst []) (.lst [P1,P2]) c2)=.ok (.rt false (.bl true),m'):=by
 refine ⟨Me.let (s5 ns pl G (.lst []) (.lst [P1,P2]) c2),?_⟩
 have e:gIf (aR gEq (ak 4) (d8 aB)) (bD (mK gEq (fFn fb (aa (aG 3) (aa (aA gIx (ak 5) (fC (.int 0))) (aa (aA gIx (ak 5) (fC (.int 1))) aB)))) (fFn fb (aa (aG 3) (aa vo (aa vo aB)))))) gNx (s5 ns pl G (.lst []) (.lst [P1,P2]) c2)=.ok (.rt false (.bl true),Me.let (s5 ns pl G (.lst []) (.lst [P1,P2]) c2)):=
  (Rw (Az (a:=.lst []) (b:=.lst []) rfl rfl q0)).trans (RB (Ln (fO (aO (d:=G) rfl (aO (lN (a:=.lst [P1,P2]) (b:=.int 0) rfl rfl rfl) (aO (lN (a:=.lst [P1,P2]) (b:=.int 1) rfl rfl rfl) rfl))) b1) (fO (aO (d:=G) rfl (aO (d:=.dct [] []) rfl (aO (d:=.dct [] []) rfl rfl))) b2) eq))
 unfold aJ
 rw [e]
theorem aaE {g:Zab}{ns d:D}{m':Me}(e:g [.fz ns,.un,.un,.un,.un,.un,.un,.un,.un,.un,.un,.un,.un,.un,.un,.un,.un,.un,.un,.un,.un]=.ok (.rt false d,m')):bj 21 1 g [ns]=.ok (false,d):=by
 simp [bj,e]
theorem QH:∀ns:List Int,ns.length<=63->∃fr,Yq [.lst (ns.map D.int)]=.ok (fr,.bl true):=by
 intro ns hn
 obtain ⟨c0,h0⟩:=cell_eq ns 0 (by omega)
 obtain ⟨c1,h1⟩:=cell_eq ns 1 (by omega)
 obtain ⟨c2,h2⟩:=cell_eq ns 2 (by omega)
 obtain ⟨c3,h3⟩:=cell_eq ns 3 (by omega)
 obtain ⟨c4,h4⟩:=cell_eq ns 4 (by omega)
 obtain ⟨c5,h5⟩:=cell_eq ns 5 (by omega)
 obtain ⟨c6,h6⟩:=cell_eq ns 6 (by omega)
 obtain ⟨p,ep,P⟩:=Vm c0 c1
 have cl:(cut ns (some 8) (some 44)).length<=63:=by unfold cut;simp only [List.length_take,List.length_drop];omega
 have E:nA ⟨cut ns (some 8) (some 44)++[c3],p,c2 % 64,decide (c2 / 64 % 2=1)⟩:=⟨by simp,by simp;omega,P.p8,by show 0<=c2 % 64/\c2 % 64<64;omega,P.ok⟩
 obtain ⟨g,N,m,eg,I,hsz,Gr⟩:=XN E (turn:=c2) (rm:=35) (dep:=5) (by decide) (by decide) rfl rfl
 rw [show cD ⟨cut ns (some 8) (some 44)++[c3],p,c2 % 64,decide (c2 / 64 % 2=1)⟩=.lst ((cut ns (some 8) (some 44)).map D.int++[.int c3]) by simp [cD]] at eg
 have hsz:szG g<=36:=hsz
 have Gg:Gv g:=ab7 E P.nd I (by decide) Gr (by omega)
 have tb:=O7 Gg.len Gg.sd (by have:=Gg.dep;omega) (by omega)
 have hr:∀d∈(tbl (prG [] ([],[]) g)).2,Cp d/\1<=wdD d/\wdD d<=3:=λd hd=>by
  obtain ⟨s,n,_,hR⟩:=vm Gr hd
  exact ⟨uR hd,Y7 hR⟩
 have hl:(tbl (prG [] ([],[]) g)).2.length<=300:=by
  have:=IK (prG [] ([],[]) g) ([],[])
  rw [Eo] at this
  show ((prG [] ([],[]) g).foldl tst ([],[])).2.length<=300
  simp only [List.length_nil] at this
  omega
 obtain ⟨q1,p1,k1⟩:=Nm (s:=1) (cell:=c4) hl hr (su 1)
 obtain ⟨q2,p2',k2⟩:=Nm (s:=2) (cell:=c5) hl hr (su 2)
 have o1:okQ 20 g 1 q1:=λd hd=>(k1 d hd).1
 have o2:okQ 20 g 2 q2:=λd hd=>(k2 d hd).1
 have b20':bG 20 g<=2196:=by have:=b20 g;omega
 have b51':bG 51 g<=3312:=by have:=b51 g;omega
 have ga:bY (.lst ((cut ns (some 8) (some 44)).map D.int)) (.lst [.int c3])=some (.lst ((cut ns (some 8) (some 44)).map D.int++[.int c3])):=by
  have:(cut ns (some 8) (some 44)).length+1<=16777216:=by omega
  simp [bY,this]
 have la:=λ(k:Zab)=>aaQ (k:=k) h0 h1 h2 h3 h4 h5 ep (s1:=(cut ns (some 8) (some 44)).map D.int) (by
  show Res.ok (D.lst (cut (ns.map D.int) (some 8) (some 44)))=_
  unfold cut
  simp [List.map_take,List.map_drop]) ga eg tb p1 p2'
 refine ⟨false,?_⟩
 suffices h:∃m',UL [.fz (.lst (ns.map D.int)),.un,.un,.un,.un,.un,.un,.un,.un,.un,.un,.un,.un,.un,.un,.un,.un,.un,.un,.un,.un]=.ok (.rt false (.bl true),m') from by
  obtain ⟨m',e⟩:=h
  exact aaE e
 by_cases hR:(tbl (prG [] ([],[]) g)).2=[]
 ·obtain ⟨bb,_⟩:=wY (by decide) (by decide) Gg (by omega) o1 o2
  have r1:rowsOf g 1=[]:=by show (tbl (prG [] ([],[]) g)).2.filter _=[];rw [hR];rfl
  have r2:rowsOf g 2=[]:=by show (tbl (prG [] ([],[]) g)).2.filter _=[];rw [hR];rfl
  have bb2:=bb
  rw [r1,r2] at bb2
  have lc:=λ(k:Zab)=>ab4 (k:=k) (fb:=pH) (ns:=.lst (ns.map D.int)) (pl:=.lst (p.map D.str)) (c2:=c2) (U8 (by simp [okD,oO]) (by simp [pZ,m7])) bb bb2 req
  have R1:((tbl (prG [] ([],[]) g)).2.filter λd=>decide (sdD d=1))=rowsOf g 1:=rfl
  have R2:((tbl (prG [] ([],[]) g)).2.filter λd=>decide (sdD d=2))=rowsOf g 2:=rfl
  rw [R1,R2] at la
  generalize hA:bN (rowsOf g 1) q1=A1 at la lc
  generalize hB:bN (rowsOf g 2) q2=A2 at la lc
  rw [hR] at la
  exact Exists.imp (λm' e=>(la _).trans e) (lc _)
 ·generalize hT:(tbl (prG [] ([],[]) g)).2=R at *
  have hk:0<R.length:=List.length_pos_iff.mpr hR
  have hj0:0<=c2 / 128 % (R.length:Int):=Int.emod_nonneg _ (by omega)
  have hj1:c2 / 128 % (R.length:Int)<R.length:=Int.emod_lt_of_pos _ (by omega)
  have hjl:(c2 / 128 % (R.length:Int)).toNat<R.length:=by omega
  have ri:gIx (.lst R) (.int (c2 / 128 % (R.length:Int)))=some R[(c2 / 128 % (R.length:Int)).toNat]:=by
   have:=kj (xs:=R) (j:=(c2 / 128 % (R.length:Int)).toNat) (List.getElem?_eq_getElem hjl)
   rwa [show (((c2 / 128 % (R.length:Int)).toNat:Nat):Int)=c2 / 128 % (R.length:Int) by omega] at this
  have hd:R[(c2 / 128 % (R.length:Int)).toNat]∈R:=List.getElem_mem hjl
  generalize R[(c2 / 128 % (R.length:Int)).toNat]=d at ri hd
  obtain ⟨hrow,hw⟩:=hr d hd
  obtain ⟨s,n,hs,hRw⟩:=vm Gr (d:=d) (by rw [hT];exact hd)
  obtain ⟨s',n',ws,r,rfl⟩:=hrow
  have es:s'=s:=by
   obtain ⟨_,_,_,_,_,_,_,_,_,_,_,e⟩:=hRw
   unfold eU at e
   simp at e
   exact e.1
  subst es
  have hd1:eU s' n' ws r∈rowsOf g s':=by
   show _∈(tbl (prG [] ([],[]) g)).2.filter _
   rw [hT]
   exact List.mem_filter.mpr ⟨hd,decide_eq_true rfl⟩
  obtain ⟨x3,m3,hx3⟩:=xF c6 3 (by decide)
  obtain ⟨x4,m4,hx4⟩:=xF c6 4 (by decide)
  obtain ⟨one,e1,ok1,sz1⟩:=Bc (c:=wdD (eU s' n' ws r)) hx3 hw
  obtain ⟨oth,e2,ok2,sz2⟩:=Bc (c:=wdD (eU s' n' ws r)) hx4 hw
  have lw:=rE (t:=c6 % 8) (b:=7) (by decide) (bgS (by decide))
  obtain ⟨w,hwt,wz,w0,w1⟩:∃w:Rat,((c6 % 8=7/\cP [.int (c6 / 8 % 1000),.int 999]=.ok (false,rD w))\/(¬c6 % 8=7/\rD w=rD (Rat.divInt (c6 % 8) 7)))/\Sz 12 w/\0<=w/\w<=1:=by
   by_cases h7:c6 % 8=7
   ·exact ⟨_,.inl ⟨h7,rE (t:=c6 / 8 % 1000) (b:=999) (by decide) (bgS (by decide))⟩,Yo (by omega) (by omega) (by decide) (by decide)⟩
   ·exact ⟨_,.inr ⟨h7,rfl⟩,Yo (by omega) (by omega) (by decide) (by decide)⟩
  have okm:=aat w0 w1 wz ok1 ok2 sz1 sz2
  obtain ⟨ρ,hρ⟩:=Gg.row
  have af:Aff λl=>vG (upP (p2 q1 q2) s' n' l) g:=X8 g (Yb g [] ([],[]) hρ)
  obtain ⟨a1,z1⟩:=zb (by decide) (by decide) Gg (by omega) o1 o2 hs (su s') hd1 ok1
  obtain ⟨a2,z2⟩:=zb (by decide) (by decide) Gg (by omega) o1 o2 hs (su s') hd1 ok2
  obtain ⟨a3,_⟩:=zb (S:=51) (by decide) (by decide) Gg (by omega) (okQ.mono o1 (by decide)) (okQ.mono o2 (by decide)) hs (su s') hd1 okm
  have nm:nmR (eU s' n' ws r)=n':=rfl
  rw [nm] at a1 z1 a2 z2 a3
  have au:∀k,k<wdD (eU s' n' ws r)->dO [dG g,.lst [bN (rowsOf g 1) q1,bN (rowsOf g 2) q2],.int s',.str n',.tup ((uni (wdD (eU s' n' ws r)) k).map rD)]=.ok (false,rD ((λl=>vG (upP (p2 q1 q2) s' n' l) g) (uni (wdD (eU s' n' ws r)) k)))/\Sz (bG 20 g) ((λl=>vG (upP (p2 q1 q2) s' n' l) g) (uni (wdD (eU s' n' ws r)) k)):=λk hk=>zb (by decide) (by decide) Gg (by omega) o1 o2 hs (su s') hd1 (ZC hw.2 hk)
  have mx:=(Iz wz z1 z2 (by omega)).1
  have hme:=Aff.mix af (w:=w) (Om (ok1.1.trans ok2.1.symm)) (ok1.1.trans ok2.1.symm)
  have hmw:=Aff.ways af ok1.2.2.1
  rw [ok1.1] at hmw
  have hme:vG (upP (p2 q1 q2) s' n' (yq w one oth)) g=w*vG (upP (p2 q1 q2) s' n' one) g+(1-w)*vG (upP (p2 q1 q2) s' n' oth) g:=hme
  rw [← hme] at mx
  obtain ⟨x19,x20,l6e⟩:=aaS (ns:=.lst (ns.map D.int)) (pl:=.lst (p.map D.str)) (t:=.int c2) (G:=dG g) (R:=.lst R) (P:=.lst [bN (rowsOf g 1) q1,bN (rowsOf g 2) q2]) (n:=.str n') (W:=.tup (eV ws)) (rc:=.tup (lW r s')) (cell:=.int c6) (oth:=.tup (oth.map rD)) (w:=rD w) (both:=.tup ((yq w one oth).map rD)) (f1:=rD (vG (upP (p2 q1 q2) s' n' one) g)) (f2:=rD (vG (upP (p2 q1 q2) s' n' oth) g)) (s:=s') (B:=bG 20 g) (V:=λl=>vG (upP (p2 q1 q2) s' n' l) g) (x19:=.un) (x20:=.un) hw.2 ok1.1 sz1 (by omega) au
  rw [hmw] at l6e
  have R1:(R.filter λd=>decide (sdD d=1))=rowsOf g 1:=by show _=(tbl (prG [] ([],[]) g)).2.filter _;rw [hT]
  have R2:(R.filter λd=>decide (sdD d=2))=rowsOf g 2:=by show _=(tbl (prG [] ([],[]) g)).2.filter _;rw [hT]
  rw [R1,R2] at la
  obtain ⟨m',e⟩:=abR (fc:=fY) (fl:=cP) (fm:=cB) (fpt:=gm) (fw:=dO) (fmx:=fj) (l2:=yO) (l6:=yR) (ns:=.lst (ns.map D.int)) (pl:=.lst (p.map D.str)) (W:=.tup (eV ws)) (rcd:=.tup (lW r s')) (wh:=.non) (c:=(wdD (eU s' n' ws r):Int)) (kk:=(R.length:Int)) (aam hR (by rw [← hT];exact Z9 E Gr)) (by omega) (bgS (by omega)) rfl ri rfl h6 m3 m4 e1 e2 lw hwt (λ_ _ _ _ _ _=>abl wz hw.2 ok1.1 ok2.1 sz1 sz2) rfl a1 a2 a3 mx rne l6e req _
  exact ⟨m',(la _).trans e⟩
end K21
namespace F
open PySem PySem.Spec PyProof.Rows L2 Hd
section
variable {X:Cx}{E:XK}{e ke:Expr}{f fk:Zae}{fa:Me->Res (D×Me)}{x:Str}{np apos cpos pos spos:Pos}
end
section
variable {X:Cx}
variable {E:XK}{a b:Expr}{pos:Pos}{fa fb:Zae}
end
section
variable {A:Type}{p:List A->Prop}
theorem xb1 (h:∀a,p [a])(us:List A)(e:us.length=1):p us:=by
 cases us with
 |nil=>cases e
 |cons a t=>cases t with
  |nil=>exact h a
  |cons _ _=>cases e
theorem xb0 {n:Nat}(h:∀a t,t.length=n->p (a::t))(us:List A)(e:us.length=n+1):p us:=by
 cases us with
 |nil=>cases e
 |cons a t=>exact h a t (Nat.succ.inj e)
theorem xb2 (h:∀a b,p [a,b]):∀us:List A,us.length=2->p us:=xb0 λa=>xb1 (p:=λt=>p (a::t)) (h a)
theorem xb3 (h:∀a b c,p [a,b,c]):∀us:List A,us.length=3->p us:=xb0 λa=>xb2 (p:=λt=>p (a::t)) (h a)
theorem xb4 (h:∀a b c d,p [a,b,c,d]):∀us:List A,us.length=4->p us:=xb0 λa=>xb3 (p:=λt=>p (a::t)) (h a)
theorem xb5 (h:∀a b c d f,p [a,b,c,d,f]):∀us:List A,us.length=5->p us:=xb0 λa=>xb4 (p:=λt=>p (a::t)) (h a)
theorem xb6 (h:∀a b c d f g,p [a,b,c,d,f,g]):∀us:List A,us.length=6->p us:=xb0 λa=>xb5 (p:=λt=>p (a::t)) (h a)
end
structure QD (K:W.Frag)(x:Str)(st:Stmt):Prop where
 ex:∃f fd,Fun K x x st f fd/\W.nsIn K mainGlobals x=some (some (.ref f))
section
variable {P:Program}{w:World}{K:W.Frag}{mg:Zp}{base h:Heap}{x q c:Str}{st:Stmt}{ps:List Str}{C f:Addr}{oc:Value}{od an:Option Addr}{osl:Array (Option Value)}{kV doc pm cdv ct:Value}{k:Nat}{sp:Sp}
theorem qd (a:W.nsIn K mainGlobals x=some (some (.ref f)))(l:K.lookup f=some ⟨oc,od,.func (W.fnOf x x (nW st) (jz st) (aN st) .none kV doc pm an cdv ct),osl⟩)(c:W.codeIn K cdv x=true)(k:W.keepIn K (.ref f)=true):QD K x st:=⟨f,_,aaw l c k,a⟩
theorem QD.df (Q:QD K x st)(X:K.In h)(G:h.Ns mainGlobals mg)(hb:∀(kV doc pm:Value) (an:Option Addr) (cdv ct:Value) (us:List Value),us.length=ps.length->bindArgs (W.fnOf x x (nW st) (jz st) (aN st) .none kV doc pm an cdv ct) ⟨us,[]⟩=pure (ps.zip us)):Df K mg x st ps:=by
 obtain ⟨f,fd,F,a⟩:=Q.ex
 exact ⟨f,fd,F,F.binds hb,W.mg_of X G a⟩
end
section
variable {X:Cx}{E:XK}{e a b tg iter:Expr}{body:List Stmt}{f fa fb:Zae}{fi:Zad}{g:Zab}{h:Zba}{pos pos':Pos}{i:Nat}{x:Str}
theorem aK (ha:FB X E a fa)(hb:FB X E b fb)(hs:Fo b:=by exact λ_ _=>rfl):FE X E (.Subscript a b pos) (aA gIx fa fb):=aaO ace ha hb hs
theorem bQ (hN:X.N.Nodup)(he:FE X E e f)(hi:X.N[i]? = some x:=by rfl)(hx:Loc X.env.scope x:=by first | exact .inl rfl | exact .inr rfl)(hs:swapsWith e (some (.Name x pos')) pos.line X.env=pure false:=by rfl)
  (hf:X.fn x=true\/X.env.scope.names.lookup x=some .local:=by first | exact .inl rfl | exact .inr rfl | assumption):FS X E (.Assign [.Name x pos'] e pos) (aX i f):=aaq hN hi hx he hs hf
theorem lF (hN:X.N.Nodup)(he:FN X E e f)(hi:X.N[i]? = some x:=by rfl)(hx:Loc X.env.scope x:=by first | exact .inl rfl | exact .inr rfl)(hs:swapsWith e (some (.Name x pos')) pos.line X.env=pure false:=by rfl)
  (hf:X.fn x=true\/X.env.scope.names.lookup x=some .local:=by first | exact .inl rfl | exact .inr rfl | assumption):FS X E (.Assign [.Name x pos'] e pos) (eX i f):=RZ hN hi hx he hs hf
theorem bV {k:Nat}(hN:X.N.Nodup)(hi:X.N[i]? = some x:=by rfl)(hx:Loc X.env.scope x:=by first | exact .inl rfl | exact .inr rfl)(hk:i<k:=by decide)
  (hf:X.fn x=true\/X.env.scope.names.lookup x=some .local:=by first | exact .inl rfl | exact .inr rfl | assumption):FG X k (.Name x pos) (hName i):=Wh hN hi hx hk hf
theorem lZ (hi:FI X E tg iter fi)(hg:FG X 1000 tg h)(hb:FSs X E body g)(hp:PassesOwn (model X.prog X.w) X.A X.env X.xe:=by exact PassesOwn.leaving)(hc:X.calm=true:=by rfl)
  (hs:∀x,foldedSetIterable iter X.env x=pure x:=by intro _;rfl):FS X E (.For tg iter body [] pos) (gZ fi h g):=aag hp hc hi hg hb hs
end
theorem nds {N:List Str}(h:decide N.Nodup=true):N.Nodup:=of_decide_eq_true h
abbrev NO (K:W.Frag)(x:Str):Prop:=W.nsIn K mainGlobals x=some none
structure Cb (K:W.Frag)(mg:Zp)(base:Heap):Prop where
 X:K.In base
 N:base.Ns mainGlobals mg
structure Ck (K:W.Frag)(x:Str)(i j:Int):Prop where
 ex:∃C od nn sl t u,W.nsIn K mainGlobals x=some (some (.ref C))/\K.lookup C=some ⟨.type "tuple",od,.seq #[.int i t,.int j u] nn,sl⟩
section
variable {P:Program}{w:World}{K:W.Frag}{mg:Zp}{base:Heap}{x:Str}{st:Stmt}{N ps:List Str}{k:Nat}{g:Zab}{i j:Int}
theorem ck {C:Addr}{od:Option Addr}{nn:Nat}{sl:Array (Option Value)}{t u:Tok}(a:W.nsIn K mainGlobals x=some (some (.ref C)))(b:K.lookup C=some ⟨.type "tuple",od,.seq #[.int i t,.int j u] nn,sl⟩):Ck K x i j:=⟨_,_,_,_,_,_,a,b⟩
theorem Cb.no (C:Cb K mg base)(h:NO K x):mg x=none:=W.mg_none_of C.X C.N h
theorem Cb.cn {X:Cx}{E:XK}{pos:Pos}(B:Cb X.K X.mg X.base)(c:Ck X.K x i j)(hg:Gl X x:=by rfl)(hd:(x == ("__debug__" : Str))=false:=by decide):FE X E (.Name x pos) (fC (.tup [.int i,.int j])):=by
 obtain ⟨C,_,_,_,t,u,a,b⟩:=c.ex
 exact WW hg (W.mg_of B.X B.N a) (v:=.ref C) rfl (λ_ _=>.tup (xs:=[.int i,.int j]) (.inr ⟨_,_,_,b,rfl,rfl,(show 2<=sizeLine by decide),(.cons ⟨t,rfl⟩ (.cons ⟨u,rfl⟩ .nil))⟩) (.cons (.int i) (.cons (.int j) .nil))) hd
abbrev Bds (x:Str)(st:Stmt)(ps:List Str):Prop:=∀(kV doc pm:Value) (an:Option Addr) (cdv ct:Value) (us:List Value),us.length=ps.length->bindArgs (W.fnOf x x (nW st) (jz st) (aN st) .none kV doc pm an cdv ct) ⟨us,[]⟩=pure (ps.zip us)
theorem QD.ff {sp:Sp}(Q:QD K x st)(C:Cb K mg base)(hk:∀f fd,Fun K x x st f fd->o7 P w K mg base (CX1 P w) k f fd ps sp)
  (hb:Bds x st ps:=by first | exact λ_ _ _ _ _ _=>xb1 λ_=>rfl | exact λ_ _ _ _ _ _=>xb2 λ_ _=>rfl | exact λ_ _ _ _ _ _=>xb3 λ_ _ _=>rfl | exact λ_ _ _ _ _ _=>xb4 λ_ _ _ _=>rfl | exact λ_ _ _ _ _ _=>xb5 λ_ _ _ _ _=>rfl | exact λ_ _ _ _ _ _=>xb6 λ_ _ _ _ _ _=>rfl):Hd.Fn P w K mg base k x ps sp:=(Q.df C.X C.N hb).fn hk
end
end F
namespace K21
open PySem L2 Hd F Pk Lw
local macro_rules | `(tactic| trivial)=>`(tactic| first | exact ⟨rfl,rfl,rfl,by decide +kernel,rfl,by decide +kernel,by decide +kernel⟩ | exact ⟨rfl,by decide +kernel,by decide +kernel,by decide +kernel,by decide +kernel⟩)
noncomputable def top (i:Nat):Stmt:=PySem.Challenge.pw_hushduel_k21_straight_in_each_share.main.body.getD i (.Pass ⟨0,0,0,0⟩)
theorem J4:bootBuiltins "abs" = some (.builtin "abs"):=by decide +kernel
theorem RQ:bootBuiltins "all" = some (.builtin "all"):=by decide +kernel
theorem V0:bootBuiltins "bool" = some (.type "bool"):=by decide +kernel
theorem Ei:bootBuiltins "dict" = some (.type "dict"):=by decide +kernel
theorem S9:bootBuiltins "int" = some (.type "int"):=by decide +kernel
theorem iY:bootBuiltins "isinstance" = some (.builtin "isinstance"):=by decide +kernel
theorem iK:bootBuiltins "len" = some (.builtin "len"):=by decide +kernel
theorem qu:bootBuiltins "list" = some (.type "list"):=by decide +kernel
theorem JN:bootBuiltins "sum" = some (.builtin "sum"):=by decide +kernel
theorem iU:bootBuiltins "tuple" = some (.type "tuple"):=by decide +kernel
noncomputable abbrev zP:Stmt:=top 6
noncomputable abbrev pK:Stmt:=top 7
noncomputable abbrev Ig:Stmt:=top 8
noncomputable abbrev Bo:Stmt:=top 9
noncomputable abbrev SJ:Stmt:=top 10
noncomputable abbrev Lj:Stmt:=top 11
noncomputable abbrev M5:Stmt:=top 12
noncomputable abbrev Nj:Stmt:=top 13
noncomputable abbrev pq:Stmt:=top 15
noncomputable abbrev rR:Stmt:=top 16
noncomputable abbrev tY:Stmt:=top 18
noncomputable abbrev pI:Stmt:=top 19
noncomputable abbrev jN:Stmt:=top 20
noncomputable abbrev Hy:Stmt:=top 21
noncomputable abbrev Bl:Stmt:=top 22
noncomputable abbrev wj:Stmt:=top 23
noncomputable abbrev jy:Stmt:=top 25
noncomputable abbrev pA:Stmt:=top 26
noncomputable abbrev Dk:Stmt:=top 27
noncomputable abbrev pM:Stmt:=top 28
noncomputable abbrev jJ:Stmt:=top 29
noncomputable abbrev zV:Stmt:=top 30
noncomputable abbrev Hz:Stmt:=top 31
noncomputable abbrev qU:Stmt:=top 33
noncomputable abbrev tu:Stmt:=top 34
noncomputable abbrev nQ:Stmt:=top 35
noncomputable abbrev v8:Stmt:=top 36
noncomputable abbrev oR:Stmt:=top 37
noncomputable abbrev Aw:Stmt:=top 38
noncomputable abbrev mR:Stmt:=top 39
noncomputable abbrev yc:Stmt:=top 40
noncomputable abbrev vA:Stmt:=top 41
noncomputable abbrev xX:Stmt:=top 42
noncomputable abbrev oJ:Stmt:=top 43
noncomputable abbrev pW:Stmt:=top 44
noncomputable abbrev yf:Stmt:=top 45
noncomputable abbrev vf:Stmt:=top 46
noncomputable abbrev qy:Stmt:=top 47
noncomputable abbrev xZ:Stmt:=top 48
noncomputable abbrev yg:Stmt:=top 50
noncomputable abbrev qH:Stmt:=top 51
noncomputable abbrev xV:Stmt:=top 52
structure Qs (K:W.Frag):Prop where
 q0:QD K "is_whole" zP
 q1:QD K "common_divisor" pK
 q2:QD K "lowest" Ig
 q3:QD K "is_ratio" Bo
 q4:QD K "plus" SJ
 q5:QD K "times" Lj
 q6:QD K "under" M5
 q7:QD K "total" Nj
 q8:QD K "branches_of" pq
 q9:QD K "places_of" rR
 q10:QD K "words_at" tY
 q11:QD K "records_behind" pI
 q12:QD K "places_with_records" jN
 q13:QD K "row_at" Hy
 q14:QD K "table_of" Bl
 q15:QD K "rows_of" wj
 q16:QD K "are_full_shares" jy
 q17:QD K "is_plan_for" pA
 q18:QD K "is_plan" Dk
 q19:QD K "refuse_no_plan" pM
 q20:QD K "shared_branches" jJ
 q21:QD K "comes_of" zV
 q22:QD K "brings" Hz
 q23:QD K "_law_cell_at" qU
 q24:QD K "_law_lowest" tu
 q25:QD K "_law_pool" nQ
 q26:QD K "_law_stake" v8
 q27:QD K "_law_shares" oR
 q28:QD K "_law_mix" Aw
 q29:QD K "_law_name_number" mR
 q30:QD K "_law_move" yc
 q31:QD K "_law_built" vA
 q32:QD K "_law_game" xX
 q33:QD K "_law_places" oJ
 q34:QD K "_law_table" pW
 q35:QD K "_law_plus" yf
 q36:QD K "_law_times" vf
 q37:QD K "_law_parts" qy
 q38:QD K "_law_plan" xZ
 q39:QD K "_law_with" yg
 q40:QD K "_law_mixed_up" qH
 q41:QD K "law" xV
 n0:NO K "ValueError"
 n1:NO K "abs"
 n2:NO K "all"
 n3:NO K "bool"
 n4:NO K "dict"
 n5:NO K "enumerate"
 n6:NO K "int"
 n7:NO K "isinstance"
 n8:NO K "len"
 n9:NO K "list"
 n10:NO K "range"
 n11:NO K "reversed"
 n12:NO K "sum"
 n13:NO K "tuple"
 n14:NO K "zip"
 c0:Ck K "NOUGHT" 0 1
 c1:Ck K "ONE" 1 1
structure Bt (K:W.Frag)(mg:Zp)(base:Heap):Prop where
 c:Cb K mg base
 q:Qs K
theorem Kh:aY ["thing"] ["thing"] (aN zP):=by trivial
theorem dY:aY ["first", "second", "great", "small", "rest"] ["first", "second"] (aN pK):=by trivial
theorem Bp:aY ["top", "bottom", "divisor"] ["top", "bottom"] (aN Ig):=by trivial
theorem JM:aY ["thing"] ["thing"] (aN Bo):=by trivial
theorem Zh:aY ["first", "second"] ["first", "second"] (aN SJ):=by trivial
theorem VG:aY ["first", "second"] ["first", "second"] (aN Lj):=by trivial
theorem V6:aY ["first", "second"] ["first", "second"] (aN M5):=by trivial
theorem zj:aY ["some", "result", "each"] ["some"] (aN Nj):=by trivial
theorem Cg:aY ["game"] ["game"] (aN pq):=by trivial
theorem lD:aY ["game", "places", "waiting", "place", "behind"] ["game"] (aN rR):=by trivial
theorem Jq:aY ["move"] ["move"] (aN tY):=by trivial
theorem pL:aY ["place", "records", "number", "pair"] ["place", "records", "number"] (aN pI):=by trivial
theorem cO:aY ["game", "known", "found", "way", "place", "number"] ["game"] (aN jN):=by trivial
theorem Rk:aY ["move", "records"] ["move", "records"] (aN Hy):=by trivial
theorem mX:aY ["game", "rows", "way", "place", "records"] ["game"] (aN Bl):=by trivial
theorem O4:aY ["game", "side"] ["game", "side"] (aN wj):=by trivial
theorem uX:aY ["thing", "count"] ["thing", "count"] (aN jy):=by trivial
theorem BZ:aY ["rows", "thing"] ["rows", "thing"] (aN pA):=by trivial
theorem Qu:aY ["game", "side", "thing"] ["game", "side", "thing"] (aN Dk):=by trivial
theorem wD:aY ["game", "side", "thing"] ["game", "side", "thing"] (aN pM):=by trivial
theorem nZ:aY ["place", "plans", "shares"] ["place", "plans"] (aN jJ):=by trivial
theorem nF:aY ["place", "plans", "result", "share", "branch"] ["place", "plans"] (aN zV):=by trivial
theorem Ul:aY ["game", "one", "two"] ["game", "one", "two"] (aN Hz):=by trivial
theorem zz:aY ["_law_script", "_law_k"] ["_law_script", "_law_k"] (aN qU):=by trivial
theorem lq:aY ["_law_top", "_law_bottom", "_law_one", "_law_other"] ["_law_top", "_law_bottom"] (aN tu):=by trivial
theorem dh:aY ["_law_cell", "_law_turn", "_law_signs", "_law_size", "_law_places_here", "_law_k", "_law_word", "_law_at", "_law_found", "_law_sign"] ["_law_cell", "_law_turn"] (aN nQ):=by trivial
theorem Fy:aY ["_law_number"] ["_law_number"] (aN v8):=by trivial
theorem kZ:aY ["_law_number", "_law_many", "_law_parts_here", "_law_k"] ["_law_number", "_law_many"] (aN oR):=by trivial
theorem Ku:aY ["_law_cell", "_law_k"] ["_law_cell", "_law_k"] (aN Aw):=by trivial
theorem m9:aY ["_law_state", "_law_side", "_law_record", "_law_many", "_law_bit", "_law_key", "%1", "%2"] ["_law_state", "_law_side", "_law_record", "_law_many", "_law_bit"] (aN mR):=by trivial
theorem dU:aY ["_law_cells", "_law_state", "_law_depth", "_law_records", "_law_draw", "_law_side", "_law_many", "_law_number", "_law_pool_here", "_law_seen", "_law_ways", "_law_k", "_law_word", "_law_others", "%1", "%2"] ["_law_cells", "_law_state", "_law_depth", "_law_records", "_law_draw"] (aN yc):=by trivial
theorem fG:aY ["_law_cells", "_law_state", "_law_depth", "_law_records", "_law_at", "_law_own", "_law_draw", "_law_many", "_law_ways", "_law_share", "%1", "%2"] ["_law_cells", "_law_state", "_law_depth", "_law_records"] (aN vA):=by trivial
theorem yd:aY ["_law_cells", "_law_turn", "_law_depth", "_law_room", "_law_pool_here", "_law_state", "%1", "%2"] ["_law_cells", "_law_turn", "_law_depth", "_law_room", "_law_pool_here"] (aN xX):=by trivial
theorem cC:aY ["_law_game_here", "_law_found", "_law_waiting", "_law_way", "_law_place", "_law_records", "_law_parts_here", "_law_word", "_law_part", "_law_others", "_law_k"] ["_law_game_here"] (aN oJ):=by trivial
theorem gw:aY ["_law_game_here", "_law_rows", "_law_known", "_law_way", "_law_place", "_law_records", "_law_words"] ["_law_game_here"] (aN pW):=by trivial
theorem IV:aY ["_law_one", "_law_other"] ["_law_one", "_law_other"] (aN yf):=by trivial
theorem Fp:aY ["_law_one", "_law_other"] ["_law_one", "_law_other"] (aN vf):=by trivial
theorem mq:aY ["_law_number", "_law_many", "_law_parts_here", "_law_k"] ["_law_number", "_law_many"] (aN qy):=by trivial
theorem qW:aY ["_law_rows", "_law_side", "_law_cell", "_law_plan_here", "_law_k"] ["_law_rows", "_law_side", "_law_cell"] (aN xZ):=by trivial
theorem ye:aY ["_law_game_here", "_law_plans", "_law_side", "_law_name", "_law_shares_here", "_law_some", "%1", "%2"] ["_law_game_here", "_law_plans", "_law_side", "_law_name", "_law_shares_here"] (aN yg):=by trivial
theorem qG:aY ["_law_weight", "_law_one", "_law_other", "_law_rest"] ["_law_weight", "_law_one", "_law_other"] (aN qH):=by trivial
theorem gY:aY ["_law_script", "_law_pool_here", "_law_turn", "_law_game_here", "_law_rows", "_law_plans", "_law_side", "_law_name", "_law_words", "_law_record", "_law_many", "_law_cell", "_law_one", "_law_other", "_law_weight", "_law_both", "_law_first", "_law_second", "_law_whole", "_law_k", "_law_alone"] ["_law_script"] (aN xV):=by trivial
section
variable {P:Program}{w:World}{K:W.Frag}{mg:Zp}{base:Heap}(B:Bt K mg base)
include B
theorem ym:FF P w K mg base 1 "is_whole" ["thing"] tW:=B.2.q0.ff B.1 λ_ _ Fu=>
 bC Fu Kh λ_ _ _ _ _ _ hr=>by
 unfold z9 Ba
 exact (aL (bK (Fj (zA (x:="") (aq 0) rfl (B.1.no B.2.n7) iY rfl (B.1.no B.2.n6) S9) (Ep (Uk (zA (x:="") (aq 0) rfl (B.1.no B.2.n7) iY rfl (B.1.no B.2.n3) V0))))))
theorem nY:FF P w K mg base 1 "common_divisor" ["first", "second"] fV:=B.2.q1.ff B.1 λ_ _ Fu=>
 bC Fu dY λ_ _ _ _ _ _ hr=>by
 have hu:=hr.units
 unfold jY jR
 exact (aD (bQ dY.nd (cu xq rfl (B.1.no B.2.n1) J4 (aQ (aq 0) aV)))
  (aD (bQ dY.nd (cu xq rfl (B.1.no B.2.n1) J4 (aQ (aq 1) aV)))
  (aD (vJ PassesOwn.leaving (cA (rO hu) (aq 3) (ao az) (bL _))
  (aD (bQ dY.nd (aH bx (aq 2) (aq 3)))
  (aD (bQ dY.nd (aF 3))
  (aL (bQ dY.nd (aF 4))))))
  (aL (bK (aF 2))))))
theorem Cy:FF P w K mg base 2 "lowest" ["top", "bottom"] mV:=B.2.q2.ff B.1 λ_ _ Fu=>
 bC Fu Bp λ_ _ _ _ _ _ hr=>by
 have hu:=hr.units
 unfold v5 vB
 exact (aD (bQ Bp.nd (aZ (nY B) hr aP (aj (aF 0) (aj (aF 1) aC))))
  (aD (eE (cA (Gb hu) (aq 1) (ao az) (bL _))
  (aL (bQ Bp.nd (Hn vV (aq 2))))
  bU)
  (aL (bK (bB (aj (aH cV (aq 0) (aq 2)) (aj (aH cV (aq 1) (aq 2)) aC)))))))
theorem Ik:FF P w K mg base 2 "is_ratio" ["thing"] qg:=B.2.q3.ff B.1 λ_ _ Fu=>
 bC Fu JM λ_ _ _ _ _ _ hr=>by
 have hu:=hr.units
 unfold tV uo
 exact (aD (eE (Ke (Di (uH (qY (zA (x:="") (aq 0) rfl (B.1.no B.2.n7) iY rfl (B.1.no B.2.n13) iU))) (Af (cA (rO hu) (ao (cu dg rfl (B.1.no B.2.n8) iK (aQ (aq 0) aV))) (ao az) (bL _)))))
  (aL (bK zU))
  bU)
  (aD (eE (Ke (Di (uH (qY (aZ (ym B) hr aP (aj (aK (aq 0) (ao az)) aC)))) (Af (uH (qY (aZ (ym B) hr aP (aj (aK (aq 0) (ao az)) aC)))))))
  (aL (bK zU))
  bU)
  (aL (bK (Fj (qm Kw (ao (aK (aq 0) (ao az))) (ao az) (bL _)) (Ep (qm (eF hu) (ao (aZ (nY B) hr aP (aj (aK (aq 0) (ao az)) (aj (aK (aq 0) (ao az)) aC)))) (ao az) (bL _))))))))
theorem Mw:FF P w K mg base 3 "plus" ["first", "second"] uK:=B.2.q4.ff B.1 λ_ _ Fu=>
 bC Fu Zh λ_ _ _ _ _ _ hr=>by
 unfold GK Fe
 exact (aL (bK (aZ (Cy B) hr aP (aj (aH bR (ao (aH dm (ao (aK (aq 0) (ao az))) (ao (aK (aq 1) (ao az))))) (ao (aH dm (ao (aK (aq 1) (ao az))) (ao (aK (aq 0) (ao az)))))) (aj (aH dm (ao (aK (aq 0) (ao az))) (ao (aK (aq 1) (ao az)))) aC)))))
theorem Um:FF P w K mg base 3 "times" ["first", "second"] yN:=B.2.q5.ff B.1 λ_ _ Fu=>
 bC Fu VG λ_ _ _ _ _ _ hr=>by
 unfold GJ Gy
 exact (aL (bK (aZ (Cy B) hr aP (aj (aH dm (ao (aK (aq 0) (ao az))) (ao (aK (aq 1) (ao az)))) (aj (aH dm (ao (aK (aq 0) (ao az))) (ao (aK (aq 1) (ao az)))) aC)))))
theorem QW:FF P w K mg base 1 "under" ["first", "second"] yZ:=B.2.q6.ff B.1 λ_ _ Fu=>
 bC Fu V6 λ_ _ _ _ _ _ hr=>by
 have hu:=hr.units
 unfold Gz GQ
 exact (aL (bK (qm (Gb hu) (ao (aH dm (ao (aK (aq 0) (ao az))) (ao (aK (aq 1) (ao az))))) (ao (aH dm (ao (aK (aq 1) (ao az))) (ao (aK (aq 0) (ao az))))) (bL _))))
theorem Sy:FF P w K mg base 4 "total" ["some"] yQ:=B.2.q7.ff B.1 λ_ _ Fu=>
 bC Fu zj λ_ _ _ _ _ _ hr=>by
 unfold Fi GR
 exact (aD (bQ zj.nd (B.1.cn B.2.c0))
  (aD (lZ (sy (aF 0)) (bV zj.nd)
  (aL (bQ zj.nd (aZ (Mw B) hr aP (aj (aF 1) (aj (aF 2) aC))))))
  (aL (bK (aF 1)))))
theorem rA:FF P w K mg base 1 "branches_of" ["game"] iZ:=B.2.q8.ff B.1 λ_ _ Fu=>
 bC Fu Cg λ_ _ _ _ _ _ hr=>by
 have hu:=hr.units
 unfold sZ gJ
 exact (aD (eE (cA (eF hu) (ao (aK (aq 0) (ao az))) (ao bT) (bL _))
  (aL (nT (fP aC)))
  bU)
  (aL (nT (iz (aN pq) ["lead", "branch"] [] 2 [] rfl (by trivial) .nil (qx (xf (aK (aq 0) (ao (Hn vV (ao az)))))) (λ_ _ _ _ _ _=>(jU rfl (bH (bV (nds rfl)) (bH (bV (nds rfl)) iy)))) (λ_ _ _ _ _ _=>fD) (λ_ _ _ _ _ _=>(aF 1))))))
theorem GZ:FF P w K mg base 2 "places_of" ["game"] ou:=B.2.q9.ff B.1 λ_ _ Fu=>
 bC Fu lD λ_ _ _ _ _ _ hr=>by
 unfold xP nU
 exact (aD (lF lD.nd (fP aC))
  (aD (lF lD.nd (fP (aj (bB (aj (bB aC) (aj (aF 0) aC))) aC)))
  (aD (vJ PassesOwn.leaving (cA Gn (ao (cu dg rfl (B.1.no B.2.n8) iK (aQ (aq 2) aV))) (ao az) (bL _))
  (aD (Pa 3 2 lD.nd rfl (Or.inr rfl))
  (aD (gG 1 (aF 3))
  (aD (JD (i:=4) (aN rR) ["number", "branch", "place"] ["place"] 2 [3] lD.nd rfl (Or.inl rfl) rfl (by trivial) (.cons rfl .nil) (RX rfl (B.1.no B.2.n5) (aQ (ao (aZ (rA B) hr aP (aj (aK (aq 3) (ao az)) aC))) aV)) (λ_ _ _ _ _ _=>(jU rfl (bH (bV (nds rfl)) (bH (bV (nds rfl)) iy)))) (λ_ _ _ _ _ _=>fD) (λ_ _ _ _ _ _=>(bB (aj (aH bR (ao (aK (aq 2) (ao az))) (ao (bB (aj (aF 0) aC)))) (aj (aF 1) aC)))))
  (aL (Qt 2 (Xm rfl rfl (B.1.no B.2.n9) rfl (B.1.no B.2.n11) (aQ (aq 4) aV))))))))
  (aL (rY 1)))))
theorem HQ:FF P w K mg base 1 "words_at" ["move"] p7:=B.2.q10.ff B.1 λ_ _ Fu=>
 bC Fu Jq λ_ _ _ _ _ _ hr=>by
 unfold uF uC
 exact (aL (bK (ir gh rfl (B.1.no B.2.n13) iU (aQ (ao (ie (iz (aN tY) ["word", "branch"] [] 2 [] rfl (by trivial) .nil (qx (xf (aK (aq 0) (ao az)))) (λ_ _ _ _ _ _=>(jU rfl (bH (bV (nds rfl)) (bH (bV (nds rfl)) iy)))) (λ_ _ _ _ _ _=>fD) (λ_ _ _ _ _ _=>(aF 0))))) aV))))
theorem vz:FF P w K mg base 1 "records_behind" ["place", "records", "number"] dZ:=B.2.q11.ff B.1 λ_ _ Fu=>
 bC Fu pL λ_ _ _ _ _ _ hr=>by
 have hu:=hr.units
 unfold fQ fU
 exact (aD (eE (cA (rO hu) (ao (aK (aq 0) (ao az))) (ao bT) (bL _))
  (aL (bK (aF 1)))
  bU)
  (aD (bQ pL.nd (bB (aj (aK (aq 0) (ao az)) (aj (aK (ao (aK (ao (aK (aq 0) (ao az))) (aq 2))) (ao az)) aC))))
  (aD (eE (cA (eF hu) (ao (aK (aq 0) (ao az))) (ao az) (bL _))
  (aL (bK (bB (aj (aH bR (ao (aK (aq 1) (ao az))) (ao (bB (aj (aF 3) aC)))) (aj (aK (aq 1) (ao az)) aC)))))
  bU)
  (aL (bK (bB (aj (aK (aq 1) (ao az)) (aj (aH bR (ao (aK (aq 1) (ao az))) (ao (bB (aj (aF 3) aC)))) aC))))))))
theorem qp:FF P w K mg base 3 "places_with_records" ["game"] eQ:=B.2.q12.ff B.1 λ_ _ Fu=>
 bC Fu cO λ_ _ _ _ _ _ hr=>by
 unfold jO eN
 refine Wr.out ?_
 exact (J5 (Yj (i:=1) cO.nd rfl (Or.inl rfl) (Wr.mk (Q5 hr (bB aC) (bB (aj (bB aC) (aj (bB aC) aC)))))) (J5 (Yj (i:=2) cO.nd rfl (Or.inl rfl) (ab6 (Wr.mk aC))) (J5 (Wr.mk (lZ (sy (aZ (GZ B) hr aP (aj (aF 0) aC))) (jU rfl (bH (bV cO.nd) (bH (bV cO.nd) iy))) (aD (gG 2 (bB (aj (aF 3) (aj (aF 4) (aj (Ge hr (aq 1) (aq 3) (λ_ _=>rfl)) aC))))) (aL (lZ (gK rfl (B.1.no B.2.n10) (aQ (ao (cu dg rfl (B.1.no B.2.n8) iK (aQ (ao (aZ (rA B) hr aP (aj (aF 4) aC))) aV))) aV)) (bV cO.nd) (aL (KY 1 hr (aZ (vz B) hr aP (aj (aF 4) (aj (Ge hr (aq 1) (aq 3) (λ_ _=>rfl)) (aj (aF 5) aC)))) (aH bR (aq 3) (ao (bB (aj (aF 5) aC))))))))))) (abQ (Wr.mk (rY 2))))))
theorem Qi:FF P w K mg base 2 "row_at" ["move", "records"] rH:=B.2.q13.ff B.1 λ_ _ Fu=>
 bC Fu Rk λ_ _ _ _ _ _ hr=>by
 unfold vQ vq
 exact (aL (bK (bB (aj (aK (aq 0) (ao az)) (aj (aK (aq 0) (ao az)) (aj (aZ (HQ B) hr aP (aj (aF 0) aC)) (aj (aK (aq 1) (ao (aH dD (ao (aK (aq 0) (ao az))) (ao az)))) aC)))))))
theorem HY:FF P w K mg base 4 "table_of" ["game"] uv:=B.2.q14.ff B.1 λ_ _ Fu=>
 bC Fu mX λ_ _ _ _ _ _ hr=>by
 have hu:=hr.units
 unfold Ay qz
 exact (aD (lF mX.nd El)
  (aD (lZ (sy (aZ (qp B) hr aP (aj (aF 0) aC))) (jU rfl (bH (bV mX.nd) (bH (bV mX.nd) (bH (bV mX.nd) iy))))
  (aL (eE (cA (eF hu) (ao (aK (aq 3) (ao az))) (ao bT) (bL _))
  (aL (Z5 1 hr (bB (aj (aK (aq 3) (ao az)) (aj (aK (aq 3) (ao az)) aC))) (aZ (Qi B) hr aP (aj (aF 3) (aj (aF 4) aC))) ⟨rfl,rfl,rfl,rfl⟩))
  bU)))
  (aL (nT (Ur rfl rfl (B.1.no B.2.n9) (aq 1))))))
theorem Ks:FF P w K mg base 5 "rows_of" ["game", "side"] rT:=B.2.q15.ff B.1 λ_ _ Fu=>
 bC Fu O4 λ_ _ _ _ _ _ hr=>by
 have hu:=hr.units
 unfold wX wg
 exact (aL (nT (iz (aN wj) ["row", "side"] ["side"] 1 [1] rfl (by trivial) (.cons rfl .nil) (qP (ao (aZ (HY B) hr aP (aj (aF 0) aC)))) (λ_ _ _ _ _ _=>(bV (nds rfl))) (λ_ _ _ _ _ _=>(Uz (cA (eF hu) (ao (aK (aq 0) (ao az))) (aq 1) (bL _)))) (λ_ _ _ _ _ _=>(aF 0)))))
theorem ue:FF P w K mg base 5 "are_full_shares" ["thing", "count"] dI:=B.2.q16.ff B.1 λ_ _ Fu=>
 bC Fu uX λ_ _ _ _ _ _ hr=>by
 have hu:=hr.units
 unfold jq jE
 exact (aD (eE (Ke (Di (uH (qY (zA (x:="") (aq 0) rfl (B.1.no B.2.n7) iY rfl (B.1.no B.2.n13) iU))) (Af (cA (rO hu) (ao (cu dg rfl (B.1.no B.2.n8) iK (aQ (aq 0) aV))) (aq 1) (bL _)))))
  (aL (bK zU))
  bU)
  (aD (eE (uH (qY (cu (Dg rfl) rfl (B.1.no B.2.n2) RQ (aQ (ao (ie (iz (aN jy) ["share"] [] 1 [] rfl (by trivial) .nil (qx (xf (aF 0))) (λ_ _ _ _ _ _=>(bV (nds rfl))) (λ_ _ _ _ _ _=>fD) (λ_ _ _ _ _ _=>(Fj (aZ (Ik B) hr Cm (aj (aF 0) aC)) (Ep (Uk (aZ (QW B) hr Cm (aj (aF 0) (aj (B.1.cn B.2.c0) aC)))))))))) aV))))
  (aL (bK zU))
  bU)
  (aL (bK (qm (eF hu) (ao (aZ (Sy B) hr aP (aj (ie (mQ qF rfl (B.1.no B.2.n9) qu (aQ (aq 0) aV))) aC))) (ao (B.1.cn B.2.c1)) (bL _))))))
theorem z6:FF P w K mg base 6 "is_plan_for" ["rows", "thing"] j9:=B.2.q17.ff B.1 λ_ _ Fu=>
 bC Fu BZ λ_ _ _ _ _ _ hr=>by
 have hu:=hr.units
 unfold ph o6
 exact (aD (eE (Ke (Di (uH (qY (zA (x:="") (aq 1) rfl (B.1.no B.2.n7) iY rfl (B.1.no B.2.n4) Ei))) (Af (cA (rO hu) (ao (cu dg rfl (B.1.no B.2.n8) iK (aQ (aq 1) aV))) (ao (cu dg rfl (B.1.no B.2.n8) iK (aQ (aq 0) aV))) (bL _)))))
  (aL (bK zU))
  bU)
  (aL (bK (cu (Dg rfl) rfl (B.1.no B.2.n2) RQ (aQ (ao (ie (iz (aN pA) ["row", "thing"] ["thing"] 1 [1] rfl (by trivial) (.cons rfl .nil) (qP (aq 0)) (λ_ _ _ _ _ _=>(bV (nds rfl))) (λ_ _ _ _ _ _=>fD) (λ_ _ _ _ _ _=>(Fj (qm (Y0 hr) (ao (aK (aq 0) (ao az))) (aq 1) (by with_unfolding_all rfl)) (Ep (aZ (ue B) hr Cm (aj (eG hr (aq 1) (ao (aK (aq 0) (ao az))) (λ_ _=>rfl)) (aj (cu dg rfl (B.1.no B.2.n8) iK (aQ (ao (aK (aq 0) (ao az))) aV)) aC))))))))) aV)))))
theorem JV:FF P w K mg base 7 "is_plan" ["game", "side", "thing"] sJ:=B.2.q18.ff B.1 λ_ _ Fu=>
 bC Fu Qu λ_ _ _ _ _ _ hr=>by
 unfold wM wV
 exact (aL (bK (aZ (z6 B) hr aP (aj (aZ (Ks B) hr aP (aj (aF 0) (aj (aF 1) aC))) (aj (aF 2) aC)))))
theorem nM:FF P w K mg base 8 "refuse_no_plan" ["game", "side", "thing"] dX:=B.2.q19.ff B.1 λ_ _ Fu=>
 bC Fu wD λ_ _ _ _ _ _ hr=>by
 unfold jZ jW
 exact (aL (eE (uH (qY (aZ (JV B) hr aP (aj (aF 0) (aj (aF 1) (aj (aF 2) aC))))))
  (aL Ra)
  bU))
theorem uJ:FF P w K mg base 1 "shared_branches" ["place", "plans"] cY:=B.2.q20.ff B.1 λ_ _ Fu=>
 bC Fu nZ λ_ _ _ _ _ _ hr=>by
 have hu:=hr.units
 unfold gM gO
 exact (aD (eE (cA (eF hu) (ao (aK (aq 0) (ao az))) (ao bT) (bL _))
  (aL (nT (mQ qF rfl (B.1.no B.2.n9) qu (aQ (ao (aK (aq 0) (ao az))) aV))))
  bU)
  (aD (bQ nZ.nd (eG hr (ao (eG hr (aq 1) (ao (aK (aq 0) (ao az))) (λ_ _=>rfl))) (ao (aK (aq 0) (ao az))) (λ_ _=>rfl)))
  (aL (nT (iz (aN jJ) ["share", "way"] [] 2 [] rfl (by trivial) .nil (qx (WK rfl (B.1.no B.2.n14) (aj (aF 2) (aj (aK (aq 0) (ao az)) aC)))) (λ_ _ _ _ _ _=>(jU rfl (bH (bV (nds rfl)) (bH (bV (nds rfl)) iy)))) (λ_ _ _ _ _ _=>fD) (λ_ _ _ _ _ _=>(bB (aj (aF 0) (aj (aK (aq 1) (ao az)) aC)))))))))
theorem Ji (n:Nat)(Gcomes_of:FF P w K mg base (3+n) "comes_of" ["place", "plans"] (gq n)):FF P w K mg base (3+n+1) "comes_of" ["place", "plans"] (gq (n+1)):=B.2.q21.ff B.1 λ_ _ Fu=>
 bC Fu nF λ_ _ _ _ _ _ hr=>by
 have hu:=hr.units
 unfold jQ
 exact (aD (eE (cA (eF hu) (ao (aK (aq 0) (ao az))) (ao bT) (bL _))
  (aL (bK (aK (aq 0) (ao az))))
  bU)
  (aD (bQ nF.nd (B.1.cn B.2.c0))
  (aD (lZ (sy (aZ (uJ B) hr aP (aj (aF 0) (aj (aF 1) aC)) (hk:=by omega))) (jU rfl (bH (bV nF.nd) (bH (bV nF.nd) iy)))
  (aL (eE (cA (rO hu) (aq 3) (ao (B.1.cn B.2.c0)) (bL _))
  (aL (bQ nF.nd (aZ (Mw B) hr aP (aj (aF 2) (aj (aZ (Um B) hr aP (aj (aF 3) (aj (aZ Gcomes_of hr aP (aj (aF 4) (aj (aF 1) aC)) (hk:=by omega)) aC)) (hk:=by omega)) aC)) (hk:=by omega))))
  bU)))
  (aL (bK (aF 2))))))
theorem Ih:∀n:Nat,FF P w K mg base (3+n) "comes_of" ["place", "plans"] (gq n):=by
 intro n
 induction n with
 |zero=>exact B.2.q21.ff B.1 λ_ _ _=>abu
 |succ n ih=>exact Ji B n ih
theorem wO:FF P w K mg base 34 "brings" ["game", "one", "two"] pH:=B.2.q22.ff B.1 λ_ _ Fu=>
 bC Fu Ul λ_ _ _ _ _ _ hr=>by
 unfold zH Ah
 exact (aD (Nr (aZ (nM B) hr aP (aj (aF 0) (aj az (aj (aF 1) aC)))))
  (aD (Nr (aZ (nM B) hr aP (aj (aF 0) (aj az (aj (aF 2) aC)))))
  (aL (bK (aZ (Ih B 30) hr aP (aj (aF 0) (aj (ie (XS (mZ az (aF 1) (mZ az (aF 2) Nx)) rfl rfl (λz=>nomatch z) (by decide))) aC)))))))
theorem dM:FF P w K mg base 1 "_law_cell_at" ["_law_script", "_law_k"] fY:=B.2.q23.ff B.1 λ_ _ Fu=>
 bC Fu zz λ_ _ _ _ _ _ hr=>by
 have hu:=hr.units
 unfold jD jA
 exact (aD (eE (cA (Gb hu) (aq 1) (ao (cu dg rfl (B.1.no B.2.n8) iK (aQ (aq 0) aV))) (bL _))
  (aL (bK (aK (aq 0) (aq 1))))
  bU)
  (aL (bK az)))
theorem dw:FF P w K mg base 1 "_law_lowest" ["_law_top", "_law_bottom"] cP:=B.2.q24.ff B.1 λ_ _ Fu=>
 bC Fu lq λ_ _ _ _ _ _ hr=>by
 have hu:=hr.units
 unfold oV oZ
 exact (aD (bQ lq.nd (cu xq rfl (B.1.no B.2.n1) J4 (aQ (aq 0) aV)))
  (aD (bQ lq.nd (aF 1))
  (aD (vJ PassesOwn.leaving (cA (rO hu) (aq 3) (ao az) (bL _))
  (aL (aan (i:=2) (j:=3) rfl lq.nd rfl rfl (by decide) rfl rfl (aj (aF 3) (aj (aH bx (aq 2) (aq 3)) aC)))))
  (aL (bK (bB (aj (aH cV (aq 0) (aq 2)) (aj (aH cV (aq 1) (aq 2)) aC))))))))
theorem Eg:FF P w K mg base 1 "_law_pool" ["_law_cell", "_law_turn"] qZ:=B.2.q25.ff B.1 λ_ _ Fu=>
 bC Fu dh λ_ _ _ _ _ _ hr=>by
 have hu:=hr.units
 unfold xR jo
 exact (aD (bQ dh.nd bT)
  (aD (bQ dh.nd (aH bR (ao az) (ao (aH bx (aq 0) (ao az)))))
  (aD (bQ dh.nd (aH cV (aq 0) (ao az)))
  (aD (lF dh.nd (fP aC))
  (aD (lZ (gK rfl (B.1.no B.2.n10) (aQ (aq 3) aV)) (bV dh.nd)
  (aD (gG 4 (aH bx (aq 0) (ao az)))
  (aL (bQ dh.nd (aH cV (aq 0) (ao az))))))
  (aD (bQ dh.nd (abq PySem.F.plainAttrs_str PySem.F.slot_str_join PySem.F.type_str_join R0 (ao bT) (aQ (ao (ie (iz (aN nQ) ["_law_k", "_law_signs"] ["_law_signs"] 1 [2] rfl (by trivial) (.cons rfl .nil) (qP (aq 4)) (λ_ _ _ _ _ _=>(bV (nds rfl))) (λ_ _ _ _ _ _=>fD) (λ_ _ _ _ _ _=>(aK (aq 1) (aq 0)))))) aV)))
  (aD (eE (cA (eF hu) (ao (aH bx (ao (aH cV (aq 1) (ao az))) (ao az))) (ao az) (bL _))
  (aL (nT (iz (aN nQ) ["_law_k", "_law_word"] ["_law_word"] 1 [6] rfl (by trivial) (.cons rfl .nil) (qx (Ql rfl (B.1.no B.2.n10) (aQ (ao az) (aQ (ao az) aV)))) (λ_ _ _ _ _ _=>(bV (nds rfl))) (λ_ _ _ _ _ _=>fD) (λ_ _ _ _ _ _=>(uP (ao (aH QR (ao az) (aq 1))) Et (vZ (aq 0)))))))
  bU)
  (aD (bQ dh.nd (aH bx (aq 1) (aq 3)))
  (aD (lF dh.nd (fP aC))
  (aD (lZ (gK rfl (B.1.no B.2.n10) (aQ (ao az) aV)) (bV dh.nd)
  (aD (bQ dh.nd (aK (aq 2) (ao (aH bx (ao (aH bR (ao (aK (aq 4) (aq 7))) (ao (aH dm (ao az) (aq 5))))) (ao az)))))
  (aL (gG 8 (aH bR (ao (aH bR (ao (uP (aq 6) Et (vZ (aq 7)))) (aq 9))) (ao (uP (aq 6) (vZ (ao (aH bR (aq 7) (ao az)))) Et)))))))
  (aL (rY 8))))))))))))
theorem o8:FF P w K mg base 2 "_law_stake" ["_law_number"] cz:=B.2.q26.ff B.1 λ_ _ Fu=>
 bC Fu Fy λ_ _ _ _ _ _ hr=>by
 have hu:=hr.units
 unfold mO mC
 exact (aD (eE (cA (eF hu) (ao (aH bx (aq 0) (ao az))) (ao az) (bL _))
  (aL (bK (aZ (dw B) hr aP (aj (aH dD (ao (aH bx (ao (aH dm (aq 0) (ao az))) (ao az))) (ao az)) (aj (aH bR (ao az) (ao (aH bx (ao (aH cV (aq 0) (ao az))) (ao az)))) aC)))))
  bU)
  (aL (bK (aZ (dw B) hr aP (aj (aH dD (ao (aH bx (ao (aH cV (aq 0) (ao az))) (ao az))) (ao az)) (aj (aH bR (ao az) (ao (aH bx (ao (aH cV (aq 0) (ao az))) (ao az)))) aC))))))
theorem zT:FF P w K mg base 2 "_law_shares" ["_law_number", "_law_many"] lu:=B.2.q27.ff B.1 λ_ _ Fu=>
 bC Fu kZ λ_ _ _ _ _ _ hr=>by
 unfold tK kJ
 exact (aD (lF kZ.nd (fP aC))
  (aD (lZ (gK rfl (B.1.no B.2.n10) (aQ (aq 1) aV)) (bV kZ.nd)
  (aD (gG 2 (aH bR (ao (aH bR (ao az) (ao (aH bx (aq 0) (ao az))))) (ao (aH dm (ao (aH cV (ao (aH bx (ao (aH cV (aq 0) (ao az))) (ao az))) (ao az))) (ao (aH bx (ao (aH cV (aq 0) (ao az))) (ao az)))))))
  (aL (bQ kZ.nd (aH bx (ao (aH dm (aq 0) (ao az))) (ao az))))))
  (aL (nT (iz (aN oR) ["_law_part", "_law_parts_here"] ["_law_parts_here"] 1 [2] rfl (by trivial) (.cons rfl .nil) (qP (aq 2)) (λ_ _ _ _ _ _=>(bV (nds rfl))) (λ_ _ _ _ _ _=>fD) (λ_ _ _ _ _ _=>(aZ (dw B) hr Cm (aj (aF 0) (aj (cu (wK rfl) rfl (B.1.no B.2.n12) JN (aQ (aq 1) aV)) aC)))))))))
theorem jm:FF P w K mg base 1 "_law_mix" ["_law_cell", "_law_k"] cB:=B.2.q28.ff B.1 λ_ _ Fu=>
 bC Fu Ku λ_ _ _ _ _ _ hr=>by
 unfold uq ur
 exact (aL (bK (aH bx (ao (aH dm (ao (aH bR (ao (aH bx (aq 0) (ao az))) (ao az))) (ao (aH bR (ao az) (ao (aH dm (ao az) (aq 1))))))) (ao az))))
theorem sW:FST P w K mg base 1 "_law_name_number" ["_law_state", "_law_side", "_law_record", "_law_many", "_law_bit"] 0 cT:=B.2.q29.ff B.1 λ_ _ Fu=>
 Ab 0 Fu m9 (by decide) λ_ _ _ _ _ _ hr=>by
 unfold d7 d9
 exact (aD (bQ m9.nd (bB (aj (aF 1) (aj (aF 2) (aj (aF 3) (aj (aF 4) aC))))))
  (aD (eE (cA (Od hr) (aq 5) (xj 6 (eG hr (aq 0) (ao bT) (λ_ _=>rfl))) (by with_unfolding_all rfl))
  (aD (Jz 6 hr (aK (xj 7 (eG hr (aq 0) (ao bT) (λ_ _=>rfl))) (ao (aH dD (aq 1) (ao az)))) (eG hr (aq 0) (ao bT) (λ_ _=>rfl)) (aF 5))
  (aL (Hw 7 (aH bR (ao (aK (xj 7 (eG hr (aq 0) (ao bT) (λ_ _=>rfl))) (ao (aH dD (aq 1) (ao az))))) (ao az)) (eG hr (aq 0) (ao bT) (λ_ _=>rfl)) (aH dD (aq 1) (ao az)))))
  bU)
  (aL (bK (Ge hr (xj 6 (eG hr (aq 0) (ao bT) (λ_ _=>rfl))) (aq 5) (λ_ _=>rfl))))))
theorem Ef (k:Nat)(hc:2<=k)(Φb:List D->D->Addr×D->Addr×D->Res (D×D×D×D))(G_law_built:FST P w K mg base k "_law_built" ["_law_cells", "_law_state", "_law_depth", "_law_records"] 1 Φb):FST P w K mg base (k+1) "_law_move" ["_law_cells", "_law_state", "_law_depth", "_law_records", "_law_draw"] 1 (lA Φb):=B.2.q30.ff B.1 λ_ _ Fu=>
 Ab 1 Fu dU (by decide) λ_ _ _ _ _ _ hr=>by
 unfold jl
 exact (aD (bQ dU.nd (aH bR (ao az) (ao (aH bx (aq 4) (ao az)))))
  (aD (bQ dU.nd (aH bR (ao az) (ao (aH bx (ao (aH cV (aq 4) (ao az))) (ao az)))))
  (aD (W9 (i:=7) dU.nd rfl (Or.inl rfl) (Il 1 14 15 (sW B) hr aP (rJ (i:=1) (aj (aF 5) (aj (aK (aq 3) (ao (aH dD (aq 5) (ao az)))) (aj (aF 6) (aj (aH bx (ao (aH cV (aq 4) (ao az))) (ao az)) aC))))) (hk:=by omega)))
  (aD (eE (cA Kw (aq 7) (ao az) (bL _))
  (aL (bK (bB (aj bT (aj (aZ (o8 B) hr aP (aj (aF 4) aC) (hk:=by omega)) aC)))))
  bU)
  (aD (sI 1 hr (aH dD (ao (eG hr (aq 1) (ao bT) (λ_ _=>rfl))) (aq 6)) bT)
  (aD (bQ dU.nd (eG hr (aq 1) (ao bT) (λ_ _=>rfl)))
  (aD (bQ dU.nd (aK (aq 8) (ao (aH bx (ao (aH bR (aq 7) (ao (eG hr (aq 1) (ao bT) (λ_ _=>rfl))))) (ao az)))))
  (aD (lF dU.nd (fP aC))
  (aD (lZ (gK rfl (B.1.no B.2.n10) (aQ (aq 6) aV)) (bV dU.nd)
  (aD (bQ dU.nd (aK (aq 8) (ao (aH bx (ao (aH bR (ao (aH bR (ao (aH dm (ao az) (aq 7))) (aq 11))) (ao (aH cV (ao (eG hr (aq 1) (ao bT) (λ_ _=>rfl))) (ao az))))) (ao az)))))
  (aD (lF dU.nd (mQ qF rfl (B.1.no B.2.n9) qu (aQ (aq 3) aV)))
  (aD (zx 13 (aH bR (ao (aK (aq 13) (ao (aH dD (aq 5) (ao az))))) (ao (bB (aj (bB (aj (aF 9) (aj (aF 12) aC))) aC)))) (aH dD (aq 5) (ao az)))
  (XQ 13 (aL (zJ 10 (Q3 (vK (Ym (aF 12)) (vK (Il 1 14 15 G_law_built hr aP (uV (aF 0) (rJ (i:=1) (aj (aH dD (aq 2) (ao az)) (aj (aF 13) aC)))) (hk:=by omega)) MK))))))))))
  (aL (bK (bB (aj bT (aj (aF 5) (aj (aF 9) (aj (ir gh rfl (B.1.no B.2.n13) iU (aQ (aq 10) aV)) aC))))))))))))))))
theorem BX (n:Nat)(G_law_built:FST P w K mg base (2+2*n) "_law_built" ["_law_cells", "_law_state", "_law_depth", "_law_records"] 1 (bf n))(G_law_move:FST P w K mg base (2+2*n+1) "_law_move" ["_law_cells", "_law_state", "_law_depth", "_law_records", "_law_draw"] 1 (lA (bf n))):FST P w K mg base (2+2*n+1+1) "_law_built" ["_law_cells", "_law_state", "_law_depth", "_law_records"] 1 (bf (n+1)):=B.2.q31.ff B.1 λ_ _ Fu=>
 Ab 1 Fu fG (by decide) λ_ _ _ _ _ _ hr=>by
 have hu:=hr.units
 unfold dN
 exact (aD (bQ fG.nd (eG hr (aq 1) (ao bT) (λ_ _=>rfl)))
  (aD (sI 1 hr (aH bR (aq 4) (ao az)) bT)
  (aD (eE (cA Kw (aq 4) (ao (cu dg rfl (B.1.no B.2.n8) iK (aQ (aq 0) aV))) (bL _))
  (aL (bK (bB (aj bT (aj (aZ (o8 B) hr aP (aj (aZ (jm B) hr aP (aj (aH bR (ao (aK (aq 0) (ao (Hn vV (ao az))))) (ao (aH dm (aq 4) (aq 4)))) (aj (aF 4) aC)) (hk:=by omega)) aC) (hk:=by omega)) aC)))))
  bU)
  (aD (bQ fG.nd (aZ (jm B) hr aP (aj (aK (aq 0) (aq 4)) (aj (aF 4) aC)) (hk:=by omega)))
  (aD (bQ fG.nd (aF 5))
  (aD (eE (qY (eG hr (aq 1) (ao bT) (λ_ _=>rfl)))
  (aL (bQ fG.nd (aH bR (ao (aH dD (aq 5) (ao (aH bx (aq 5) (ao az))))) (ao (aH bx (ao (aZ (jm B) hr aP (aj (aK (aq 0) (ao (aH bx (aq 2) (ao (cu dg rfl (B.1.no B.2.n8) iK (aQ (aq 0) aV)))))) (aj (aF 2) aC)) (hk:=by omega))) (ao az))))))
  bU)
  (aD (eE (Ke (Di (cA (eF hu) (aq 2) (ao az) (bL _)) (Di (cA (Gb hu) (ao (eG hr (aq 1) (ao bT) (λ_ _=>rfl))) (ao az) (bL _)) (Af (Ke (Ri (cA (eF hu) (ao (aH bx (aq 6) (ao az))) (ao az) (bL _)) (Oj (cA Gn (aq 4) (ao az) (bL _)))))))))
  (aL (bK (bB (aj bT (aj (aZ (o8 B) hr aP (aj (aF 5) aC) (hk:=by omega)) aC)))))
  bU)
  (aD (eE (cA Gn (ao (aH bx (aq 6) (ao az))) (ao az) (bL _))
  (aL (Iv (Il 1 10 11 G_law_move hr aP (uV (aF 0) (rJ (i:=1) (aj (aF 2) (aj (aF 3) (aj (aF 6) aC))))) (hk:=by omega))))
  bU)
  (aD (bQ fG.nd (aH bR (ao az) (ao (aH bx (ao (aH cV (aq 6) (ao az))) (ao az)))))
  (aD (sI 1 hr (aH dD (ao (eG hr (aq 1) (ao bT) (λ_ _=>rfl))) (aq 7)) bT)
  (aD (lF fG.nd (fP aC))
  (aD (lZ (sy (aZ (zT B) hr aP (aj (aF 5) (aj (aF 7) aC)) (hk:=by omega))) (bV fG.nd)
  (aL (zJ 8 (Q3 (vK (Ym (aF 9)) (vK (Il 1 10 11 G_law_built hr aP (uV (aF 0) (rJ (i:=1) (aj (aH dD (aq 2) (ao az)) (aj (aF 3) aC)))) (hk:=by omega)) MK))))))
  (aL (bK (bB (aj bT (aj (aK (ao (eG hr (aq 1) (ao bT) (λ_ _=>rfl))) (ao (aH bx (ao (aH cV (aq 5) (ao az))) (ao az)))) (aj (ir gh rfl (B.1.no B.2.n13) iU (aQ (aq 8) aV)) aC))))))))))))))))))
theorem Ca:∀n:Nat,FST P w K mg base (2+2*n) "_law_built" ["_law_cells", "_law_state", "_law_depth", "_law_records"] 1 (bf n):=by
 intro n
 induction n with
 |zero=>exact B.2.q31.ff B.1 λ_ _ _=>abF
 |succ n ih=>
  have GM:FST P w K mg base (2+2*n+1) "_law_move" ["_law_cells", "_law_state", "_law_depth", "_law_records", "_law_draw"] 1 (lA (bf n)):=Ef B (2+2*n) (by omega) _ ih
  exact BX B n ih GM
theorem Em:FF P w K mg base 29 "_law_game" ["_law_cells", "_law_turn", "_law_depth", "_law_room", "_law_pool_here"] qO:=B.2.q32.ff B.1 λ_ _ Fu=>
 bC Fu yd λ_ _ _ _ _ _ hr=>by
 have hu:=hr.units
 unfold xQ nR
 exact (T5 (i:=5) (j1:=6) (j2:=7) yd.nd rfl (Or.inl rfl) (mZ bT az (mZ bT (aF 3) (mZ bT El (mZ bT (fP (aj az (aj az aC))) (mZ bT (aF 4) Nx)))))
  (aD (sI 5 hr (aH bx (aq 1) (ao az)) bT)
  (aD (sI 5 hr (qm (eF hu) (ao (aH bx (ao (aH cV (aq 1) (ao az))) (ao az))) (ao az) (bL _)) bT)
  (aL (Iv (Il 5 6 7 (Ca B 13) hr aP (uV (aF 0) (rJ (i:=5) (aj (aF 2) (aj (ie (fP (aj (bB aC) (aj (bB aC) aC)))) aC))))))))))
theorem Bw:FF P w K mg base 1 "_law_places" ["_law_game_here"] kh:=B.2.q33.ff B.1 λ_ _ Fu=>
 bC Fu cC λ_ _ _ _ _ _ hr=>by
 have hu:=hr.units
 unfold sY kW
 exact (aD (lF cC.nd (fP aC))
  (aD (lF cC.nd (fP (aj (bB (aj (bB aC) (aj (aF 0) (aj (bB (aj (bB aC) (aj (bB aC) aC))) aC)))) aC)))
  (aD (vJ PassesOwn.leaving (cA Gn (ao (cu dg rfl (B.1.no B.2.n8) iK (aQ (aq 2) aV))) (ao az) (bL _))
  (aD (VF (k:=1000) (YH 2) (jU rfl (bH (bV cC.nd) (bH (bV cC.nd) (bH (bV cC.nd) iy)))))
  (aD (gG 1 (bB (aj (aF 3) (aj (aF 4) (aj (aF 5) aC)))))
  (aD (lF cC.nd (fP aC))
  (aD (eE (cA (eF hu) (ao (aK (aq 4) (ao az))) (ao bT) (bL _))
  (aL (Jo (i:=6) (aN oJ) ["_law_share", "_law_part", "_law_records"] ["_law_records"] 2 [5] cC.nd rfl (Or.inl rfl) rfl (by trivial) (.cons rfl .nil) (qx (xf (aK (aq 4) (ao az)))) (λ_ _ _ _ _ _=>(jU rfl (bH (bV (nds rfl)) (bH (bV (nds rfl)) iy)))) (λ_ _ _ _ _ _=>fD) (λ_ _ _ _ _ _=>(bB (aj (aF 1) (aj (aF 2) aC))))))
  bU)
  (aD (eE (cA (eF hu) (ao (aK (aq 4) (ao az))) (ao bT) (bL _))
  (aL (lZ (xf (aK (aq 4) (ao az))) (jU rfl (bH (bV cC.nd) (bH (bV cC.nd) iy)))
  (aD (lF cC.nd (mQ qF rfl (B.1.no B.2.n9) qu (aQ (aq 5) aV)))
  (aD (zx 9 (aH bR (ao (aK (aq 9) (ao (aH dD (ao (aK (aq 4) (ao az))) (ao az))))) (ao (bB (aj (bB (aj (aK (aq 4) (ao az)) (aj (aF 7) aC))) aC)))) (aH dD (ao (aK (aq 4) (ao az))) (ao az)))
  (aL (gG 6 (bB (aj (aF 8) (aj (ir gh rfl (B.1.no B.2.n13) iU (aQ (aq 9) aV)) aC)))))))))
  bU)
  (aL (lZ (Vp rfl (B.1.no B.2.n10) (aQ (ao (aH dD (ao (cu dg rfl (B.1.no B.2.n8) iK (aQ (aq 6) aV))) (ao az))) (aQ (ao (Hn vV (ao az))) (aQ (ao (Hn vV (ao az))) aV)))) (bV cC.nd)
  (aL (gG 2 (bB (aj (aH bR (aq 3) (ao (bB (aj (aF 10) aC)))) (aj (aK (ao (aK (aq 6) (aq 10))) (ao az)) (aj (aK (ao (aK (aq 6) (aq 10))) (ao az)) aC))))))))))))))
  (aL (rY 1)))))
theorem BL:FF P w K mg base 2 "_law_table" ["_law_game_here"] mG:=B.2.q34.ff B.1 λ_ _ Fu=>
 bC Fu gw λ_ _ _ _ _ _ hr=>by
 have hu:=hr.units
 unfold pR qi
 exact (aD (lF gw.nd (fP aC))
  (aD (lF gw.nd El)
  (aD (lZ (sy (aZ (Bw B) hr aP (aj (aF 0) aC))) (jU rfl (bH (bV gw.nd) (bH (bV gw.nd) (bH (bV gw.nd) iy))))
  (aL (eE (Ke (Ri (cA (eF hu) (ao (aK (aq 4) (ao az))) (ao bT) (bL _)) (Oj (cA (Od hr) (ao (bB (aj (aK (aq 4) (ao az)) (aj (aK (aq 4) (ao az)) aC)))) (aq 2) (by with_unfolding_all rfl)))))
  (aD (KY 2 hr zU (bB (aj (aK (aq 4) (ao az)) (aj (aK (aq 4) (ao az)) aC))))
  (aD (bQ gw.nd (ir gh rfl (B.1.no B.2.n13) iU (aQ (ao (ie (iz (aN pW) ["_law_word", "_law_part"] [] 2 [] rfl (by trivial) .nil (qx (xf (aK (aq 4) (ao az)))) (λ_ _ _ _ _ _=>(jU rfl (bH (bV (nds rfl)) (bH (bV (nds rfl)) iy)))) (λ_ _ _ _ _ _=>fD) (λ_ _ _ _ _ _=>(aF 0))))) aV)))
  (aL (gG 1 (bB (aj (aK (aq 4) (ao az)) (aj (aK (aq 4) (ao az)) (aj (aF 6) (aj (aK (aq 5) (ao (aH dD (ao (aK (aq 4) (ao az))) (ao az)))) aC)))))))))
  bU)))
  (aL (rY 1)))))
theorem qw:FF P w K mg base 2 "_law_plus" ["_law_one", "_law_other"] gf:=B.2.q35.ff B.1 λ_ _ Fu=>
 bC Fu IV λ_ _ _ _ _ _ hr=>by
 unfold qR rP
 exact (aL (bK (aZ (dw B) hr aP (aj (aH bR (ao (aH dm (ao (aK (aq 0) (ao az))) (ao (aK (aq 1) (ao az))))) (ao (aH dm (ao (aK (aq 1) (ao az))) (ao (aK (aq 0) (ao az)))))) (aj (aH dm (ao (aK (aq 0) (ao az))) (ao (aK (aq 1) (ao az)))) aC)))))
theorem oU:FF P w K mg base 2 "_law_times" ["_law_one", "_law_other"] gk:=B.2.q36.ff B.1 λ_ _ Fu=>
 bC Fu Fp λ_ _ _ _ _ _ hr=>by
 unfold pU qe
 exact (aL (bK (aZ (dw B) hr aP (aj (aH dm (ao (aK (aq 0) (ao az))) (ao (aK (aq 1) (ao az)))) (aj (aH dm (ao (aK (aq 0) (ao az))) (ao (aK (aq 1) (ao az)))) aC)))))
theorem oN:FF P w K mg base 2 "_law_parts" ["_law_number", "_law_many"] gm:=B.2.q37.ff B.1 λ_ _ Fu=>
 bC Fu mq λ_ _ _ _ _ _ hr=>by
 have hu:=hr.units
 unfold uQ mF
 exact (aD (lF mq.nd (fP aC))
  (aD (lZ (gK rfl (B.1.no B.2.n10) (aQ (aq 1) aV)) (bV mq.nd)
  (aD (gG 2 (aK (ao (ie (fP (aj (aH bx (ao (aH cV (aq 0) (ao az))) (ao az)) (aj (aH bx (ao (aH cV (aq 0) (ao az))) (ao az)) (aj az (aj (aH bx (ao (aH cV (aq 0) (ao az))) (ao az)) aC))))))) (ao (aH bx (aq 0) (ao az)))))
  (aL (bQ mq.nd (aH bx (ao (aH dm (aq 0) (ao az))) (ao az))))))
  (aD (eE (cA (eF hu) (ao (cu (wK rfl) rfl (B.1.no B.2.n12) JN (aQ (aq 2) aV))) (ao az) (bL _))
  (aL (zx 2 az (aH bx (aq 0) (aq 1))))
  bU)
  (aL (bK (ir gh rfl (B.1.no B.2.n13) iU (aQ (ao (ie (iz (aN qy) ["_law_part", "_law_parts_here"] ["_law_parts_here"] 1 [2] rfl (by trivial) (.cons rfl .nil) (qP (aq 2)) (λ_ _ _ _ _ _=>(bV (nds rfl))) (λ_ _ _ _ _ _=>fD) (λ_ _ _ _ _ _=>(aZ (dw B) hr Cm (aj (aF 0) (aj (cu (wK rfl) rfl (B.1.no B.2.n12) JN (aQ (aq 1) aV)) aC))))))) aV)))))))
theorem vD:FF P w K mg base 3 "_law_plan" ["_law_rows", "_law_side", "_law_cell"] rQ:=B.2.q38.ff B.1 λ_ _ Fu=>
 bC Fu qW λ_ _ _ _ _ _ hr=>by
 have hu:=hr.units
 unfold xT oh
 exact (aD (lF qW.nd GC)
  (aD (lZ (gK rfl (B.1.no B.2.n10) (aQ (ao (cu dg rfl (B.1.no B.2.n8) iK (aQ (aq 0) aV))) aV)) (bV qW.nd)
  (aL (eE (cA (eF hu) (ao (aK (ao (aK (aq 0) (aq 4))) (ao az))) (aq 1) (bL _))
  (aL (sI 3 hr (aZ (oN B) hr aP (aj (aZ (jm B) hr aP (aj (aF 2) (aj (aH bR (ao (aH dm (ao az) (aq 4))) (ao az)) aC))) (aj (cu dg rfl (B.1.no B.2.n8) iK (aQ (ao (aK (ao (aK (aq 0) (aq 4))) (ao az))) aV)) aC))) (aK (ao (aK (aq 0) (aq 4))) (ao az))))
  bU)))
  (aL (rY 3))))
theorem mz:FF P w K mg base 35 "_law_with" ["_law_game_here", "_law_plans", "_law_side", "_law_name", "_law_shares_here"] dO:=B.2.q39.ff B.1 λ_ _ Fu=>
 bC Fu ye λ_ _ _ _ _ _ hr=>by
 unfold xU lC
 exact (TQ 5 6 ye.nd rfl (Or.inl rfl) (Hu (mQ yl rfl (B.1.no B.2.n4) Ei (aQ (ao (aK (aq 1) (ao az))) aV)) (Hu (mQ yl rfl (B.1.no B.2.n4) Ei (aQ (ao (aK (aq 1) (ao az))) aV)) VM))
  (aD (Jm hr (aF 4) (aK (aq 5) (ao (aH dD (aq 2) (ao az)))) (aF 3))
  (aL (bK (Z7 (wO B) hr aP (aQ (aq 0) (aQ (xj 6 (aK (aq 5) (ao az))) (aQ (xj 7 (aK (aq 5) (ao az))) aV))))))))
theorem pP:FF P w K mg base 3 "_law_mixed_up" ["_law_weight", "_law_one", "_law_other"] fj:=B.2.q40.ff B.1 λ_ _ Fu=>
 bC Fu qG λ_ _ _ _ _ _ hr=>by
 unfold lM lJ
 exact (aD (bQ qG.nd (aZ (qw B) hr aP (aj (bB (aj az (aj az aC))) (aj (bB (aj (aH dD (ao az) (ao (aK (aq 0) (ao az)))) (aj (aK (aq 0) (ao az)) aC))) aC))))
  (aL (bK (aZ (qw B) hr aP (aj (aZ (oU B) hr aP (aj (aF 0) (aj (aF 1) aC))) (aj (aZ (oU B) hr aP (aj (aF 3) (aj (aF 2) aC))) aC))))))
theorem YB {f:Addr}{fd:FuncData}(Fu:Fun K "law" "law" xV f fd):
  o7 P w K mg base (CX1 P w) 36 f fd ["_law_script"] (spF ⟨K,mg⟩ Yq):=
 bC Fu gY λ_ _ _ _ _ _ hr=>by
 have hu:=hr.units
 unfold UL Yk
 exact (aD (bQ gY.nd (aZ (Eg B) hr aP (aj (aZ (dM B) hr aP (aj (aF 0) (aj az aC))) (aj (aZ (dM B) hr aP (aj (aF 0) (aj az aC))) aC))))
  (aD (bQ gY.nd (aZ (dM B) hr aP (aj (aF 0) (aj az aC))))
  (aD (bQ gY.nd (aZ (Em B) hr aP (aj (aH bR (ao (uP (aq 0) (vZ (ao az)) (vZ (ao az)))) (ao (ie (fP (aj (aZ (dM B) hr aP (aj (aF 0) (aj az aC))) aC))))) (aj (aF 2) (aj az (aj az (aj (aF 1) aC)))))))
  (aD (bQ gY.nd (aZ (BL B) hr aP (aj (aF 3) aC)))
  (aD (bQ gY.nd (ie (fP (aj (aZ (vD B) hr aP (aj (aF 4) (aj az (aj (aZ (dM B) hr aP (aj (aF 0) (aj az aC))) aC)))) (aj (aZ (vD B) hr aP (aj (aF 4) (aj az (aj (aZ (dM B) hr aP (aj (aF 0) (aj az aC))) aC)))) aC)))))
  (aD (eE (cA (eF hu) (aq 4) (ao (ie (fP aC))) (bL _))
  (aL (bK (qm (eF hu) (ao (aZ (wO B) hr aP (aj (aF 3) (aj (aK (aq 5) (ao az)) (aj (aK (aq 5) (ao az)) aC))))) (ao (aZ (wO B) hr aP (aj (aF 3) (aj (ie GC) (aj (ie GC) aC))))) (bL _))))
  bU)
  (aD (Zw (k:=1000) (aK (aq 4) (ao (aH bx (ao (aH cV (aq 2) (ao az))) (ao (cu dg rfl (B.1.no B.2.n8) iK (aQ (aq 4) aV)))))) (jU rfl (bH (bV gY.nd) (bH (bV gY.nd) (bH (bV gY.nd) (bH (bV gY.nd) iy))))))
  (aD (bQ gY.nd (cu dg rfl (B.1.no B.2.n8) iK (aQ (aq 8) aV)))
  (aD (bQ gY.nd (aZ (dM B) hr aP (aj (aF 0) (aj az aC))))
  (aD (bQ gY.nd (aZ (oN B) hr aP (aj (aZ (jm B) hr aP (aj (aF 11) (aj az aC))) (aj (aF 10) aC))))
  (aD (bQ gY.nd (aZ (oN B) hr aP (aj (aZ (jm B) hr aP (aj (aF 11) (aj az aC))) (aj (aF 10) aC))))
  (aD (bQ gY.nd (aZ (dw B) hr aP (aj (aH bx (aq 11) (ao az)) (aj az aC))))
  (aD (eE (cA (eF hu) (ao (aH bx (aq 11) (ao az))) (ao az) (bL _))
  (aL (bQ gY.nd (aZ (dw B) hr aP (aj (aH bx (ao (aH cV (aq 11) (ao az))) (ao az)) (aj az aC)))))
  bU)
  (aD (bQ gY.nd (ir gh rfl (B.1.no B.2.n13) iU (aQ (ao (ie (iz (aN xV) ["_law_k", "_law_weight", "_law_one", "_law_other"] ["_law_weight", "_law_one", "_law_other"] 1 [14,12,13] rfl (by trivial) (.cons rfl (.cons rfl (.cons rfl .nil))) (qx (gK rfl (B.1.no B.2.n10) (aQ (aq 10) aV))) (λ_ _ _ _ _ _=>(bV (nds rfl))) (λ_ _ _ _ _ _=>fD) (λ_ _ _ _ _ _=>(aZ (pP B) hr Cm (aj (aF 1) (aj (aK (aq 2) (aq 0)) (aj (aK (aq 3) (aq 0)) aC)))))))) aV)))
  (aD (bQ gY.nd (aZ (mz B) hr aP (aj (aF 3) (aj (aF 5) (aj (aF 6) (aj (aF 7) (aj (aF 12) aC)))))))
  (aD (bQ gY.nd (aZ (mz B) hr aP (aj (aF 3) (aj (aF 5) (aj (aF 6) (aj (aF 7) (aj (aF 13) aC)))))))
  (aD (eE (cA (rO hu) (ao (aZ (mz B) hr aP (aj (aF 3) (aj (aF 5) (aj (aF 6) (aj (aF 7) (aj (aF 15) aC))))))) (ao (aZ (pP B) hr aP (aj (aF 14) (aj (aF 16) (aj (aF 17) aC))))) (bL _))
  (aL (bK zU))
  bU)
  (aD (bQ gY.nd (bB (aj az (aj az aC))))
  (aD (lZ (gK rfl (B.1.no B.2.n10) (aQ (aq 10) aV)) (bV gY.nd)
  (aD (bQ gY.nd (ir gh rfl (B.1.no B.2.n13) iU (aQ (ao (ie (iz (aN xV) ["_law_j", "_law_k"] ["_law_k"] 1 [19] rfl (by trivial) (.cons rfl .nil) (qx (gK rfl (B.1.no B.2.n10) (aQ (aq 10) aV))) (λ_ _ _ _ _ _=>(bV (nds rfl))) (λ_ _ _ _ _ _=>fD) (λ_ _ _ _ _ _=>(bB (aj (ir Qd rfl (B.1.no B.2.n6) S9 (aQ (ao (qm (eF hu) (aq 0) (aq 1) (bL _))) aV)) (aj az aC))))))) aV)))
  (aL (bQ gY.nd (aZ (qw B) hr aP (aj (aF 18) (aj (aZ (oU B) hr aP (aj (aK (aq 12) (aq 19)) (aj (aZ (mz B) hr aP (aj (aF 3) (aj (aF 5) (aj (aF 6) (aj (aF 7) (aj (aF 20) aC)))))) aC))) aC)))))))
  (aL (bK (qm (eF hu) (aq 18) (aq 16) (bL _)))))))))))))))))))))))
end
theorem all_mk {l:W.OpenLaw}{w:World}{K:W.Frag}{h:Heap}{mg:Zp}{fa:Addr}(X:K.In h)(G:h.Ns mainGlobals mg)(hfa:mg "law" = some (.ref fa))(Q:Qs K):
  ∃fd:FuncData,(∀(s:Shared) (v:Value),BindsTo s fd ⟨[v],[]⟩ [("_law_script",v)])/\∀base:Heap,K.In base->base.Ns mainGlobals mg->o7 l.prog w K mg base (CX1 l.prog w) 36 fa fd ["_law_script"] (Nk K):=by
 obtain ⟨f,fd,F0,a⟩:=Q.q41.ex
 have e:=hfa.symm.trans (W.mg_of X G a)
 cases e
 obtain ⟨oc,od,kV,doc,pm,an,cdv,ct,osl,rfl,lk,hcd⟩:=F0.ex
 refine ⟨W.fnOf "law" "law" (nW xV) (jz xV) (aN xV) .none kV doc pm an cdv ct,λs v=>.of_eq rfl,λbase kb nb=>?_⟩
 exact Vr QH (YB ⟨⟨kb,nb⟩,Q⟩ F0)
theorem walk {l:W.OpenLaw}{q:Program}{loose:List Str}{XP:(Zp)->Heap->Prop}{YP:World->Heap->Prop}{d:DefRec}{K:Params->W.Frag}(hn:l.most=some 63)(hdf:d.params.defaults=[])
  (hY:∀(w:World) (h:Heap),YP w h->(K w.params).In h)
  (F:∀(w:World) (mg:Zp) (fa:Addr) (h:Heap),(K w.params).In h->h.Ns mainGlobals mg->mg d.name=some (.ref fa)->
   ∃fd:FuncData,(∀(s:Shared) (u:Value),BindsTo s fd ⟨[u],[]⟩ [("_law_script",u)])/\∀base:Heap,(K w.params).In base->base.Ns mainGlobals mg->o7 l.prog w (K w.params) mg base (CX1 l.prog w) 36 fa fd ["_law_script"] (Nk (K w.params))):
  W.WalkO q loose XP YP l.row.toRowW d [] (λf vs=>PySem.call f vs):=
 L2.Wl (n:=63) (k:=36) (x:="_law_script") (CX:=λw=>CX1 l.prog w) (sp:=λw=>Nk (K w.params)) hn (by decide) hdf ⟨rfl,by decide,by decide,rfl⟩ hY F (λ_ _ a ns hl _ hS=>⟨a,ns,rfl,hS,hl,λ_=>rfl⟩) λ_ _ _ _ _ ⟨_,_,_,_,_,_,z⟩=>z.elim
end K21
namespace PySem.W.Fast
theorem tw10582107428008765216:True:=⟨⟩
theorem tw584908910443256987:True:=⟨⟩
theorem tw13614183155351901797:True:=⟨⟩
theorem tw3868424494914348789:True:=⟨⟩
theorem tw13137611018190380591:True:=⟨⟩
theorem tw15752432772162417727:True:=⟨⟩
theorem tw16143907397146689111:True:=⟨⟩
theorem tw14167622041949356587:True:=⟨⟩
theorem tw3904396101567097893:True:=⟨⟩
theorem tw11367882127327920573:True:=⟨⟩
theorem tw17502608600585362059:True:=⟨⟩
theorem tw4823991820247347673:True:=⟨⟩
theorem tw3669922200985233110:True:=⟨⟩
theorem tw10553660168676473437:True:=⟨⟩
theorem tw7991654882033961074:True:=⟨⟩
theorem tw12010690078774817045:True:=⟨⟩
theorem tw17145030562204622174:True:=⟨⟩
theorem tw8862481216095264193:True:=⟨⟩
theorem tw9751714431372164131:True:=⟨⟩
theorem tw995146181564077483:True:=⟨⟩
theorem tw11057614595954720387:True:=⟨⟩
theorem tw7998523045954880462:True:=⟨⟩
theorem tw6443908135490800678:True:=⟨⟩
theorem tw10461176066432743671:True:=⟨⟩
theorem tw8082973279362326928:True:=⟨⟩
theorem tw8784623038673410448:True:=⟨⟩
theorem tw36071531123454198:True:=⟨⟩
theorem tw10678242820666128645:True:=⟨⟩
theorem tw1478566879669424565:True:=⟨⟩
theorem tw9576020410481764716:True:=⟨⟩
theorem tw5665872200497946464:True:=⟨⟩
theorem tw11550633545450118440:True:=⟨⟩
theorem tw16909416314546196405:True:=⟨⟩
theorem tw11369354380692235340:True:=⟨⟩
theorem tw4957776561281255134:True:=⟨⟩
theorem tw1114231996659546387:True:=⟨⟩
theorem tw6959071837329188635:True:=⟨⟩
theorem tw5043108071747419661:True:=⟨⟩
theorem tw15494620911984231162:True:=⟨⟩
theorem tw14143525282584203364:True:=⟨⟩
theorem tw3769231518184152996:True:=⟨⟩
theorem tw8033532047297954708:True:=⟨⟩
theorem tw12017149305988687458:True:=⟨⟩
theorem tw13627475284820003651:True:=⟨⟩
theorem tw9317269609644350507:True:=⟨⟩
theorem tw16349130556956913789:True:=⟨⟩
theorem tw1638674698283278214:True:=⟨⟩
theorem tw4993370639442600265:True:=⟨⟩
theorem tw17853378986601459766:True:=⟨⟩
theorem tw8036222849112496531:True:=⟨⟩
theorem tw14155421083445359764:True:=⟨⟩
theorem tw6962968240357721449:True:=⟨⟩
theorem tw10989073981322282203:True:=⟨⟩
theorem tw8764074489939184606:True:=⟨⟩
theorem tw5875917632239406119:True:=⟨⟩
theorem tw10750845443434145986:True:=⟨⟩
theorem tw12279609785554500503:True:=⟨⟩
theorem tw16437254882067803337:True:=⟨⟩
theorem tw7942990785064920348:True:=⟨⟩
theorem tw4874925678119307669:True:=⟨⟩
theorem tw13715962476118286727:True:=⟨⟩
theorem tw6231380952539359728:True:=⟨⟩
theorem tw9753604378462256880:True:=⟨⟩
theorem tw10994902731465379457:True:=⟨⟩
theorem tw16102841395176452264:True:=⟨⟩
theorem tw2411800919808222173:True:=⟨⟩
theorem tw14476377169835933734:True:=⟨⟩
theorem tw12619777983994444716:True:=⟨⟩
theorem tw16925570943861953860:True:=⟨⟩
theorem tw9377782155561912842:True:=⟨⟩
theorem tw15685979375873890926:True:=⟨⟩
theorem tw17463594365880614559:True:=⟨⟩
theorem tw15140919187070014398:True:=⟨⟩
theorem tw16509857123173206078:True:=⟨⟩
theorem tw8790479788445134621:True:=⟨⟩
end PySem.W.Fast
open PySem PySem.W PyProof.Rows
set_option maxRecDepth 100000 in
set_option maxHeartbeats 0 in
theorem PySem.Challenge.cw_hushduel_k21_straight_in_each_share_holds : PySem.Challenge.rw_hushduel_k21_straight_in_each_share.Holds := by
 w_on;o_law;k_head;(case hw=>w_witness2)
 k_fill
 refine K21.walk (l:=PySem.Challenge.rw_hushduel_k21_straight_in_each_share) rfl rfl (λw h Y=>PySem.W.kIn_of Y) ?F
 case F=>
  intro w mg fa h KX G hmg
  refine' K21.all_mk KX G hmg ⟨?_,?_,?_,?_,?_,?_,?_,?_,?_,?_,?_,?_,?_,?_,?_,?_,?_,?_,?_,?_,?_,?_,?_,?_,?_,?_,?_,?_,?_,?_,?_,?_,?_,?_,?_,?_,?_,?_,?_,?_,?_,?_,?_,?_,?_,?_,?_,?_,?_,?_,?_,?_,?_,?_,?_,?_,?_,?_,?_⟩
  all_goals try first | (refine' F.qd ?a ?l ?c ?k;(case a=>k_is);(case l=>k_is);(case c=>k_is);(case k=>k_is)) | (refine' F.ck ?a ?b;(case a=>k_is);(case b=>k_is)) | (unfold F.NO;k_is) | k_is
