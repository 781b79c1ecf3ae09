import PyProof.Rows.All
import Wide.All
import OpenK.AllK
import Wide.FinOn
import Lean
import PyProof.EqAt
import PyProof.EqKinds
import PyProof.TupleCall
import PyProof.TupleKey
import KE.KRevSl
import PyProof.P3Eq
import KE.LcSums
import PyProof.EnumMake
import PyProof.StrWalks
import PyProof.Conv_int_bool
import KE.KIntText
import PyProof.Rows.StrNews2
import PyProof.StrBlock2
import PyProof.Rows.StrNews
import PyProof.StrLawsRepr
import PyProof.ReprStr
import PyProof.ReprRoads
import PyProof.DictIter
import PyProof.Rows.SetFrom
import KE.KDictList
import KE.KDictOf
import PyProof.AttrMissHeap
import KE.KEqDict
import PyProof.DictItems
import KE.KPairComp
import PyProof.ZipIter
import PyProof.Rows.ZipGen
import PyProof.Rows.Range3
import PyProof.ListRange
import PyProof.FitsInt
import PyProof.ReprLen
import PySem.Challenge.RW_hushduel_k37_whole_second_wishes
set_option genSizeOf false
noncomputable section
theorem xq5 {A B C D E:Sort _}{R Q:A->B->C->D->E->Prop}{P:Prop}(h:∃a b c d e,R a b c d e/\Q a b c d e)(k:∀a b c d e,R a b c d e->Q a b c d e->P):P:=by
 obtain ⟨a,b,c,d,e,r,q⟩:=h
 exact k a b c d e r q
theorem xq7 {A B C D E F G:Sort _}{R Q S T:A->B->C->D->E->F->G->Prop}{P:Prop}(h:∃a b c d e f g,R a b c d e f g/\Q a b c d e f g/\S a b c d e f g/\T a b c d e f g)(k:∀a b c d e f g,R a b c d e f g->Q a b c d e f g->S a b c d e f g->T a b c d e f g->P):P:=by
 obtain ⟨a,b,c,d,e,f,g,r,q,s,t⟩:=h
 exact k a b c d e f g r q s t
theorem xq2 {A B:Sort _}{R Q S:A->B->Prop}{P:Prop}(h:∃a b,R a b/\Q a b/\S a b)(k:∀a b,R a b->Q a b->S a b->P):P:=by
 obtain ⟨a,b,r,q,s⟩:=h
 exact k a b r q s
set_option Elab.async false
set_option linter.all false
set_option maxRecDepth 100000
namespace L2
open PySem PySem.Spec PyProof.Rows
abbrev Key:=Sum Int Str
def K1:Key->Value->Bool
 | .inl k,v=>Value.isInt k v
 | .inr x,v=>Value.isStrOf x v
def Zj (w:World):Key->Int
 | .inl k=>hashInt k
 | .inr x=>hashStr w x
theorem cO:∀{k:Key} {v:Value},K1 k v=true->(∃i t,k=Sum.inl i/\v=Value.int i t)\/(∃x t,k=Sum.inr x/\v=Value.str x t)
 | .inl i,v,h=>by
  obtain ⟨t,e⟩:=Value.isInt_shape (k:=i) (v:=v) h
  exact .inl ⟨i,t,rfl,e⟩
 | .inr x,v,h=>by
  obtain ⟨t,e⟩:=Value.isStrOf_shape (x:=x) (v:=v) h
  exact .inr ⟨x,t,rfl,e⟩
theorem Wv (a b:Int):decide ((Sum.inl a:Key)=Sum.inl b)=(a == b):=by
 by_cases e:a=b
 ·subst e;simp
 ·have h:¬(Sum.inl a:Key)=Sum.inl b:=λq=>e (Sum.inl.inj q)
  rw [decide_eq_false h]
  exact (beq_eq_false_iff_ne.mpr e).symm
theorem Wh (a b:Str):decide ((Sum.inr a:Key)=Sum.inr b)=decide (a=b):=by
 by_cases e:a=b
 ·subst e;simp
 ·have h:¬(Sum.inr a:Key)=Sum.inr b:=λq=>e (Sum.inr.inj q)
  rw [decide_eq_false h,decide_eq_false e]
theorem Wb (a:Int)(b:Str):decide ((Sum.inl a:Key)=Sum.inr b)=false:=decide_eq_false (λq=>nomatch q)
theorem XF (a:Str)(b:Int):decide ((Sum.inr a:Key)=Sum.inl b)=false:=decide_eq_false (λq=>nomatch q)
def xO (prog:Program)(w:World):PySem.KeyKind prog w Key where
 is:=K1
 hash:=Zj w
 inj:=λv a b ha hb=>by
  rcases cO ha with ⟨i,t,rfl,rfl⟩ | ⟨x,t,rfl,rfl⟩
  ·rcases cO hb with ⟨j,u,rfl,e⟩ | ⟨y,u,rfl,e⟩
   ·injection e with e1 _;rw [e1]
   ·exact nomatch e
  ·rcases cO hb with ⟨j,u,rfl,e⟩ | ⟨y,u,rfl,e⟩
   ·exact nomatch e
   ·injection e with e1 _;rw [e1]
 byValue:=λk v h=>by
  rcases cO h with ⟨i,t,rfl,rfl⟩ | ⟨x,t,rfl,rfl⟩<;>rfl
 pyHash:=λhv h=>by
  rcases cO hv with ⟨i,t,rfl,rfl⟩ | ⟨x,t,rfl,rfl⟩
  ·exact wpAny_pyHash_int h
  ·exact wpAny_pyHash_str h
 eqBool:=λhu hv h=>by
  rcases cO hu with ⟨i,t,rfl,rfl⟩ | ⟨x,t,rfl,rfl⟩
  ·rcases cO hv with ⟨j,u,rfl,rfl⟩ | ⟨y,u,rfl,rfl⟩
   ·rw [Wv] at h;exact wpAny_eqBool_int h
   ·rw [Wb] at h;exact SeqAt.EqAt.int_str i t y u _ _ _ _ h
  ·rcases cO hv with ⟨j,u,rfl,rfl⟩ | ⟨y,u,rfl,rfl⟩
   ·rw [XF] at h;exact SeqAt.EqAt.str_int x t j u _ _ _ _ h
   ·rw [Wh] at h;exact wpAny_eqBool_str h
 «strs»:=λk x t v h=>by
  rcases cO h with ⟨i,u,rfl,e⟩ | ⟨y,u,rfl,e⟩
  ·exact nomatch e
  ·injection e with e1 _
   subst e1
   cases v<;>rfl
inductive Kt where
 |k (x:Key) | t (xs:List Kt)
mutual
def Kt.dec:(a b:Kt)->Decidable (a=b)
 | .k x,.k y=>if h:x=y then .isTrue (by rw [h]) else .isFalse λe=>h (by injection e)
 | .t xs,.t ys=>match Kt.decs xs ys with
  | .isTrue h=>.isTrue (by rw [h])
  | .isFalse h=>.isFalse λe=>h (by injection e)
 | .k _,.t _=>.isFalse λe=>nomatch e
 | .t _,.k _=>.isFalse λe=>nomatch e
def Kt.decs:(a b:List Kt)->Decidable (a=b)
 |[],[]=>.isTrue rfl
 |[],_::_=>.isFalse λe=>nomatch e
 |_::_,[]=>.isFalse λe=>nomatch e
 |x::xs,y::ys=>match Kt.dec x y,Kt.decs xs ys with
  | .isTrue h,.isTrue g=>.isTrue (by rw [h,g])
  | .isFalse h,_=>.isFalse λe=>h (by injection e)
  |_,.isFalse g=>.isFalse λe=>g (by injection e)
end
instance:DecidableEq Kt:=Kt.dec
mutual
def wB (w:World):Kt->Int
 | .k x=>Zj w x
 | .t xs=>reduceHash (Builtin.Tuple.tupleHashOf (pD w xs))
def pD (w:World):List Kt->List Int
 |[]=>[]
 |x::xs=>wB w x::pD w xs
end
mutual
def vQ:Kt->Nat
 | .k _=>1
 | .t xs=>gC xs+1
def gC:List Kt->Nat
 |[]=>0
 |x::xs=>vQ x+gC xs
end
def pI (h:Heap):Nat->Kt->Value->Prop
 |_,.k x,v=>K1 x v=true
 |0,.t _,_=>False
 |n+1,.t xs,v=>∃a o items m,v=.ref a/\h.get? a=some o/\o.cls=.type "tuple"/\o.data=.seq items m/\Paired (pI h n) xs items.toList
theorem oR {h:Heap}{n:Nat}{xs:List Kt}{v:Value}:pI h (n+1) (.t xs) v↔∃a o items m,v=.ref a/\h.get? a=some o/\o.cls=.type "tuple"/\o.data=.seq items m/\Paired (pI h n) xs items.toList:=by rw [pI]
theorem tY {h:Heap}{n:Nat}{x:Key}{v:Value}:pI h n (.k x) v↔K1 x v=true:=by cases n<;>rw [pI]
theorem Bh {α β:Type}{F G:α->β->Prop}(f:∀a b,F a b->G a b):∀{l:List α} {m:List β},Paired F l m->Paired G l m
 |_,_,.nil=>.nil
 |_,_,.cons r t=>.cons (f _ _ r) (Bh f t)
theorem Bk {α β:Type}{F:α->β->Prop}(f:∀x y b,F x b->F y b->x=y):∀{l l':List α} {m:List β},Paired F l m->Paired F l' m->l=l'
 |_,_,_,.nil,.nil=>rfl
 |_,_,_,.cons r t,.cons r' t'=>by rw [f _ _ _ r r',Bk f t t']
theorem Ag {h:Heap}:∀(n:Nat) (x y:Kt) (v:Value),pI h n x v->pI h n y v->x=y
 |n,.k x,.k y,v,hx,hy=>by
  rw [tY] at hx hy
  rcases cO hx with ⟨i,t,rfl,rfl⟩ | ⟨z,t,rfl,rfl⟩
  ·rcases cO hy with ⟨j,u,rfl,e⟩ | ⟨y,u,rfl,e⟩
   ·injection e with e1 _;rw [e1]
   ·exact nomatch e
  ·rcases cO hy with ⟨j,u,rfl,e⟩ | ⟨y,u,rfl,e⟩
   ·exact nomatch e
   ·injection e with e1 _;rw [e1]
 |0,.t _,_,_,hx,_=>by rw [pI] at hx;exact hx.elim
 |0,.k _,.t _,_,_,hy=>by rw [pI] at hy;exact hy.elim
 |n+1,.k x,.t ys,v,hx,hy=>by
  rw [tY] at hx
  obtain ⟨a,_,_,_,e,_⟩:=oR.mp hy
  subst e
  rcases cO hx with ⟨_,_,_,e⟩ | ⟨_,_,_,e⟩<;>exact nomatch e
 |n+1,.t xs,.k y,v,hx,hy=>by
  rw [tY] at hy
  obtain ⟨a,_,_,_,e,_⟩:=oR.mp hx
  subst e
  rcases cO hy with ⟨_,_,_,e⟩ | ⟨_,_,_,e⟩<;>exact nomatch e
 |n+1,.t xs,.t ys,v,hx,hy=>by
  obtain ⟨a,o,it,m,e,g,_,d,p⟩:=oR.mp hx
  obtain ⟨a',o',it',m',e',g',_,d',p'⟩:=oR.mp hy
  subst e
  injection e' with e'
  subst e'
  cases g.symm.trans g'
  rw [d] at d'
  injection d' with d' _
  subst d'
  rw [Bk (Ag n) p p']
theorem BR {h h':Heap}{d:Addr}{o:Obj}{es ep}(ho:h.get? d=some o)(hd:o.data=.dict es ep)(hs:Heap.SameBut d h h'):∀(n:Nat) (x:Kt) (v:Value),pI h n x v->pI h' n x v
 |n,.k x,v,hx=>by rw [tY] at hx ⊢;exact hx
 |0,.t _,_,hx=>by rw [pI] at hx;exact hx.elim
 |n+1,.t xs,v,hx=>by
  obtain ⟨a,o',it,m,e,g,c,dd,p⟩:=oR.mp hx
  have ne:a≠d:=by
   rintro rfl
   cases g.symm.trans ho
   rw [hd] at dd
   cases dd
  exact oR.mpr ⟨a,o',it,m,e,(hs.2 a ne).trans g,c,dd,Bh (BR ho hd hs n) p⟩
section
variable {pr:Program}{wo:World}{E:Value->Shared->Prop}
theorem yZ (w:World):∀xs:List Kt,pD w xs=xs.map (wB w)
 |[]=>by rw [pD];rfl
 |x::xs=>by rw [pD,yZ w xs];rfl
theorem xM:∀xs ys:List Kt,gC (xs++ys)=gC xs+gC ys
 |[],ys=>by rw [List.nil_append,gC,Nat.zero_add]
 |x::xs,ys=>by rw [List.cons_append,gC,gC,xM xs ys,Nat.add_assoc]
theorem Gr (x:Kt):gC [x]=vQ x:=by rw [gC,gC,Nat.add_zero]
theorem Dd:∀(n:Nat) {A:Around} {s:Shared} {x:Kt} {v:Value} {Q:Int->Shared->Prop},A.units+n<cLine->pI s.heap n x v->Q (wB wo x) { s with toks:=s.toks+vQ x }->wpAny (model pr wo) A (pyHash v) Q E s
 |n,A,s,.k x,v,Q,hu,hx,q=>by
  rw [tY] at hx
  rw [wB,vQ] at q
  exact (xO pr wo).pyHash hx q
 |0,_,_,.t _,_,_,_,hx,_=>by rw [pI] at hx;exact hx.elim
 |n+1,A,s,.t xs,v,Q,hu,hx,h=>by
  obtain ⟨a,o,items,m,e,ho,hc,hd,hi⟩:=oR.mp hx
  subst e
  have hT:s.TypeIs (.ref a) "tuple":=⟨o,ho,hc⟩
  rw [wB,vQ] at h
  unfold pyHash
  first | unfold pyHashByItsType | skip
  first | refine wpAny_bind (wpAny_cRoomFor_or (.inr (by omega)) ?_) | skip
  refine wpAny_bind (wpAny_specialOf hT PySem.F.slot_tuple_hash.lookup ?_)
  show wpAny _ _ (if (some (Value.builtin "tuple.__hash__") == some Value.none)=true then _ else _) Q E s
  rw [if_neg (by rw [beq_builtin_none];exact Bool.false_ne_true)]
  refine wpAny_bind (wpAny_specialOf hT PySem.F.slot_tuple_hash.lookup ?_)
  show wpAny _ _ (callSpecialIfBoundUnlessNone? (.ref a) "__hash__" _ >>= _) Q E s
  refine wpAny_bind (wpAny_callSpecialIfBoundUnlessNone?_slot hT PySem.F.slot_tuple_hash (wpAny_call_entry PySem.F.slot_tuple_hash hT PySem.F.entry_tuple_hash ?_ (PySem.F.args_tuple_hash_1 _)))
  show wpAny _ _ (Builtin.Tuple.tupleItemsOf (.ref a) >>= _) _ _ s
  refine wpAny_bind (wpAny_tupleItemsOf ho hd ?_)
  refine wpAny_bind ?_
  rw [← Array.forIn_toList]
  refine wpAny_forIn_list _
   (λrest (b:Array Int) s'=>∃done left,xs=done++left/\Paired (pI s.heap n) left rest/\b.toList=done.map (wB wo)/\s'={ s with toks:=s.toks+gC done })
   _ ?_ ?_ _ _ ⟨[],xs,rfl,hi,rfl,by rw [gC];rfl⟩
  ·rintro x rest b s' ⟨done,left,rfl,hl,hb,rfl⟩
   cases hl with
   | @cons k _ ks' _ h1 hl'=>
    refine wpAny_bind (Dd n (A:=A.in1) (show A.units+1+n<cLine by omega) (s:={ s with toks:=s.toks+gC done }) h1 ?_)
    refine wpAny_pure ⟨done++[k],ks',by simp,hl',by simp [hb],?_⟩
    rw [xM,Gr,Nat.add_assoc]
  ·rintro b s' ⟨done,left,rfl,hl,hb,rfl⟩
   cases hl
   rw [List.append_nil] at h
   show wpAny _ _ (retInt (Builtin.Tuple.tupleHashOf b.toList)) _ _ _
   rw [hb,← yZ]
   refine wpAny_ret_mkInt ?_
   show wpAny _ _ (if (decide (-(2:Int) ^ 63<=Builtin.Tuple.tupleHashOf (pD wo done)) && decide (Builtin.Tuple.tupleHashOf (pD wo done)<2 ^ 63))=true then _ else _) Q E _
   unfold reduceHash at h
   by_cases hr:(decide (-(2:Int) ^ 63<=Builtin.Tuple.tupleHashOf (pD wo done)) && decide (Builtin.Tuple.tupleHashOf (pD wo done)<2 ^ 63))=true
   ·rw [if_pos hr]
    rw [if_pos hr] at h
    exact wpAny_pure (by simpa [Nat.add_assoc] using h)
   ·rw [if_neg hr]
    rw [if_neg hr] at h
    exact wpAny_bind (wpAny_rule (wpAny_pure (by simpa [Nat.add_assoc] using h)))
def u6 (xs ys:List Kt)(j:Nat):Bool:=match xs[j]?,ys[j]? with
 |some x,some y=>decide (x=y)
 |_,_=>true
theorem Ce:∀xs ys:List Kt,((List.range (min xs.length ys.length)).all (u6 xs ys) && xs.length == ys.length)=decide (xs=ys)
 |[],[]=>by simp
 |[],_::_=>by simp
 |_::_,[]=>by simp
 |x::xs,y::ys=>by
  have ih:=Ce xs ys
  rw [List.length_cons,List.length_cons,Nat.succ_min_succ,List.range_succ_eq_map,List.all_cons,List.all_map]
  have e:(u6 (x::xs) (y::ys) ∘ Nat.succ)=u6 xs ys:=by funext j;simp [u6]
  rw [e]
  have e0:u6 (x::xs) (y::ys) 0=decide (x=y):=by simp [u6]
  rw [e0,Bool.and_assoc]
  have e1:((xs.length+1 == ys.length+1):Bool)=(xs.length == ys.length):=by simp
  rw [e1,ih]
  by_cases a:x=y<;>by_cases b:xs=ys<;>simp [a,b]
theorem yD {α β:Type}{F:α->β->Prop}:∀{l:List α} {m:List β} (j:Nat) (h:j<m.length),Paired F l m->∃a,l[j]? = some a/\F a m[j]
 |_,_,j,h,.nil=>absurd h (Nat.not_lt_zero _)
 |_,_,0,_,.cons r _=>⟨_,rfl,r⟩
 |_,_,j+1,h,.cons _ t=>by
  obtain ⟨a,h1,h2⟩:=yD j (by simpa using h) t
  exact ⟨a,by simpa using h1,by simpa using h2⟩
theorem Mu:∀(n:Nat) (A:Around) (s:Shared) (x y:Kt) (v u:Value),A.units+n<cLine->pI s.heap n x v->pI s.heap n y u->SeqAt.EqAt A s v u (decide (x=y))
 |n,A,s,.k x,.k y,v,u,hu,hx,hy=>by
  rw [tY] at hx hy
  intro pr wo E Q q
  refine (xO pr wo).eqBool (a:=x) (b:=y) hx hy ?_
  have e:decide (Kt.k x=Kt.k y)=decide (x=y):=decide_eq_decide.mpr ⟨λe=>by injection e,λe=>by rw [e]⟩
  rw [← e]
  exact q
 |0,_,_,.t _,_,_,_,_,hx,_=>by rw [pI] at hx;exact hx.elim
 |0,_,_,.k _,.t _,_,_,_,_,hy=>by rw [pI] at hy;exact hy.elim
 |n+1,A,s,.k x,.t ys,v,u,hu,hx,hy=>by
  rw [tY] at hx
  obtain ⟨a,o,it,m,e,g,c,d,_⟩:=oR.mp hy
  subst e
  have hl:s.heap.IsTuple a it:=⟨o,g,c,m,d⟩
  rw [show decide (Kt.k x=Kt.t ys)=false from decide_eq_false λe=>nomatch e]
  rcases cO hx with ⟨i,t,rfl,rfl⟩ | ⟨z,t,rfl,rfl⟩
  ·exact SeqAt.EqAt.int_tuple i t hl (by omega)
  ·exact SeqAt.EqAt.str_tuple z t hl (by omega)
 |n+1,A,s,.t xs,.k y,v,u,hu,hx,hy=>by
  rw [tY] at hy
  obtain ⟨a,o,it,m,e,g,c,d,_⟩:=oR.mp hx
  subst e
  have hl:s.heap.IsTuple a it:=⟨o,g,c,m,d⟩
  rw [show decide (Kt.t xs=Kt.k y)=false from decide_eq_false λe=>nomatch e]
  rcases cO hy with ⟨i,t,rfl,rfl⟩ | ⟨z,t,rfl,rfl⟩
  ·exact SeqAt.EqAt.tuple_int i t hl (by omega)
  ·exact SeqAt.EqAt.tuple_str z t hl (by omega)
 |n+1,A,s,.t xs,.t ys,v,u,hu,hx,hy=>by
  have hx':=hx
  have hy':=hy
  obtain ⟨a,o,it,m,e,g,c,d,p⟩:=oR.mp hx
  obtain ⟨a',o',it',m',e',g',c',d',p'⟩:=oR.mp hy
  subst e e'
  by_cases ne:a=a'
  ·subst ne
   rw [Ag _ _ _ _ hx' hy',decide_eq_true rfl]
   exact SeqAt.EqAt.same _
  ·have hl:s.heap.IsTuple a it:=⟨o,g,c,m,d⟩
   have hl':s.heap.IsTuple a' it':=⟨o',g',c',m',d'⟩
   have n1:it.size=xs.length:=by have:=Paired.length p;simpa using this.symm
   have n2:it'.size=ys.length:=by have:=Paired.length p';simpa using this.symm
   have e2:decide (Kt.t xs=Kt.t ys)=decide (xs=ys):=decide_eq_decide.mpr ⟨λe=>by injection e,λe=>by rw [e]⟩
   rw [e2,← Ce xs ys,← n1,← n2]
   refine SeqAt.EqAt.of_refs ne (SeqAt.RcAt.tuples hl hl' (by omega) λj j1 j2=>?_)
   obtain ⟨b,q1,q2⟩:=yD j (by simpa using j1) p
   obtain ⟨b',r1,r2⟩:=yD j (by simpa using j2) p'
   have:u6 xs ys j=decide (b=b'):=by unfold u6;rw [q1,r1]
   rw [this]
   exact Mu n A.in1 s b b' _ _ (show A.units+1+n<cLine by omega) (by simpa using q2) (by simpa using r2)
theorem Kq:∀(n:Nat) {A:Around} {s:Shared} {x:Kt} {v:Value} {Q:Bool->Shared->Prop},pI s.heap n x v->Q true s->wpAny (model pr wo) A (eqIsQuiet n v) Q E s
 |n,A,s,.k x,v,Q,hx,q=>by
  rw [tY] at hx
  rw [eqIsQuiet_byValue _ ((xO pr wo).byValue _ _ hx)]
  exact wpAny_pure q
 |0,_,_,.t _,_,_,hx,_=>by rw [pI] at hx;exact hx.elim
 |n+1,A,s,.t xs,v,Q,hx,h=>by
  obtain ⟨a,o,items,m,e,ho,hc,hd,hi⟩:=oR.mp hx
  subst e
  have hT:s.TypeIs (.ref a) "tuple":=⟨o,ho,hc⟩
  unfold eqIsQuiet
  refine wpAny_bind (wpAny_specialOf hT PySem.F.slot_tuple_eq.lookup ?_)
  show wpAny _ _ (isInstance (.ref a) (.type "tuple") >>= _) _ _ s
  refine wpAny_bind (wpAny_isInstance hT isSubtype_tuple_tuple ?_)
  simp only [Bool.not_true,Bool.false_eq_true,if_false]
  refine wpAny_bind (wpAny_seqItems ho hd (wpAny_bind ?_))
  show wpAny _ _ (forIn items _ _) _ _ s
  rw [← Array.forIn_toList]
  refine wpAny_forIn_list _ (λrest r s'=>r.1=none/\s'=s/\∃ks,Paired (pI s.heap n) ks rest) _ ?_ ?_ _ _ ⟨rfl,rfl,xs,hi⟩
  ·rintro v rest r s' ⟨hr,rfl,ks,al⟩
   cases al with
   |cons h1 al'=>
    refine wpAny_bind (Kq n h1 ?_)
    simp only [Bool.not_true,Bool.false_eq_true,if_false]
    exact wpAny_pure ⟨rfl,rfl,_,al'⟩
  ·rintro ⟨r1,r2⟩ s' ⟨hr,rfl,_⟩
   simp only at hr
   subst hr
   exact wpAny_pure h
end
def Rv (pr:Program)(wo:World):HeapKind pr wo (List Kt) where
 is:=λh ks a=>pI h 8 (.t ks) (.ref a)
 hash:=λks=>wB wo (.t ks)
 draws:=λks=>vQ (.t ks)
 room:=λA=>A.units+8<cLine
 inj:=λa b=>by have:=Ag _ _ _ _ a b;injection this
 keeps:=λx a b c=>BR a b c _ _ _ x
 pyHash:=λa b c=>Dd 8 a b c
 eqBool:=λ{A E s x y a b Q} h1 h2 h3 h4=>by
  refine Mu 8 A s _ _ _ _ h1 h2 h3 _ _ _ _ ?_
  rw [show decide (Kt.t x=Kt.t y)=decide (x=y) from decide_eq_decide.mpr ⟨λe=>by injection e,λe=>by rw [e]⟩]
  exact h4
 quiet:=λa b=>Kq 8 a b
inductive V where
 |non | bl (b:Bool) | int (i:Int) | str (x:Str) | byt (b:Array UInt8) | flt (b:UInt64) | ref (a:Addr) | ty (n:String)
 deriving DecidableEq
def RelV:V->Value->Prop
 | .non,u=>u=Value.none
 | .bl b,u=>u=Value.bool b
 | .int i,u=>∃t,u=Value.int i t
 | .str x,u=>∃t,u=Value.str x t
 | .byt b,u=>∃t,u=Value.bytes b t
 | .flt b,u=>∃t,u=Value.float b t
 | .ref a,u=>u=Value.ref a
 | .ty n,u=>u=Value.type n
abbrev Vals:List V->List Value->Prop:=Paired RelV
theorem Vals.length {xs:List V}{us:List Value}(r:Vals xs us):xs.length=us.length:=Paired.length r
theorem Vals.get:∀{xs:List V} {us:List Value} {i:Nat} {x:V},Vals xs us->xs[i]? = some x->∃u,us[i]? = some u/\RelV x u
 |_,_,_,_,.nil,e=>by simp at e
 |_,_,0,_,.cons r _,e=>by simp at e;subst e;exact ⟨_,rfl,r⟩
 |_,_,i+1,x,.cons _ t,e=>by
  obtain ⟨u,h1,h2⟩:=Vals.get (i:=i) (x:=x) t (by simpa using e)
  exact ⟨u,by simpa using h1,h2⟩
theorem Vals.set {x:V}{u:Value}(r:RelV x u):∀{xs:List V} {us:List Value} (i:Nat),Vals xs us->Vals (xs.set i x) (us.set i u)
 |_,_,_,.nil=>.nil
 |_,_,0,.cons _ t=>.cons r t
 |_,_,i+1,.cons q t=>.cons q (Vals.set r i t)
theorem Vals.append:∀{xs ys:List V} {us ws:List Value},Vals xs us->Vals ys ws->Vals (xs++ys) (us++ws)
 |_,_,_,_,.nil,s=>s
 |_,_,_,_,.cons r t,s=>.cons r (Vals.append t s)
theorem Vals.take:∀{xs:List V} {us:List Value} (n:Nat),Vals xs us->Vals (xs.take n) (us.take n)
 |_,_,0,_=>.nil
 |_,_,_+1,.nil=>.nil
 |_,_,n+1,.cons r t=>.cons r (Vals.take n t)
theorem Vals.drop:∀{xs:List V} {us:List Value} (n:Nat),Vals xs us->Vals (xs.drop n) (us.drop n)
 |_,_,0,r=>r
 |_,_,_+1,.nil=>.nil
 |_,_,n+1,.cons _ t=>Vals.drop n t
def zz:Option V->Option Value->Prop
 |some v,some u=>RelV v u
 |none,none=>True
 |_,_=>False
def KV {κ:Type}:List (κ×V)->List (κ×Value)->Prop:=Paired λ(p:κ×V) (q:κ×Value)=>p.1=q.1/\RelV p.2 q.2
def kV:Key->V
 | .inl i=>.int i
 | .inr x=>.str x
inductive HO where
  |lst (xs:List V)
  |tup (xs:List V)
  |dK (kvs:List (Key×V)) | dT (T:Addr->List V->Prop) (kvs:List (List Kt×V))
  |set (S:Int->Bool) (n:Nat)
  |ins (C dx:Addr) (fs:List (Str×V))
  |own (x:Addr)
  |xd (fs:List (Str×V))
  |met (f x:Addr)
  |rng (lo hi:Int)
  |frz (o:Obj) (u:HO)
  |tbl (ps:Array Value)
  |ext (φ:Heap->Prop)
abbrev Hp:=Addr->Option HO
def upd (H:Hp)(a:Addr)(o:HO):Hp:=λb=>if b=a then some o else H b
theorem bY {H:Hp}{a:Addr}{o:HO}:upd H a o a=some o:=by unfold upd;rw [if_pos rfl]
theorem bj {H:Hp}{a b:Addr}{o:HO}(h:b≠a):upd H a o b=H b:=by unfold upd;rw [if_neg h]
theorem mG {H:Hp}{a b:Addr}{o:HO}(h:H a=some o)(h':H b=none):a≠b:=by
 intro e;subst e;rw [h] at h';cases h'
mutual
inductive Iu (T:Addr->List V->Prop)(H:Hp):Nat->V->Kt->Prop where
 |k {n:Nat} {x:Key}:Iu T H n (kV x) (.k x)
 |t {n:Nat} {b:Addr} {vs:List V} {ks:List Kt}:(H b=some (.tup vs)\/T b vs)->v8 T H n vs ks->Iu T H (n+1) (.ref b) (.t ks)
inductive v8 (T:Addr->List V->Prop)(H:Hp):Nat->List V->List Kt->Prop where
 |nil {n:Nat}:v8 T H n [] []
 |cons {n:Nat} {v:V} {vs:List V} {k:Kt} {ks:List Kt}:Iu T H n v k->v8 T H n vs ks->v8 T H n (v::vs) (k::ks)
end
def TrT (T:Addr->List V->Prop)(H:Hp)(b:Addr)(ks:List Kt):Prop:=∃vs,(H b=some (.tup vs)\/T b vs)/\v8 T H 7 vs ks
section
variable {T:Addr->List V->Prop}{H H':Hp}
mutual
theorem Iu.imp (ht:∀b xs,H b=some (.tup xs)->H' b=some (.tup xs)):∀{n:Nat} {v:V} {k:Kt},Iu T H n v k->Iu T H' n v k
 |_,_,_,.k=>.k
 |_,_,_,.t h hs=>.t (h.imp (ht _ _) id) (v8.imp ht hs)
theorem v8.imp (ht:∀b xs,H b=some (.tup xs)->H' b=some (.tup xs)):∀{n:Nat} {vs:List V} {ks:List Kt},v8 T H n vs ks->v8 T H' n vs ks
 |_,_,_,.nil=>.nil
 |_,_,_,.cons h hs=>.cons (Iu.imp ht h) (v8.imp ht hs)
end
theorem TrT.imp {b:Addr}{ks:List Kt}(h:TrT T H b ks)(ht:∀b xs,H b=some (.tup xs)->H' b=some (.tup xs)):TrT T H' b ks:=
 let ⟨vs,h1,h2⟩:=h;⟨vs,h1.imp (ht _ _) id,h2.imp ht⟩
end
section
variable (P:Program)(w:World)
def ie (H:Hp)(h:Heap)(a:Addr):HO->Prop
 | .lst xs=>xs.length<=sizeLine/\∃(its:List Value) (n:Nat),Vals xs its/\h.get? a=some { cls:=.type "list",data:=.seq its.toArray n }
 | .tup xs=>xs.length<=sizeLine/\∃its:List Value,Vals xs its/\IsTup h a its.toArray
 | .dK kvs=>kvs.length<=sizeLine/\(a == sysModules)=false/\∃vs,KV kvs vs/\h.DictOf (xO P w) a vs
 | .dT T kvs=>kvs.length<=sizeLine/\(a == sysModules)=false/\∃xs:List (List Kt×Addr×Value),
   Paired (λ(p:List Kt×V) (q:List Kt×Addr×Value)=>p.1=q.1/\TrT T H q.2.1 p.1/\RelV p.2 q.2.2) kvs xs/\
   ∃o es ep,h.get? a=some o/\o.ExactDict/\o.data=.dict es ep/\es.toList=xs.map (entryOfKey (Rv P w))/\(xs.map (·.1)).Nodup
 | .set S n=>h.SetOf (intKind P w) a S n
 | .ins C dx fs=>H dx=some (.own a)/\fs.length<=1000/\dx≠a/\h.get? a=some (W.instObj C dx)/\
   ∃mA,h.Ns1 dx mA/\(∀f,zz (fs.lookup f) (mA f))/\PySem.Within mA (fs.map (·.1))
 | .own _=>∃o,h.get? a=some o
 | .xd fs=>∃mA,h.Ns1 a mA/\∀f,zz (fs.lookup f) (mA f)
 | .rng lo hi=>∃t u v,h.get? a=some { cls:=.type "range",data:=.fields #[.int lo t,.int hi u,.int 1 v] }
 | .frz o u=>h.get? a=some o/\ie H h a u
 | .tbl ps=>h.get? a=some { cls:=.none,data:=.fields ps }
 | .met f x=>h.get? a=some (W.methodObj (.ref f) (.ref x))
 | .ext φ=>φ h/\(∃o,h.get? a=some o)/\∀h1 h2:Heap,φ h1->(∀o,h1.get? a=some o->h2.get? a=some o)->φ h2
def HOk (H:Hp)(h:Heap):Prop:=∀a o,H a=some o->ie P w H h a o
end
section
variable {P:Program}{w:World}{H H':Hp}{h h':Heap}{a:Addr}{o:HO}
theorem ie.lt (x:ie P w H h a o):a<h.objs.size:=by
 cases o with
 |lst xs=>obtain ⟨_,_,_,_,e⟩:=x;exact Heap.lt_size e
 |tup xs=>obtain ⟨_,_,_,p⟩:=x;exact p.lt
 |dK kvs=>obtain ⟨_,_,_,_,o,_,_,e,_⟩:=x;exact Heap.lt_size e
 |dT T kvs=>obtain ⟨_,_,_,_,o,_,_,e,_⟩:=x;exact Heap.lt_size e
 |set S n=>obtain ⟨o,_,_,_,e,_⟩:=x;exact Heap.lt_size e
 |ins C dx fs=>obtain ⟨_,_,_,e,_⟩:=x;exact Heap.lt_size e
 |own y=>obtain ⟨_,e⟩:=x;exact Heap.lt_size e
 |xd fs=>obtain ⟨_,⟨_,_,_,e,_⟩,_⟩:=x;exact Heap.lt_size e
 |rng lo hi=>obtain ⟨_,_,_,e⟩:=x;exact Heap.lt_size e
 |frz ob u=>obtain ⟨e,_⟩:=x;exact Heap.lt_size e
 |tbl ps=>exact Heap.lt_size (show h.get? a=some _ from x)
 |met f y=>exact Heap.lt_size (show h.get? a=some _ from x)
 |ext φ=>obtain ⟨_,⟨_,e⟩,_⟩:=x;exact Heap.lt_size e
theorem Paired.XR {α β:Type}{F G:α->β->Prop}:∀{l₁:List α} {l₂:List β},Paired F l₁ l₂->(∀a b,F a b->G a b)->Paired G l₁ l₂
 |_,_,.nil,_=>.nil
 |_,_,.cons r t,f=>.cons (f _ _ r) (Paired.XR t f)
theorem ie.stay (x:ie P w H h a o)(k:∀b u,(b=a\/H b=some (.own a))->h.get? b=some u->h'.get? b=some u)
  (ho:∀b,H b=some (.own a)->H' b=some (.own a)) (ht:∀b xs,H b=some (.tup xs)->H' b=some (.tup xs)):ie P w H' h' a o:=by
 induction o with
 |lst xs=>obtain ⟨z,its,n,r,e⟩:=x;exact ⟨z,its,n,r,k _ _ (.inl rfl) e⟩
 |tup xs=>obtain ⟨z,its,r,ob,e,c⟩:=x;exact ⟨z,its,r,ob,k _ _ (.inl rfl) e,c⟩
 |dK kvs=>obtain ⟨z,y,vs,r,ob,es,ep,e,c⟩:=x;exact ⟨z,y,vs,r,ob,es,ep,k _ _ (.inl rfl) e,c⟩
 |dT T kvs=>
  obtain ⟨z,y,xs,r,ob,es,ep,e,c⟩:=x
  exact ⟨z,y,xs,Paired.XR r λp q z=>⟨z.1,z.2.1.imp ht,z.2.2⟩,ob,es,ep,k _ _ (.inl rfl) e,c⟩
 |set S n=>obtain ⟨ob,es,ep,t,e,c⟩:=x;exact ⟨ob,es,ep,t,k _ _ (.inl rfl) e,c⟩
 |ins C dx fs=>
  obtain ⟨d,z,ne,e,mA,⟨od,es,ep,e2,c⟩,r⟩:=x
  exact ⟨ho _ d,z,ne,k _ _ (.inl rfl) e,mA,⟨od,es,ep,k _ _ (.inr d) e2,c⟩,r⟩
 |own y=>obtain ⟨ob,e⟩:=x;exact ⟨ob,k _ _ (.inl rfl) e⟩
 |xd fs=>obtain ⟨mA,⟨od,es,ep,e,c⟩,r⟩:=x;exact ⟨mA,⟨od,es,ep,k _ _ (.inl rfl) e,c⟩,r⟩
 |rng lo hi=>obtain ⟨t,u,v,e⟩:=x;exact ⟨t,u,v,k _ _ (.inl rfl) e⟩
 |frz ob u ih=>obtain ⟨e,q⟩:=x;exact ⟨k _ _ (.inl rfl) e,ih q⟩
 |tbl ps=>
  have e:h.get? a=some { cls:=.none,data:=.fields ps }:=x
  show h'.get? a=some { cls:=.none,data:=.fields ps }
  exact k a _ (.inl rfl) e
 |met f y=>
  have e:h.get? a=some (W.methodObj (.ref f) (.ref y)):=x
  show h'.get? a=some (W.methodObj (.ref f) (.ref y))
  exact k a _ (.inl rfl) e
 |ext φ=>obtain ⟨p,⟨o,e⟩,st⟩:=x;exact ⟨st _ _ p λo q=>k _ _ (.inl rfl) q,⟨o,k _ _ (.inl rfl) e⟩,st⟩
theorem HOk.lt (x:HOk P w H h)(e:H a=some o):a<h.objs.size:=(x a o e).lt
theorem HOk.fresh (x:HOk P w H h)(e:h.objs.size<=a):H a=none:=by
 cases q:H a with
 |none=>rfl
 |some u=>exact absurd (Nat.lt_of_lt_of_le (x.lt q) e) (Nat.lt_irrefl _)
theorem HOk.kept (x:HOk P w H h)(k:∀b u,h.get? b=some u->h'.get? b=some u):HOk P w H h':=λa o e=>
 (x a o e).stay (λb u _ q=>k b u q) (λ_ q=>q) λ_ _ q=>q
theorem HOk.laid (x:HOk P w H h)(k:∀b u,h.get? b=some u->h'.get? b=some u)(hp:h.objs.size<=a)(new:ie P w (upd H a o) h' a o):HOk P w (upd H a o) h':=λb u e=>by
 have hn:=x.fresh hp
 by_cases hb:b=a
 ·subst hb;rw [bY] at e;cases e;exact new
 ·rw [bj hb] at e
  exact (x b u e).stay (λc v _ q=>k c v q) (λc q=>by rw [bj (mG q hn)];exact q) λc xs q=>by rw [bj (mG q hn)];exact q
end
def Rd (H:Hp)(a:Addr)(u:HO):Prop:=H a=some u\/∃o,H a=some (.frz o u)
theorem Rd.ok {P:Program}{w:World}{H:Hp}{h:Heap}{a:Addr}{u:HO}(r:Rd H a u)(x:HOk P w H h):ie P w H h a u:=by
 rcases r with r | ⟨o,r⟩
 ·exact x a u r
 ·obtain ⟨_,q⟩:=x a _ r
  exact q
def Mut:Option HO->Prop
 |some (.lst _)=>True
 |some (.dK _)=>True
 |some (.dT _ _)=>True
 |some (.set _ _)=>True
 |some (.ins _ _ _)=>True
 |some (.ext _)=>True
 |_=>False
section
variable {P:Program}{w:World}{H:Hp}{h h':Heap}{x e:Addr}{o':HO}
theorem HOk.write (ok:HOk P w H h)(mu:Mut (H x))(he:e=x\/H e=some (.own x))(k:∀b u,b≠e->h.get? b=some u->h'.get? b=some u)(heo:∃u,h'.get? e=some u)
  (new:ie P w (upd H x o') h' x o'):HOk P w (upd H x o') h':=λb u q=>by
 have nown:∀c y,H c=some (.own y)->c≠x:=λc y r z=>by subst z;rw [r] at mu;exact mu
 have ntup:∀c xs,H c=some (.tup xs)->c≠x:=λc xs r z=>by subst z;rw [r] at mu;exact mu
 by_cases hb:b=x
 ·subst hb;rw [bY] at q;cases q;exact new
 ·rw [bj hb] at q
  by_cases hbe:b=e
  ·have q':H b=some (.own x):=by
    rcases he with z | z
    ·exact absurd (hbe.trans z) hb
    ·rw [hbe];exact z
   rw [q] at q';cases q'
   obtain ⟨v,hv⟩:=heo
   exact ⟨v,by rw [hbe];exact hv⟩
  ·refine (ok b u q).stay (λc v hc r=>k c v ?_ r) (λc r=>by rw [bj (nown c b r)];exact r) λc xs r=>by rw [bj (ntup c xs r)];exact r
   rcases hc with rfl | hc
   ·exact hbe
   ·rintro rfl
    rcases he with z | z
    ·exact nown c b hc z
    ·rw [hc] at z;cases z;exact hb rfl
end
structure Un (fs ex:List Addr)(H H':Hp)(h h':Heap):Prop where
 keep:∀b o,h.get? b=some o->H b=none->b∉fs->b∉ex->h'.get? b=some o
 slot:∀b o,h.get? b=some o->H b=none->b∈fs->b∉ex->∃sl,h'.get? b=some { o with slots:=sl }
 free:∀b o,h.get? b=some o->H b=none->b∉ex->H' b=none
 there:∀b o,h.get? b=some o->b∉ex->∃o',h'.get? b=some o'
 tups:∀b xs,H b=some (.tup xs)->H' b=some (.tup xs)
 frzs:∀b o u,H b=some (.frz o u)->H' b=some (.frz o u)
 tbls:∀b ps,H b=some (.tbl ps)->∃more,H' b=some (.tbl (ps++more))
section
variable {fs fs' ex ex':List Addr}{H H1 H2:Hp}{h h1 h2 h':Heap}{a x e:Addr}{o:HO}
theorem Un.any (u:Un fs ex H H1 h h1){b:Addr}{ob:Obj}(q:h.get? b=some ob)(n:H b=none)(hx:b∉ex):∃sl,h1.get? b=some { ob with slots:=sl }:=by
 by_cases hb:b∈fs
 ·exact u.slot b ob q n hb hx
 ·exact ⟨ob.slots,u.keep b ob q n hb hx⟩
theorem Un.kept (k:∀b u,h.get? b=some u->h'.get? b=some u):Un fs ex H H h h':=
 ⟨λb ob q _ _ _=>k b ob q,λb ob q _ _ _=>⟨ob.slots,k b ob q⟩,λ_ _ _ n _=>n,λb ob q _=>⟨ob,k b ob q⟩,λ_ _ q=>q,λ_ _ _ q=>q,λ_ ps q=>⟨#[],by rw [q];simp⟩⟩
theorem Un.refl:Un fs ex H H h h:=Un.kept λ_ _ q=>q
theorem Un.laid (k:∀b u,h.get? b=some u->h'.get? b=some u)(hp:h.objs.size<=a)(hn:H a=none):Un fs ex H (upd H a o) h h' where
 keep:=λb u q _ _ _=>k b u q
 slot:=λb u q _ _ _=>⟨u.slots,k b u q⟩
 free:=λb u q n _=>by rw [bj (Nat.ne_of_lt (Nat.lt_of_lt_of_le (Heap.lt_size q) hp))];exact n
 there:=λb u q _=>⟨u,k b u q⟩
 tups:=λb xs q=>by rw [bj (mG q hn)];exact q
 frzs:=λb u xs q=>by rw [bj (mG q hn)];exact q
 tbls:=λb ps q=>⟨#[],by rw [bj (mG q hn),q];simp⟩
theorem Un.write (mu:Mut (H x))(he:e=x\/H e=some (.own x))(k:∀b u,b≠e->h.get? b=some u->h'.get? b=some u)(heo:∃u,h'.get? e=some u):Un fs ex H (upd H x o) h h':=by
 have hx:∀b,H b=none->b≠x:=λb n z=>by subst z;rw [n] at mu;exact mu
 have hb:∀b,H b=none->b≠e:=λb n z=>by
  subst z
  rcases he with r | r
  ·exact hx b n r
  ·rw [n] at r;cases r
 have hm:∀b u,H b=some u->¬Mut (some u)->b≠x:=λb u q nm z=>by subst z;rw [q] at mu;exact nm mu
 refine ⟨λb u q n _ _=>k b u (hb b n) q,λb u q n _ _=>⟨u.slots,k b u (hb b n) q⟩,λb u q n _=>by rw [bj (hx b n)];exact n,λb u q _=>?_,
  λb xs q=>by rw [bj (hm b _ q λz=>z)];exact q,λb u xs q=>by rw [bj (hm b _ q λz=>z)];exact q,λb ps q=>⟨#[],by rw [bj (hm b _ q λz=>z),q];simp⟩⟩
 by_cases hbe:b=e
 ·subst hbe;exact heo
 ·exact ⟨u,k b u hbe q⟩
end
def trk (h:Heap)(H:Hp):List Addr:=(List.range h.objs.size).filter λa=>(H a).isSome
def Gu (h:Heap)(H:Hp):Heap:=W.hideAll h (trk h H)
theorem Oc (h:Heap)(H:Hp):(Gu h H).objs.size=h.objs.size:=W.hideAll_size _ _
theorem P0 {h:Heap}{H:Hp}{b:Addr}{o:Obj}(e:h.get? b=some o)(n:H b=none):(Gu h H).get? b=some o:=
 W.hideAll_get _ e λhm=>by
  have q:(H b).isSome=true:=(List.mem_filter.mp hm).2
  rw [n] at q;simp at q
theorem Vl {h:Heap}{H:Hp}{b:Addr}{o:Obj}(e:(Gu h H).get? b=some o):h.get? b=some o/\H b=none:=by
 have e':h.get? b=some o:=W.of_hideAll (trk h H) e
 refine ⟨e',?_⟩
 cases q:H b with
 |none=>rfl
 |some x=>
  have hm:b∈trk h H:=List.mem_filter.mpr ⟨List.mem_range.mpr (Heap.lt_size e'),by simp [q]⟩
  have z:(Gu h H).get? b=none:=W.hideAll_none (trk h H) hm
  rw [z] at e;cases e
def Uz (g h:Heap)(L:Addr):List (Addr×Obj):=(List.range h.objs.size).filterMap λa=>if a=L\/(g.get? a).isSome=true then none else (h.get? a).map λo=>(a,o)
def rest (g h:Heap)(L d:Addr):List (Addr×Obj):=(Uz g h L).filter λp=>decide (p.1≠d)
structure Mod (K:W.Frag)(mg:Str->Option Value)(base:Heap):Prop where
 kin:K.In base
 glob:base.Ns mainGlobals mg
 blt:∃mb,base.Ns builtinsNs mb/\∀x:Str,x≠"__name__"->mb x=bootBuiltins x
 nolimit:base.NoLimit
structure Cx where
 prog:Program
 w:World
 K:W.Frag
 mg:Str->Option Value
 base:Heap
 A:Around
 N:List Str
 s₀:Shared
 H₀:Hp
 env:Env
 outer:List Env
 stack:List Env
 ex:List Addr
 fn:Str->Bool
 calm:Bool
 pn:List (Addr×Obj)
 xe:Value->Shared->Prop
def frs (l:List Env):List Addr:=l.filterMap (·.frame)
abbrev Cx.fs (X:Cx):List Addr:=frs X.outer
def Vis (sc:Scope)(x:Str):Prop:=sc.names.lookup x=some .local\/sc.names.lookup x=some .cell\/sc.names.lookup x=some .free
def Loc (sc:Scope)(x:Str):Prop:=sc.names.lookup x=some .local\/sc.names.lookup x=some .cell
def Look (env:Env)(h:Heap)(m:Str->Option Value)(x:Str)(u:Value):Prop:=
 (env.kindOf x=some .local/\m x=some u)\/((env.kindOf x=some .cell\/env.kindOf x=some .free)/\∃c,env.cells.lookup x=some c/\h.IsCell c (some u))
structure Cx.Ok (X:Cx):Prop where
 mod:Mod X.K X.mg X.base
 kind:X.env.scope.kind=.function
 glob:X.env.globals=mainGlobals
 blt:X.env.builtins=builtinsNs
 above:X.s₀.heap.objs.size<=X.env.locals
 inj:∀x y c,X.env.cells.lookup x=some c->X.env.cells.lookup y=some c->x=y
 has:∀x,(X.env.kindOf x=some .cell\/X.env.kindOf x=some .free)->∃c,X.env.cells.lookup x=some c
 cab:∀x c,X.fn x=true->X.env.cells.lookup x=some c->X.s₀.heap.objs.size<=c
 hd:X.calm=true->X.A.handled=none
 frames:X.A.frames=some X.stack
 stk:X.stack=X.outer\/(X.stack=X.env::X.outer/\X.env.frame=some X.env.locals)
 exf:∀b∈X.ex,b≠X.env.locals/\∀x c,X.env.cells.lookup x=some c->c≠b
 bs:∀b o,X.base.get? b=some o->X.s₀.heap.get? b=some o/\X.H₀ b=none
 bsz:X.base.objs.size<=X.s₀.heap.objs.size
 noex:∀b o,X.base.get? b=some o->b∉X.ex
 exfs:∀b∈X.ex,b∉X.fs
 wX:X.s₀.heap.FunFrames X.base X.outer
 frf:∀b∈X.fs,X.H₀ b=none
structure Inv (X:Cx)(pins:List (Addr×Obj))(σ:List (Option V))(H:Hp)(s:Shared):Prop where
 ok:X.Ok
 os:s.os=X.s₀.os
 bare:AllBare s.gens
 base:Un X.fs X.ex X.H₀ H X.s₀.heap s.heap
 loc:∃m,s.heap.Ns X.env.locals m/\∀(i:Nat) (x:Str) (v:V),X.N[i]? = some x->σ[i]? = some (some v)->Vis X.env.scope x->∃u,RelV v u/\Look X.env s.heap m x u
 cell:∀x c,X.env.cells.lookup x=some c->∃v,s.heap.IsCell c v
 free:H X.env.locals=none
 freeC:∀x c,X.env.cells.lookup x=some c->H c=none
 pin:∀p∈X.pn++pins,s.heap.get? p.1=some p.2/\H p.1=none/\p.1≠X.env.locals/\p.1∉X.fs/\∀v,p.2.data≠.cell v
 hok:HOk X.prog X.w H s.heap
 len:σ.length=X.N.length
section
variable {X:Cx}{pins:List (Addr×Obj)}{σ:List (Option V)}{H H':Hp}{s:Shared}{h':Heap}
theorem Cx.Ok.aaK (ok:X.Ok){b:Addr}{o:Obj}(e:X.base.get? b=some o):b∉X.fs:=λhb=>by
 have:=(ok.wX.mem hb).1
 rw [e] at this;cases this
theorem Inv.bs (I:Inv X pins σ H s):∀b o,X.base.get? b=some o->s.heap.get? b=some o/\H b=none:=λb o e=>
 ⟨I.base.keep b o (I.ok.bs b o e).1 (I.ok.bs b o e).2 (I.ok.aaK e) (I.ok.noex b o e),I.base.free b o (I.ok.bs b o e).1 (I.ok.bs b o e).2 (I.ok.noex b o e)⟩
theorem Inv.bk (I:Inv X pins σ H s):∀b o,X.base.get? b=some o->s.heap.get? b=some o:=λb o e=>(I.bs b o e).1
theorem Inv.mod (I:Inv X pins σ H s):Mod X.K X.mg X.base:=I.ok.mod
theorem Inv.kIn (I:Inv X pins σ H s):X.K.In s.heap:=I.ok.mod.kin.keeps I.bk
theorem Inv.nolimit (I:Inv X pins σ H s):s.heap.NoLimit:=I.ok.mod.nolimit.keeps I.bk
theorem Inv.fr (I:Inv X pins σ H s):∃m,Fr X.base X.env.locals s.heap m:=
 let ⟨m,hn,_⟩:=I.loc
 ⟨m,hn,I.bk,Nat.le_trans I.ok.bsz I.ok.above⟩
theorem Inv.lt (I:Inv X pins σ H s):X.env.locals<s.heap.objs.size:=let ⟨_,hn,_⟩:=I.loc;hn.lt
theorem Inv.sz (I:Inv X pins σ H s):X.s₀.heap.objs.size<=s.heap.objs.size:=Nat.le_trans I.ok.above (Nat.le_of_lt I.lt)
theorem Inv.aay (I:Inv X pins σ H s){a:Addr}(h:s.heap.objs.size<=a):a∉X.fs:=λhb=>by
 obtain ⟨_,o,ho,_⟩:=I.ok.wX.mem hb
 exact absurd (Nat.lt_of_lt_of_le (Heap.lt_size ho) (Nat.le_trans I.sz h)) (Nat.lt_irrefl _)
theorem Inv.cne (I:Inv X pins σ H s):∀x c,X.env.cells.lookup x=some c->c≠X.env.locals:=λx c e z=>by
 obtain ⟨v,o,ho,hd⟩:=I.cell x c e
 obtain ⟨m,⟨o',es,ep,ho',hd',_⟩,_⟩:=I.loc
 rw [z,ho'] at ho;cases ho;rw [hd'] at hd;cases hd
theorem Inv.wX (I:Inv X pins σ H s):s.heap.FunFrames X.base X.outer:=by
 have all:∀(l:List Env),(∀b∈frs l,b∈X.fs)->X.s₀.heap.FunFrames X.base l->s.heap.FunFrames X.base l:=by
  intro l
  induction l with
  |nil=>intro _ _;trivial
  |cons env r ih=>
   intro hs hl
   obtain ⟨hk,⟨L,o,hf,hn,ho,hd⟩,hr⟩:=hl
   have hL:L∈X.fs:=hs L (by unfold frs;rw [List.filterMap_cons,hf];exact List.mem_cons_self)
   obtain ⟨sl,e⟩:=I.base.slot L o ho (I.ok.frf L hL) hL λz=>I.ok.exfs L z hL
   exact ⟨hk,⟨L,_,hf,hn,e,hd⟩,ih (λb hb=>hs b (by unfold frs;rw [List.filterMap_cons,hf];exact List.mem_cons_of_mem _ hb)) hr⟩
 exact all X.outer (λ_ hb=>hb) I.ok.wX
theorem Inv.stack (I:Inv X pins σ H s):s.heap.FunFrames X.base X.stack:=by
 rcases I.ok.stk with e | ⟨e,hf⟩
 ·rw [e];exact I.wX
 ·rw [e]
  obtain ⟨m,hn,_⟩:=I.loc
  refine .cons (by rw [I.ok.kind];decide) hf hn ?_ I.wX
  exact Heap.get?_none_of_le (Nat.le_trans I.ok.bsz I.ok.above)
theorem Inv.Fi (I:Inv X pins σ H s):∀b∈frs X.stack,b∈X.env.locals::X.fs:=λb hb=>by
 rcases I.ok.stk with e | ⟨e,hf⟩
 ·rw [e] at hb;exact List.mem_cons_of_mem _ hb
 ·rw [e] at hb
  unfold frs at hb
  rw [List.filterMap_cons,hf] at hb
  exact hb
theorem Inv.KJ (I:Inv X pins σ H s):∀b∈frs X.stack,H b=none:=λb hb=>by
 rcases List.mem_cons.mp (I.Fi b hb) with e | hb
 ·rw [e];exact I.free
 ·obtain ⟨_,o,ho,_⟩:=I.ok.wX.mem hb
  exact I.base.free b o ho (I.ok.frf b hb) λz=>I.ok.exfs b z hb
theorem Inv.step {g':Array GenState}{t':Nat}{d':Drawn}{ch:List Addr}(I:Inv X pins σ H s)
  (hch:∀b∈ch,(b∈X.ex\/X.s₀.heap.objs.size<=b)/\b≠X.env.locals/\(∀x c,X.env.cells.lookup x=some c->c≠b)/\∀p∈X.pn++pins,p.1≠b)
  (keep:∀b o,b≠X.env.locals->b∉X.fs->b∉ch->s.heap.get? b=some o->H b=none->h'.get? b=some o)
  (slot:∀b o,b≠X.env.locals->b∈X.fs->b∉ch->s.heap.get? b=some o->H b=none->∃sl,h'.get? b=some { o with slots:=sl }) (free:∀b o,b∉ch->s.heap.get? b=some o->H b=none->H' b=none)
  (there:∀b o,b∉ch->s.heap.get? b=some o->∃o',h'.get? b=some o')
  (tups:∀b xs,H b=some (.tup xs)->H' b=some (.tup xs)) (frzs:∀b o u,H b=some (.frz o u)->H' b=some (.frz o u)) (tbls:∀b ps,H b=some (.tbl ps)->∃more,H' b=some (.tbl (ps++more)))
  (ns:∀m,s.heap.Ns X.env.locals m->h'.Ns X.env.locals m) (hok:HOk X.prog X.w H' h') (hg:AllBare g'):
  Inv X pins σ H' { s with heap:=h',gens:=g',drawn:=d',toks:=t' }:=by
 have neL:∀b o,X.s₀.heap.get? b=some o->b≠X.env.locals:=λb o e=>Nat.ne_of_lt (Nat.lt_of_lt_of_le (Heap.lt_size e) I.ok.above)
 have neC:∀b o,X.s₀.heap.get? b=some o->b∉X.ex->b∉ch:=λb o e hx hb=>by
  rcases (hch b hb).1 with z | z
  ·exact hx z
  ·exact absurd (Nat.lt_of_lt_of_le (Heap.lt_size e) z) (Nat.lt_irrefl _)
 have cellK:∀x c,X.env.cells.lookup x=some c->∀v,s.heap.IsCell c v->h'.IsCell c v:=λx c e v ⟨o,ho,hd⟩=>by
  have nch:c∉ch:=λz=>(hch c z).2.2.1 x c e rfl
  by_cases hc:c∈X.fs
  ·obtain ⟨sl,q⟩:=slot c o (I.cne x c e) hc nch ho (I.freeC x c e)
   exact ⟨_,q,hd⟩
  ·exact ⟨o,keep c o (I.cne x c e) hc nch ho (I.freeC x c e),hd⟩
 refine ⟨I.ok,I.os,hg,⟨λb o e n hb hx=>?_,λb o e n hb hx=>?_,λb o e n hx=>?_,λb o e hx=>?_,λb xs e=>tups b xs (I.base.tups b xs e),λb o xs e=>frzs b o xs (I.base.frzs b o xs e),λb ps e=>?_⟩,?_,λx c e=>?_,?_,λx c e=>?_,λp hp=>?_,hok,I.len⟩
 ·exact keep b o (neL b o e) hb (neC b o e hx) (I.base.keep b o e n hb hx) (I.base.free b o e n hx)
 ·obtain ⟨sl,e1⟩:=I.base.slot b o e n hb hx
  obtain ⟨sl',e2⟩:=slot b _ (neL b o e) hb (neC b o e hx) e1 (I.base.free b o e n hx)
  exact ⟨sl',e2⟩
 ·obtain ⟨o',e1⟩:=I.base.there b o e hx
  exact free b o' (neC b o e hx) e1 (I.base.free b o e n hx)
 ·obtain ⟨o',e1⟩:=I.base.there b o e hx
  exact there b o' (neC b o e hx) e1
 ·obtain ⟨m1,e1⟩:=I.base.tbls b ps e
  obtain ⟨m2,e2⟩:=tbls b _ e1
  exact ⟨m1++m2,by rw [e2,Array.append_assoc]⟩
 ·obtain ⟨m,hn,hl⟩:=I.loc
  refine ⟨m,ns m hn,λi x v e1 e2 e3=>?_⟩
  obtain ⟨u,r,l⟩:=hl i x v e1 e2 e3
  refine ⟨u,r,?_⟩
  rcases l with l | ⟨k,c,e,z⟩
  ·exact .inl l
  ·exact .inr ⟨k,c,e,cellK x c e _ z⟩
 ·obtain ⟨v,z⟩:=I.cell x c e
  exact ⟨v,cellK x c e v z⟩
 ·obtain ⟨m,⟨o,_,_,ho,_⟩,_⟩:=I.loc
  exact free _ o (λz=>(hch _ z).2.1 rfl) ho I.free
 ·obtain ⟨v,o,ho,hd⟩:=I.cell x c e
  exact free c o (λz=>(hch c z).2.2.1 x c e rfl) ho (I.freeC x c e)
 ·obtain ⟨e,n,ne,nf,d⟩:=I.pin p hp
  have nch:p.1∉ch:=λz=>(hch p.1 z).2.2.2 p hp rfl
  exact ⟨keep p.1 p.2 ne nf nch e n,free p.1 p.2 nch e n,ne,nf,d⟩
theorem Inv.un {t':Nat}(I:Inv X pins σ H s)(u:Un X.fs [] H H' s.heap h')(hok:HOk X.prog X.w H' h'):Inv X pins σ H' { s with heap:=h',toks:=t' }:=by
 obtain ⟨m,⟨o,es,ep,ho,r⟩,_⟩:=id I.loc
 obtain ⟨sl,hL⟩:=u.any ho I.free (by simp)
 exact I.step (g':=s.gens) (d':=s.drawn) (ch:=[]) (λ_ z=>nomatch z) (λb o _ hb _ e n=>u.keep b o e n hb (by simp)) (λb o _ hb _ e n=>u.slot b o e n hb (by simp)) (λb o _ e n=>u.free b o e n (by simp)) (λb o _ e=>u.there b o e (by simp)) u.tups u.frzs u.tbls (λm' hm=>by
  obtain ⟨o',es',ep',ho',r'⟩:=hm
  rw [ho] at ho';cases ho'
  exact ⟨_,es',ep',hL,r'⟩) hok I.bare
theorem Inv.call {g':Array GenState}{t':Nat}{d':Drawn}{ch:List Addr}(I:Inv X pins σ H s)(u:Un (frs X.stack) ch H H' s.heap h')(hok:HOk X.prog X.w H' h')(hg:AllBare g')
  (hch:∀b∈ch,(b∈X.ex\/X.s₀.heap.objs.size<=b)/\b≠X.env.locals/\(∀x c,X.env.cells.lookup x=some c->c≠b)/\∀p∈X.pn++pins,p.1≠b):
  Inv X pins σ H' { s with heap:=h',gens:=g',drawn:=d',toks:=t' }:=by
 obtain ⟨m,⟨o,es,ep,ho,r⟩,_⟩:=id I.loc
 obtain ⟨sl,hL⟩:=u.any ho I.free λz=>(hch _ z).2.1 rfl
 exact I.step (ch:=ch) hch (λb o hL hb hc e n=>u.keep b o e n (λz=>(List.mem_cons.mp (I.Fi b z)).elim hL hb) hc) (λb o _ _ hc e n=>u.any e n hc) (λb o hc e n=>u.free b o e n hc) (λb o hc e=>u.there b o e hc) u.tups u.frzs u.tbls (λm' hm=>by
  obtain ⟨o',es',ep',ho',r'⟩:=hm
  rw [ho] at ho';cases ho'
  exact ⟨_,es',ep',hL,r'⟩) hok hg
theorem Inv.turned {t':Nat}{it:Addr}(I:Inv X pins σ H s)(k:∀b o,b≠it->s.heap.get? b=some o->h'.get? b=some o)(hn:H it=none)(hL:it≠X.env.locals)
  (h1:it∈X.ex\/X.s₀.heap.objs.size<=it) (h2:∀x c,X.env.cells.lookup x=some c->c≠it) (h3:∀p∈X.pn++pins,p.1≠it):Inv X pins σ H { s with heap:=h',toks:=t' }:=by
 have nit:∀b u,H b=some u->b≠it:=λb u e z=>by rw [z,hn] at e;cases e
 refine I.step (g':=s.gens) (d':=s.drawn) (ch:=[it]) (λb hb=>?_) (λb o _ _ hc e _=>k b o (λz=>hc (by simp [z])) e) (λb o _ _ hc e _=>⟨o.slots,k b o (λz=>hc (by simp [z])) e⟩) (λ_ _ _ _ n=>n)
  (λb o hc e=>⟨o,k b o (λz=>hc (by simp [z])) e⟩) (λ_ _ e=>e) (λ_ _ _ e=>e) (λb ps e=>⟨#[],by rw [e];simp⟩) (λm hm=>?_) (λb u e=>?_) I.bare
 ·have e:b=it:=by simpa using hb
  subst e
  exact ⟨h1,hL,h2,h3⟩
 ·obtain ⟨o,es,ep,ho,r⟩:=hm
  exact ⟨o,es,ep,k _ o (Ne.symm hL) ho,r⟩
 ·refine (I.hok b u e).stay (λc v hc q=>k c v ?_ q) (λ_ q=>q) λ_ _ q=>q
  rcases hc with z | z
  ·rw [z];exact nit b u e
  ·exact nit c _ z
theorem Inv.tok (I:Inv X pins σ H s)(t:Nat):Inv X pins σ H { s with toks:=t }:=I.un (h':=s.heap) (t':=t) Un.refl I.hok
theorem Inv.kept {t':Nat}(I:Inv X pins σ H s)(k:∀b u,s.heap.get? b=some u->h'.get? b=some u):Inv X pins σ H { s with heap:=h',toks:=t' }:=I.un (Un.kept k) (I.hok.kept k)
theorem Inv.laid {a:Addr}{o:HO}{t':Nat}(I:Inv X pins σ H s)(k:∀b u,s.heap.get? b=some u->h'.get? b=some u)(hp:s.heap.objs.size<=a)(new:ie X.prog X.w (upd H a o) h' a o):
  Inv X pins σ (upd H a o) { s with heap:=h',toks:=t' }:=I.un (Un.laid k hp (I.hok.fresh hp)) (I.hok.laid k hp new)
theorem Inv.write {x e:Addr}{o:HO}{t':Nat}(I:Inv X pins σ H s)(mu:Mut (H x))(he:e=x\/H e=some (.own x))(k:∀b u,b≠e->s.heap.get? b=some u->h'.get? b=some u)(heo:∃u,h'.get? e=some u)
  (new:ie X.prog X.w (upd H x o) h' x o):Inv X pins σ (upd H x o) { s with heap:=h',toks:=t' }:=I.un (Un.write mu he k heo) (I.hok.write mu he k heo new)
theorem Inv.weak {σ':List (Option V)}(I:Inv X pins σ H s)(hl:σ'.length=σ.length)(w:∀(i:Nat) v,σ'[i]? = some (some v)->σ[i]? = some (some v)):Inv X pins σ' H s:=
 ⟨I.ok,I.os,I.bare,I.base,let ⟨m,hn,hl'⟩:=I.loc;⟨m,hn,λi x v e1 e2 e3=>hl' i x v e1 (w i v e2) e3⟩,I.cell,I.free,I.freeC,I.pin,I.hok,hl.trans I.len⟩
theorem Inv.Kf {pins':List (Addr×Obj)}(I:Inv X pins σ H s)(h:∀p∈pins',s.heap.get? p.1=some p.2/\H p.1=none/\p.1≠X.env.locals/\p.1∉X.fs/\∀v,p.2.data≠.cell v):Inv X pins' σ H s:=
 ⟨I.ok,I.os,I.bare,I.base,I.loc,I.cell,I.free,I.freeC,λp hp=>(List.mem_append.mp hp).elim (λz=>I.pin p (List.mem_append_left _ z)) (h p),I.hok,I.len⟩
theorem Ip {N:List Str}(hN:N.Nodup){i j:Nat}{x:Str}(a:N[i]? = some x)(b:N[j]? = some x):i=j:=by
 obtain ⟨h1,e1⟩:=List.getElem?_eq_some_iff.mp a
 obtain ⟨h2,e2⟩:=List.getElem?_eq_some_iff.mp b
 exact (List.getElem_inj hN).mp (e1.trans e2.symm)
theorem DN {M:Model}{A:Around}{E:Value->Shared->Prop}{i:Nat}{x:Str}{v:V}{u:Value}{Q:Unit->Shared->Prop}(I:Inv X pins σ H s)(hN:X.N.Nodup)(hi:X.N[i]? = some x)(hx:Loc X.env.scope x)(r:RelV v u)
  (h:∀s',Inv X pins (σ.set i (some v)) H s'->(∃a,Heap.SameBut a s.heap s'.heap/\(a=X.env.locals\/X.env.cells.lookup x=some a))->Q () s') (hf:X.fn x=true\/X.env.scope.names.lookup x=some .local:=by first | exact .inl rfl | exact .inr rfl | assumption):wpAny M A (storeName X.env x u) Q E s:=by
 obtain ⟨m,hn,hl⟩:=id I.loc
 have hcls:(X.env.scope.kind == .class || (X.env.scope.kind == .module && X.env.locals != X.env.globals))=false:=by rw [I.ok.kind];rfl
 have hiσ:i<σ.length:=by rw [I.len];exact (List.getElem?_eq_some_iff.mp hi).1
 have cne:=I.cne
 have tracked:∀{a:Addr} {h':Heap},(∃o,s.heap.get? a=some o/\H a=none)->Heap.SameBut a s.heap h'->HOk X.prog X.w H h':=λ{a h'} ha hs b ob e=>by
  obtain ⟨_,_,hfree⟩:=ha
  refine (I.hok b ob e).stay (λc w' hc q=>(hs.2 c ?_).trans q) (λ_ q=>q) λ_ _ q=>q
  rintro rfl
  rcases hc with rfl | hc
  ·rw [hfree] at e;cases e
  ·rw [hfree] at hc;cases hc
 rcases hx with hk | hk
 ·refine wpAny_storeName_local hk hn (λh' hn' hs=>?_) hcls
  obtain ⟨oL,_,_,hoL,_⟩:=id hn
  refine h _ ⟨I.ok,I.os,I.bare,⟨λb o e n hb hx=>?_,λb o e n hb hx=>?_,I.base.free,λb o e hx=>?_,I.base.tups,I.base.frzs,I.base.tbls⟩,⟨_,hn',λj y v' e1 e2 e3=>?_⟩,λy c e=>?_,I.free,I.freeC,λp hp=>?_,tracked ⟨oL,hoL,I.free⟩ hs,by simpa using I.len⟩ ⟨_,hs,.inl rfl⟩
  ·exact (hs.2 b (Nat.ne_of_lt (Nat.lt_of_lt_of_le (Heap.lt_size e) I.ok.above))).trans (I.base.keep b o e n hb hx)
  ·obtain ⟨sl,e1⟩:=I.base.slot b o e n hb hx
   exact ⟨sl,(hs.2 b (Nat.ne_of_lt (Nat.lt_of_lt_of_le (Heap.lt_size e) I.ok.above))).trans e1⟩
  ·obtain ⟨o',e1⟩:=I.base.there b o e hx
   exact ⟨o',(hs.2 b (Nat.ne_of_lt (Nat.lt_of_lt_of_le (Heap.lt_size e) I.ok.above))).trans e1⟩
  ·by_cases hj:j=i
   ·subst hj
    rw [hi] at e1;cases e1
    rw [List.getElem?_set_self hiσ] at e2
    cases e2
    exact ⟨u,r,.inl ⟨hk,by simp⟩⟩
   ·rw [List.getElem?_set_ne (Ne.symm hj)] at e2
    obtain ⟨u',r',q⟩:=hl j y v' e1 e2 e3
    refine ⟨u',r',?_⟩
    rcases q with ⟨k,e⟩ | ⟨k,c,e,z⟩
    ·refine .inl ⟨k,?_⟩
     have:y≠x:=λe=>hj (Ip hN e1 (e ▸ hi))
     simp [this,e]
    ·exact .inr ⟨k,c,e,z.sameBut hs (cne y c e)⟩
  ·obtain ⟨w',z⟩:=I.cell y c e
   exact ⟨w',z.sameBut hs (cne y c e)⟩
  ·obtain ⟨e,n,ne,nf,d⟩:=I.pin p hp
   exact ⟨(hs.2 p.1 ne).trans e,n,ne,nf,d⟩
 ·have hfn:X.fn x=true:=by
   rcases hf with z | z
   ·exact z
   ·rw [z] at hk;cases hk
  obtain ⟨c,hc⟩:=I.ok.has x (.inl hk)
  obtain ⟨w',z⟩:=I.cell x c hc
  refine wpAny_storeName_cell I.ok.kind hk hc z (λh' hc' hs=>?_)
  obtain ⟨oc,hoc,hocd⟩:=id z
  refine h { s with heap:=h' } ⟨I.ok,I.os,I.bare,⟨λb o e n hb hx=>?_,λb o e n hb hx=>?_,I.base.free,λb o e hx=>?_,I.base.tups,I.base.frzs,I.base.tbls⟩,⟨m,hn.sameBut hs (Ne.symm (cne x c hc)),λj y v' e1 e2 e3=>?_⟩,λy c' e=>?_,I.free,I.freeC,λp hp=>?_,tracked ⟨oc,hoc,I.freeC x c hc⟩ hs,by simpa using I.len⟩ ⟨c,hs,.inr hc⟩
  ·exact (hs.2 b (Nat.ne_of_lt (Nat.lt_of_lt_of_le (Heap.lt_size e) (I.ok.cab x c hfn hc)))).trans (I.base.keep b o e n hb hx)
  ·obtain ⟨sl,e1⟩:=I.base.slot b o e n hb hx
   exact ⟨sl,(hs.2 b (Nat.ne_of_lt (Nat.lt_of_lt_of_le (Heap.lt_size e) (I.ok.cab x c hfn hc)))).trans e1⟩
  ·obtain ⟨o',e1⟩:=I.base.there b o e hx
   exact ⟨o',(hs.2 b (Nat.ne_of_lt (Nat.lt_of_lt_of_le (Heap.lt_size e) (I.ok.cab x c hfn hc)))).trans e1⟩
  ·by_cases hj:j=i
   ·subst hj
    rw [hi] at e1;cases e1
    rw [List.getElem?_set_self hiσ] at e2
    cases e2
    exact ⟨u,r,.inr ⟨.inl hk,c,hc,hc'⟩⟩
   ·rw [List.getElem?_set_ne (Ne.symm hj)] at e2
    obtain ⟨u',r',q⟩:=hl j y v' e1 e2 e3
    refine ⟨u',r',?_⟩
    rcases q with q | ⟨k,c',e,z'⟩
    ·exact .inl q
    ·refine .inr ⟨k,c',e,z'.sameBut hs ?_⟩
     rintro rfl
     exact hj (Ip hN e1 (I.ok.inj _ _ _ e hc ▸ hi))
  ·by_cases hcc:c'=c
   ·subst hcc;exact ⟨_,hc'⟩
   ·obtain ⟨w2,z2⟩:=I.cell y c' e
    exact ⟨w2,z2.sameBut hs hcc⟩
  ·obtain ⟨e,n,ne,nf,d⟩:=I.pin p hp
   refine ⟨(hs.2 p.1 ?_).trans e,n,ne,nf,d⟩
   intro q
   rw [q,hoc] at e
   have q':oc=p.2:=Option.some.inj e
   exact d w' (by rw [← q'];exact hocd)
theorem xQ {M:Model}{A:Around}{E:Value->Shared->Prop}{i:Nat}{x:Str}{v:V}{u:Value}{Q:Unit->Shared->Prop}(I:Inv X pins σ H s)(hN:X.N.Nodup)(hi:X.N[i]? = some x)(hx:Loc X.env.scope x)(r:RelV v u)
  (h:∀s',Inv X pins (σ.set i (some v)) H s'->Q () s') (hf:X.fn x=true\/X.env.scope.names.lookup x=some .local:=by first | exact .inl rfl | exact .inr rfl | assumption):wpAny M A (storeName X.env x u) Q E s:=
 DN I hN hi hx r (λs' I' _=>h s' I') hf
theorem Inv.call' {s':Shared}{ch:List Addr}(I:Inv X pins σ H s)(ho:s'.os=s.os)(u:Un (frs X.stack) ch H H' s.heap s'.heap)(hok:HOk X.prog X.w H' s'.heap)(hg:AllBare s'.gens)
  (hch:∀b∈ch,(b∈X.ex\/X.s₀.heap.objs.size<=b)/\b≠X.env.locals/\(∀x c,X.env.cells.lookup x=some c->c≠b)/\∀p∈X.pn++pins,p.1≠b):Inv X pins σ H' s':=by
 obtain ⟨h',g',d',t',o'⟩:=s'
 have e:o'=s.os:=ho
 subst e
 exact I.call (g':=g') (t':=t') (d':=d') u hok hg hch
end
abbrev XK:=Value->Option Addr->Hp->Prop
abbrev St:=List (Option V)
abbrev VK:=V->Hp->Prop
abbrev TE:=St->Hp->VK->Prop
abbrev TT:=St->Hp->(Bool->Hp->Prop)->Prop
abbrev TA:=St->Hp->(List V->Hp->Prop)->Prop
structure Ends where
 nx:St->Hp->Prop
 rt:VK
 bk:St->Hp->Prop:=λ_ _=>False
 ct:St->Hp->Prop:=λ_ _=>False
abbrev TS:=Ends->St->Hp->Prop
def EP (X:Cx)(pins:List (Addr×Obj))(σ:St)(Q:VK)(u:Value)(s':Shared):Prop:=∃v H',Inv X pins σ H' s'/\RelV v u/\Q v H'
def TP (X:Cx)(pins:List (Addr×Obj))(σ:St)(Q:Bool->Hp->Prop)(b:Bool)(s':Shared):Prop:=∃H',Inv X pins σ H' s'/\Q b H'
def AP (X:Cx)(pins:List (Addr×Obj))(σ:St)(Q:List V->Hp->Prop)(us:List Value)(s':Shared):Prop:=∃vs H',Inv X pins σ H' s'/\Vals vs us/\Q vs H'
def SP (X:Cx)(pins:List (Addr×Obj))(D:Ends)(f:Flow)(s':Shared):Prop:=
 match f with
 | .next=>∃σ' H',Inv X pins σ' H' s'/\D.nx σ' H'
 | .brk=>∃σ' H',Inv X pins σ' H' s'/\D.bk σ' H'
 | .cont=>∃σ' H',Inv X pins σ' H' s'/\D.ct σ' H'
 | .ret u=>∃v σ' H',Inv X pins σ' H' s'/\RelV v u/\D.rt v H'
def PE (X:Cx)(e:Expr)(t:TE):Prop:=
 ∀(pins:List (Addr×Obj)) (s:Shared) (σ:St) (H:Hp) (Q:VK),Inv X pins σ H s->t σ H Q->wpAny (model X.prog X.w) X.A (eval e X.env) (EP X pins σ Q) X.xe s
def PT (X:Cx)(e:Expr)(t:TT):Prop:=
 ∀(pins:List (Addr×Obj)) (s:Shared) (σ:St) (H:Hp) (Q:Bool->Hp->Prop),Inv X pins σ H s->t σ H Q->wpAny (model X.prog X.w) X.A (isTrue e X.env (eval e X.env)) (TP X pins σ Q) X.xe s
def PW (X:Cx)(e:Expr)(t:TT):Prop:=
 ∀(whole:Sem Value) (pins:List (Addr×Obj)) (s:Shared) (σ:St) (H:Hp) (Q:Bool->Hp->Prop),Inv X pins σ H s->t σ H Q->wpAny (model X.prog X.w) X.A (isTrue e X.env whole) (TP X pins σ Q) X.xe s
theorem PW.pt {X:Cx}{e:Expr}{t:TT}(h:PW X e t):PT X e t:=h _
def PA (X:Cx)(es:List Expr)(t:TA):Prop:=
 ∀(pos:Pos) (pins:List (Addr×Obj)) (s:Shared) (σ:St) (H:Hp) (Q:List V->Hp->Prop),Inv X pins σ H s->t σ H Q->wpAny (model X.prog X.w) X.A (spliced (backTo pos (starEach es X.env))) (AP X pins σ Q) X.xe s
def PS (X:Cx)(st:Stmt)(t:TS):Prop:=
 ∀(pins:List (Addr×Obj)) (s:Shared) (σ:St) (H:Hp) (D:Ends),Inv X pins σ H s->t D σ H->wpAny (model X.prog X.w) X.A (exec st X.env) (SP X pins D) X.xe s
def PSs (X:Cx)(st:List Stmt)(t:TS):Prop:=
 ∀(pins:List (Addr×Obj)) (s:Shared) (σ:St) (H:Hp) (D:Ends),Inv X pins σ H s->t D σ H->wpAny (model X.prog X.w) X.A (execs st X.env) (SP X pins D) X.xe s
theorem thn {α:Type}{t:Sem α}{Q Q':α->Shared->Prop}{M:Model}{A:Around}{E:Value->Shared->Prop}{s:Shared}(h:wpAny M A t Q E s)(hQ:∀a s,Q a s->Q' a s):wpAny M A t Q' E s:=wpAny_mono h hQ λ_ _ x=>x
section
variable {X:Cx}
theorem bin {a b:Expr}{ta tb:TE}(ha:PE X a ta)(hb:PE X b tb){pins:List (Addr×Obj)}{s:Shared}{σ:St}{H:Hp}{R:V->V->Hp->Prop}(I:Inv X pins σ H s)(h:ta σ H λx H1=>tb σ H1 λy H2=>R x y H2)
  {α:Type} {Q:α->Shared->Prop} {f:Value->Value->Sem α}
  (hf:∀v u s2 x y H2,Inv X pins σ H2 s2->RelV x v->RelV y u->R x y H2->wpAny (model X.prog X.w) X.A (f v u) Q X.xe s2):
  wpAny (model X.prog X.w) X.A (eval a X.env) (λv s₁=>wpAny (model X.prog X.w) X.A (eval b X.env) (λu s₂=>wpAny (model X.prog X.w) X.A (f v u) Q X.xe s₂) X.xe s₁) X.xe s:=by
 refine thn (ha pins s σ H _ I h) λv s1 hE=>xq2 hE λx H1 I1 r1 q1=>?_
 refine thn (hb pins s1 σ H1 _ I1 q1) λu s2 hE=>xq2 hE λy H2 I2 r2 q2=>?_
 exact hf v u s2 x y H2 I2 r1 r2 q2
def YL (i:Nat):TE:=λσ H Q=>∃v,σ[i]? = some (some v)/\Q v H
def tC (v:V):TE:=λ_ H Q=>Q v H
theorem jP {i:Nat}{x:Str}{pos:Pos}(hN:X.N[i]? = some x)(hv:Vis X.env.scope x)(hd:(x == ("__debug__" : Str))=false:=by decide)(hcd:(x == ("__classdict__" : Str))=false:=by decide):PE X (.Name x pos) (YL i):=by
 intro pins s σ H Q I h
 obtain ⟨v,e,h⟩:=h
 obtain ⟨m,hn,hl⟩:=I.loc
 obtain ⟨u,r,l⟩:=hl i x v hN e hv
 have fin:EP X pins σ Q u s:=⟨v,H,I,r,h⟩
 rcases l with ⟨hk,hm⟩ | ⟨hk,c,hc,hcell⟩
 ·exact wpAny_Name (wpAny_loadName_local I.ok.kind hk hn hm fin) hd
 ·rcases hk with hk | hk
  ·exact wpAny_Name (wpAny_loadName_cell I.ok.kind hk hc hcell fin) hd
  ·exact wpAny_Name (wpAny_loadName_free I.ok.kind hk hc hcell fin hcd) hd
theorem XC {i j pos}:PE X (.Constant (.int i) j pos) (tC (.int i)):=λ_ _ _ H _ I h=>wpAny_Constant_int ⟨.int i,H,I.tok _,⟨_,rfl⟩,h⟩
theorem Z5 {b j pos}:PE X (.Constant (.bool b) j pos) (tC (.bl b)):=λ_ _ _ H _ I h=>Constant_bool ⟨.bl b,H,I,rfl,h⟩
theorem Xf {j pos}:PE X (.Constant .none j pos) (tC .non):=λ_ _ _ H _ I h=>Constant_none ⟨.non,H,I,rfl,h⟩
theorem WD {x j pos}:PE X (.Constant (.str x) j pos) (tC (.str x)):=λ_ _ _ H _ I h=>Calls.Constant_str ⟨.str x,H,I.tok _,⟨_,rfl⟩,h⟩
def Gl (X:Cx)(x:Str):Prop:=X.env.kindOf x=some .globalImplicit
theorem Gv {E:Value->Shared->Prop}{pins:List (Addr×Obj)}{s:Shared}{σ:St}{H:Hp}{x:Str}{u:Value}{pos:Pos}{Q:Value->Shared->Prop}(I:Inv X pins σ H s)(hg:Gl X x)(hm:X.mg x=some u)(h:Q u s)
  (hd:(x == ("__debug__" : Str))=false:=by decide):wpAny (model X.prog X.w) X.A (eval (.Name x pos) X.env) Q E s:=
 Calls.Name_function_global I.ok.kind hg (Calls.loadGlobal_global (by rw [I.ok.glob];exact I.mod.glob.keeps I.bk) hm h) hd
theorem yr {E:Value->Shared->Prop}{pins:List (Addr×Obj)}{s:Shared}{σ:St}{H:Hp}{x:Str}{u:Value}{pos:Pos}{Q:Value->Shared->Prop}(I:Inv X pins σ H s)(hg:Gl X x)(hm:X.mg x=none)(hv:bootBuiltins x=some u)(h:Q u s)
  (hn:x≠"__name__":=by decide) (hd:(x == ("__debug__" : Str))=false:=by decide):wpAny (model X.prog X.w) X.A (eval (.Name x pos) X.env) Q E s:=by
 obtain ⟨mb,h1,h2⟩:=I.mod.blt
 exact Calls.Name_function_global I.ok.kind hg (Calls.loadGlobal_builtin (by rw [I.ok.glob];exact I.mod.glob.keeps I.bk) hm (by rw [I.ok.blt];exact h1.keeps I.bk) ((h2 x hn).trans hv) h) hd
theorem Tz {x:Str}{v:V}{u:Value}{pos:Pos}(hg:Gl X x)(hm:X.mg x=some u)(r:RelV v u)(hd:(x == ("__debug__" : Str))=false:=by decide):PE X (.Name x pos) (tC v):=
 λ_ _ _ H _ I h=>Gv I hg hm ⟨v,H,I,r,h⟩ hd
theorem Vy {x:Str}{v:V}{u:Value}{pos:Pos}(hg:Gl X x)(hm:X.mg x=none)(hv:bootBuiltins x=some u)(r:RelV v u)(hn:x≠"__name__":=by decide)(hd:(x == ("__debug__" : Str))=false:=by decide):PE X (.Name x pos) (tC v):=
 λ_ _ _ H _ I h=>yr I hg hm hv ⟨v,H,I,r,h⟩ hn hd
variable {a b:Expr}{ta tb:TE}{pos:Pos}
def PC (X:Cx)(op:CmpOp)(a b:Expr)(t:TE):Prop:=
 ∀(pins:List (Addr×Obj)) (s:Shared) (σ:St) (H:Hp) (Q:VK),Inv X pins σ H s->t σ H Q->
  wpAny (model X.prog X.w) X.A (eval a X.env) (λv s₁=>wpAny (model X.prog X.w) X.A (eval b X.env) (λu s₂=>wpAny (model X.prog X.w) X.A (compareOp op v u) (EP X pins σ Q) X.xe s₂) X.xe s₁) X.xe s
theorem Pj (b:Expr){op:CmpOp}(h:op≠.In)(h2:op≠.NotIn):behindInMarks op b=false:=by
 have e1:(op == CmpOp.In)=false:=by cases op<;>first | rfl | exact absurd rfl h
 have e2:(op == CmpOp.NotIn)=false:=by cases op<;>first | rfl | exact absurd rfl h2
 cases b<;>simp [behindInMarks,e1,e2]
def tB (t:TE):TT:=λσ H Q=>t σ H λx H1=>∃c,x=.bl c/\Q c H1
theorem aaj {op:CmpOp}{t:TE}(h:PC X op a b t)(h1:behindInMarks op b=false:=by first | exact Pj _ (by decide) (by decide) | rfl):PT X (.Compare a [op] [b] pos) (tB t):=by
 intro pins s σ H Q I hw
 refine wpAny_isTrue_Compare1 (thn (h pins s σ H _ I hw) λv s1 h1=>thn h1 λu s2 h2=>thn h2 λc s3 hE=>xq2 hE λx H1 I1 r1 q1=>?_) h1
 obtain ⟨d,rfl,q⟩:=q1
 cases r1
 exact wpAny_truthy_bool ⟨H1,I1,q⟩
theorem WX {e:Expr}{t:TE}(h:PE X e t)(he:∀whole,isTrue e X.env whole=(do let v ← whole;standAt e.pos;holding [v] (truthy v)):=by intro _;rfl):PT X e (tB t):=by
 intro pins s σ H Q I hw
 refine isTrue_plain (thn (h pins s σ H _ I hw) λv s1 hE=>xq2 hE λx H1 I1 r1 q1=>?_) (he _)
 obtain ⟨d,rfl,q⟩:=q1
 cases r1
 exact wpAny_truthy_bool ⟨H1,I1,q⟩
variable {tA tB':TT}{rest:List Expr}
def aaI (t u:TT):TT:=λσ H Q=>t σ H λc H1=>if c=true then u σ H1 Q else Q false H1
def tOr (t u:TT):TT:=λσ H Q=>t σ H λc H1=>if c=true then Q true H1 else u σ H1 Q
def aaT (t:TT):TT:=λσ H Q=>t σ H λc H1=>Q (!c) H1
theorem Vj (ha:PT X a tA):PW X (.BoolOp .And [a] pos) tA:=by
 intro wh pins s σ H Q I h
 refine isTrue_and (thn (ha pins s σ H Q I h) λc s1 e=>?_)
 cases c with
 |true=>exact isTrue_and_nil e
 |false=>exact e
theorem Yr (ha:PT X a tA):PW X (.BoolOp .Or [a] pos) tA:=by
 intro wh pins s σ H Q I h
 refine isTrue_or (thn (ha pins s σ H Q I h) λc s1 e=>?_)
 cases c with
 |false=>exact isTrue_or_nil e
 |true=>exact e
theorem XN (ha:PT X a tA)(hb:PW X (.BoolOp .And (b::rest) pos) tB'):PW X (.BoolOp .And (a::b::rest) pos) (aaI tA tB'):=by
 intro wh pins s σ H Q I h
 refine isTrue_and (thn (ha pins s σ H _ I h) λc s1 ⟨H1,I1,q1⟩=>?_)
 cases c with
 |true=>exact hb wh pins s1 σ H1 Q I1 q1
 |false=>exact ⟨H1,I1,q1⟩
theorem ZQ (ha:PT X a tA)(hb:PW X (.BoolOp .Or (b::rest) pos) tB'):PW X (.BoolOp .Or (a::b::rest) pos) (tOr tA tB'):=by
 intro wh pins s σ H Q I h
 refine isTrue_or (thn (ha pins s σ H _ I h) λc s1 ⟨H1,I1,q1⟩=>?_)
 cases c with
 |true=>exact ⟨H1,I1,q1⟩
 |false=>exact hb wh pins s1 σ H1 Q I1 q1
theorem X8 (ha:PT X a tA):PT X (.UnaryOp .Not a pos) (aaT tA):=by
 intro pins s σ H Q I h
 exact isTrue_not (ha pins s σ H (λc H1=>Q (!c) H1) I h)
def Ze (ta tb:TE):TE:=λσ H Q=>ta σ H λx H1=>∃c,x=.bl c/\if c=true then tb σ H1 Q else Q (.bl false) H1
def aaH (ta tb:TE):TE:=λσ H Q=>ta σ H λx H1=>∃c,x=.bl c/\if c=true then Q (.bl true) H1 else tb σ H1 Q
theorem XX {op}{t:TE}(h:PE X a t):PE X (.BoolOp op [a] pos) t:=λpins s σ H Q I hw=>BoolOp_one (h pins s σ H Q I hw)
theorem Xg (ha:PE X a ta)(hb:PE X (.BoolOp .And (b::rest) pos) tb):PE X (.BoolOp .And (a::b::rest) pos) (Ze ta tb):=by
 intro pins s σ H Q I h
 refine BoolOp_and (thn (ha pins s σ H _ I h) λv s1 hE=>xq2 hE λx H1 I1 r1 q1=>?_)
 obtain ⟨c,rfl,q1⟩:=q1
 cases r1
 refine wpAny_truthy_bool ?_
 cases c with
 |true=>exact hb pins s1 σ H1 Q I1 q1
 |false=>exact ⟨.bl false,H1,I1,rfl,q1⟩
theorem YC (ha:PE X a ta)(hb:PE X (.BoolOp .Or (b::rest) pos) tb):PE X (.BoolOp .Or (a::b::rest) pos) (aaH ta tb):=by
 intro pins s σ H Q I h
 refine BoolOp_or (thn (ha pins s σ H _ I h) λv s1 hE=>xq2 hE λx H1 I1 r1 q1=>?_)
 obtain ⟨c,rfl,q1⟩:=q1
 cases r1
 refine wpAny_truthy_bool ?_
 cases c with
 |false=>exact hb pins s1 σ H1 Q I1 q1
 |true=>exact ⟨.bl true,H1,I1,rfl,q1⟩
def tIf (t:TT)(ta tb:TE):TE:=λσ H Q=>t σ H λc H1=>if c=true then ta σ H1 Q else tb σ H1 Q
theorem Py {c:Expr}(hc:PT X c tA)(ha:PE X a ta)(hb:PE X b tb):PE X (.IfExp c a b pos) (tIf tA ta tb):=by
 intro pins s σ H Q I h
 refine wpAny_IfExp (thn (hc pins s σ H _ I h) λd s1 ⟨H1,I1,q1⟩=>?_)
 cases d with
 |true=>exact ha pins s1 σ H1 Q I1 q1
 |false=>exact hb pins s1 σ H1 Q I1 q1
end
def SqL (K:W.Frag)(H:Hp)(a:Addr)(xs:List V):Prop:=
 Rd H a (.lst xs) ∨
  ∃(o:Obj) (its:Array Value) (n:Nat),K.lookup a=some o/\o.cls=.type "list"/\o.dict=none/\o.data=.seq its n/\its.size<=sizeLine/\Vals xs its.toList
def SqT (K:W.Frag)(H:Hp)(a:Addr)(xs:List V):Prop:=
 Rd H a (.tup xs) ∨
  ∃(o:Obj) (its:Array Value) (n:Nat),K.lookup a=some o/\o.cls=.type "tuple"/\o.data=.seq its n/\its.size<=sizeLine/\Vals xs its.toList
abbrev KTp (K:W.Frag)(a:Addr)(xs:List V):Prop:=
  ∃(o:Obj) (its:Array Value) (n:Nat),K.lookup a=some o/\o.cls=.type "tuple"/\o.data=.seq its n/\its.size<=sizeLine/\Vals xs its.toList
def SqU (K:W.Frag)(H:Hp)(a:Addr)(xs:List V):Prop:=H a=some (.tup xs)\/KTp K a xs
theorem SqU.sq {K:W.Frag}{H:Hp}{a:Addr}{xs:List V}(h:SqU K H a xs):SqT K H a xs:=h.elim (λe=>.inl (.inl e)) .inr
theorem SqU.of {K:W.Frag}{H:Hp}{a:Addr}{xs:List V}(h:H a=some (.tup xs)):SqU K H a xs:=.inl h
def aaC:Value->Option V
 | .none=>some .non
 | .bool b=>some (.bl b)
 | .int i _=>some (.int i)
 | .str x _=>some (.str x)
 | .bytes b _=>some (.byt b)
 | .float b _=>some (.flt b)
 | .ref a=>some (.ref a)
 | .type n=>some (.ty n)
 |_=>none
theorem RelV.abs {x:V}{u:Value}(r:RelV x u):aaC u=some x:=by
 cases x with
 |non=>cases r;rfl
 |bl _=>cases r;rfl
 |int _=>obtain ⟨t,rfl⟩:=r;rfl
 |str _=>obtain ⟨t,rfl⟩:=r;rfl
 |byt _=>obtain ⟨t,rfl⟩:=r;rfl
 |flt _=>obtain ⟨t,rfl⟩:=r;rfl
 |ref _=>cases r;rfl
 |ty _=>cases r;rfl
theorem RelV.inj {x y:V}{u:Value}(r:RelV x u)(q:RelV y u):x=y:=Option.some.inj (r.abs.symm.trans q.abs)
theorem Vals.inj:∀{xs ys:List V} {us:List Value},Vals xs us->Vals ys us->xs=ys
 |_,_,_,.nil,.nil=>rfl
 |_,_,_,.cons r t,.cons r' t'=>by rw [r.inj r',Vals.inj t t']
section
variable {X:Cx}{pins:List (Addr×Obj)}{σ:St}{H:Hp}{s:Shared}{a:Addr}{xs ys:List V}
theorem SqL.of {K:W.Frag}(h:H a=some (.lst xs)):SqL K H a xs:=.inl (.inl h)
theorem Inv.list (I:Inv X pins σ H s)(h:SqL X.K H a xs):∃its:List Value,Vals xs its/\PlainL s.heap a its.toArray/\xs.length<=sizeLine:=by
 rcases h with h | ⟨o,its,n,hk,hc,hd,hs,hz,r⟩
 ·obtain ⟨z,its,n,r,e⟩:=h.ok I.hok
  exact ⟨its,r,⟨_,n,e,rfl,rfl,rfl⟩,z⟩
 ·refine ⟨its.toList,r,⟨o,n,I.kIn a o hk,hc,hd,by simpa using hs⟩,?_⟩
  have e:=r.length
  simp only [Array.length_toList] at e
  omega
theorem Inv.tuple (I:Inv X pins σ H s)(h:SqT X.K H a xs):∃its:List Value,Vals xs its/\IsTup s.heap a its.toArray/\xs.length<=sizeLine:=by
 rcases h with h | ⟨o,its,n,hk,hc,hs,hz,r⟩
 ·obtain ⟨z,its,r,p⟩:=h.ok I.hok
  exact ⟨its,r,p,z⟩
 ·refine ⟨its.toList,r,⟨o,I.kIn a o hk,hc,n,by simpa using hs⟩,?_⟩
  have e:=r.length
  simp only [Array.length_toList] at e
  omega
theorem Inv.wY (I:Inv X pins σ H s)(h:SqL X.K H a xs)(h':SqL X.K H a ys):xs=ys:=by
 obtain ⟨its,r,⟨o,n,e,_,_,d⟩,_⟩:=I.list h
 obtain ⟨its',r',⟨o',n',e',_,_,d'⟩,_⟩:=I.list h'
 rw [e] at e';cases e'
 rw [d] at d'
 injection d' with d1 _
 have:its=its':=by simpa using congrArg Array.toList d1
 subst this
 exact r.inj r'
theorem Inv.M8 (I:Inv X pins σ H s)(h:SqT X.K H a xs)(h':SqT X.K H a ys):xs=ys:=by
 obtain ⟨its,r,⟨o,e,_,n,d⟩,_⟩:=I.tuple h
 obtain ⟨its',r',⟨o',e',_,n',d'⟩,_⟩:=I.tuple h'
 rw [e] at e';cases e'
 rw [d] at d'
 injection d' with d1 _
 have:its=its':=by simpa using congrArg Array.toList d1
 subst this
 exact r.inj r'
end
abbrev Cx.wish (X:Cx)(E:Value->Shared->Prop):Cx:={ X with xe:=E }
theorem Cx.Ok.wish {X:Cx}(ok:X.Ok)(E:Value->Shared->Prop):(X.wish E).Ok:=
 ⟨ok.mod,ok.kind,ok.glob,ok.blt,ok.above,ok.inj,ok.has,ok.cab,ok.hd,ok.frames,ok.stk,ok.exf,ok.bs,ok.bsz,ok.noex,ok.exfs,ok.wX,ok.frf⟩
section
variable {X:Cx}{pins:List (Addr×Obj)}{σ:St}{H:Hp}{s:Shared}{E:Value->Shared->Prop}
theorem Inv.wish (I:Inv X pins σ H s)(E:Value->Shared->Prop):Inv (X.wish E) pins σ H s:=⟨I.ok.wish E,I.os,I.bare,I.base,I.loc,I.cell,I.free,I.freeC,I.pin,I.hok,I.len⟩
end
section
variable {X:Cx}{st:Stmt}{rest:List Stmt}{t u:TS}{e:Expr}{te:TE}{pos:Pos}
def ZZ:TS:=λD σ H=>D.nx σ H
def ZV (t u:TS):TS:=λD σ H=>t { D with nx:=u D } σ H
theorem Vp:PSs X [] ZZ:=λ_ _ σ H _ I h=>wpAny_execs_nil ⟨σ,H,I,h⟩
theorem sU (h1:PS X st t)(h2:PSs X rest u):PSs X (st::rest) (ZV t u):=by
 intro pins s σ H D I h
 refine wpAny_execs_cons (thn (h1 pins s σ H { D with nx:=u D } I h) λf s1 q=>?_)
 cases f with
 |next=>
  obtain ⟨σ',H',I',q⟩:=q
  exact h2 pins s1 σ' H' D I' q
 |ret v=>exact q
 |brk=>exact q
 |cont=>exact q
theorem Lk (h1:PS X st t):PSs X [st] t:=by
 intro pins s σ H D I h
 refine wpAny_execs_cons (thn (h1 pins s σ H D I h) λf s1 q=>?_)
 cases f with
 |next=>exact wpAny_execs_nil q
 |ret v=>exact q
 |brk=>exact q
 |cont=>exact q
theorem Inv.quiet {pins:List (Addr×Obj)}{σ:St}{H:Hp}{s:Shared}(I:Inv X pins σ H s):interactive X.env=false:=by simp [interactive,I.ok.kind]
def ZW (te:TE):TS:=λD σ H=>te σ H λ_ H1=>D.nx σ H1
theorem w6 (he:PE X e te)(hs:swapsWith e none pos.line X.env=pure false:=by rfl):PS X (.Expr e pos) (ZW te):=by
 intro pins s σ H D I h
 exact wpAny_Expr_any (thn (he pins s σ H _ I h) λv s1 hE=>xq2 hE λx H1 I1 r1 q1=>⟨σ,H1,I1,q1⟩) I.quiet hs
def aan (te:TE):TS:=λD σ H=>te σ H D.rt
theorem DR (he:PE X e te):PS X (.Return (some e) pos) (aan te):=by
 intro pins s σ H D I h
 exact wpAny_Return_some (thn (he pins s σ H _ I h) λv s1 hE=>xq2 hE λx H1 I1 r1 q1=>⟨x,σ,H1,I1,r1,q1⟩)
def aam (c:TT)(t u:TS):TS:=λD σ H=>c σ H λb H1=>if b=true then t D σ H1 else u D σ H1
theorem YT {c:Expr}{a b:List Stmt}{tc:TT}(hc:PT X c tc)(ha:PSs X a t)(hb:PSs X b u):PS X (.If c a b pos) (aam tc t u):=by
 intro pins s σ H D I h
 refine wpAny_If (thn (hc pins s σ H _ I h) λd s1 ⟨H1,I1,q1⟩=>?_)
 cases d with
 |true=>exact ha pins s1 σ H1 D I1 q1
 |false=>exact hb pins s1 σ H1 D I1 q1
end
abbrev TG:=V->St->Hp->(St->Hp->Prop)->Prop
abbrev TGs:=List V->St->Hp->(St->Hp->Prop)->Prop
def PG (X:Cx)(target:Expr)(t:TG):Prop:=
 ∀(pins:List (Addr×Obj)) (s:Shared) (σ:St) (H:Hp) (v:V) (u:Value) (Q:St->Hp->Prop),Inv X pins σ H s->RelV v u->t v σ H Q->
  wpAny (model X.prog X.w) X.A (assign target X.env u) (λ_ s'=>∃σ' H',Inv X pins σ' H' s'/\Q σ' H') X.xe s
def PGs (X:Cx)(ts:List Expr)(t:TGs):Prop:=
 ∀(pins:List (Addr×Obj)) (s:Shared) (σ:St) (H:Hp) (vs:List V) (us:List Value) (Q:St->Hp->Prop),Inv X pins σ H s->Vals vs us->t vs σ H Q->
  wpAny (model X.prog X.w) X.A (assignInOrder ((assignEach ts X.env).map (·.2)) us) (λ_ s'=>∃σ' H',Inv X pins σ' H' s'/\Q σ' H') X.xe s
abbrev W9:=V->V->V->Hp->(Hp->Prop)->Prop
def YK (X:Cx)(t:W9):Prop:=
 ∀(pins:List (Addr×Obj)) (s:Shared) (σ:St) (H:Hp) (o i v:V) (ov iv u:Value) (Q:Hp->Prop),Inv X pins σ H s->RelV o ov->RelV i iv->RelV v u->t o i v H Q->
  wpAny (model X.prog X.w) X.A (setItem ov iv u) (λ_ s'=>∃H',Inv X pins σ H' s'/\Q H') X.xe s
section
variable {X:Cx}{pos:Pos}
def Ax (i:Nat):TG:=λv σ H Q=>Q (σ.set i (some v)) H
theorem Up {i:Nat}{x:Str}(hN:X.N.Nodup)(hi:X.N[i]? = some x)(hx:Loc X.env.scope x)(hf:X.fn x=true\/X.env.scope.names.lookup x=some .local:=by first | exact .inl rfl | exact .inr rfl | assumption):PG X (.Name x pos) (Ax i):=by
 intro pins s σ H v u Q I r h
 exact wpAny_assign_Name (xQ I hN hi hx r (λs' I'=>⟨_,H,I',h⟩) hf)
def aaG:TGs:=λvs σ H Q=>vs=[]/\Q σ H
def Zv (t:TG)(u:TGs):TGs:=λvs σ H Q=>∃v r,vs=v::r/\t v σ H λσ' H'=>u r σ' H' Q
theorem Tc:PGs X [] aaG:=by
 intro pins s σ H vs us Q I r h
 obtain ⟨e,h⟩:=h
 subst e
 cases r
 exact assignInOrder_nil ⟨σ,H,I,h⟩
theorem Qz {e:Expr}{es:List Expr}{t:TG}{u:TGs}(h1:PG X e t)(h2:PGs X es u)
  (hs:(assignEach (e::es) X.env).map (·.2)=assign e X.env::(assignEach es X.env).map (·.2):=by rfl):PGs X (e::es) (Zv t u):=by
 intro pins s σ H vs us Q I r h
 obtain ⟨v,vr,e1,h⟩:=h
 subst e1
 cases r with
 |cons r rr=>
  rw [hs]
  refine assignInOrder_cons (thn (h1 pins s σ H _ _ _ I r h) λ_ s1 ⟨σ1,H1,I1,q1⟩=>?_)
  exact h2 pins s1 σ1 H1 _ _ Q I1 rr q1
def aaq (K:W.Frag)(n:Nat)(t:TGs):TG:=λv σ H Q=>∃a xs,v=.ref a/\SqT K H a xs/\xs.length=n/\t xs σ H Q
theorem Wl {es:List Expr}{k:Nat}{t:TGs}{n:Nat}(hc:X.calm=true)(h:PGs X es t)
  (hn:(assignEach es X.env).length=n:=by rfl) (hst:(assignEach es X.env).findIdx? (·.1)=none:=by rfl):PG X (.Tuple es k pos) (aaq X.K n t):=by
 intro pins s σ H v u Q I r hw
 obtain ⟨a,xs,e1,hq,hl,hw⟩:=hw
 subst e1
 cases r
 obtain ⟨its,rv,ht,hz⟩:=I.tuple hq
 refine assign_Tuple_tuple (I.ok.hd hc) ht (by simp [hn,← hl,rv.length]) hst λh' hx=>?_
 have I1:Inv X pins σ H { s with heap:=h' }:=I.kept (t':=s.toks) λb o e=>hx b o (Nat.ne_of_lt (Heap.lt_size e)) e
 exact h pins _ σ H xs _ Q I1 (by simpa using rv) hw
def yP (to ti:TE)(t:W9):TG:=λv σ H Q=>to σ H λo H1=>ti σ H1 λi H2=>t o i v H2 λH3=>Q σ H3
theorem Jx {o i:Expr}{to ti:TE}{t:W9}(ho:PE X o to)(hi:PE X i ti)(hs:YK X t)
  (ha:∀v,assign (.Subscript o i pos) X.env v=(do
   let ov ← holding [v] (eval o X.env)
   let iv ← holding [v,ov] (eval i X.env)
   standAt pos
   holding [v,ov,iv] (setItem ov iv v)
   release [v,ov,iv] []):=by intro _;rfl):PG X (.Subscript o i pos) (yP to ti t):=by
 intro pins s σ H v u Q I r h
 rw [ha]
 refine wpAny_bind (wpAny_holding (thn (ho pins s σ H _ I h) λov s1 hE=>xq2 hE λx H1 I1 r1 q1=>?_))
 refine wpAny_bind (wpAny_holding (thn (hi pins s1 σ H1 _ I1 q1) λiv s2 hE=>xq2 hE λy H2 I2 r2 q2=>?_))
 refine wpAny_bind (wpAny_standAt (wpAny_bind (wpAny_holding (thn (hs pins s2 σ H2 x y v ov iv u _ I2 r1 r2 r q2) λ_ s3 ⟨H3,I3,q3⟩=>?_))))
 exact wpAny_release ⟨σ,H3,I3,q3⟩
def Pb (te:TE)(g:TG):TS:=λD σ H=>te σ H λx H1=>g x σ H1 D.nx
theorem IV {tg e:Expr}{te:TE}{g:TG}(he:PE X e te)(hg:PG X tg g)(hs:swapsWithSole [tg] e pos.line X.env=pure false:=by rfl)(hw:swappedStores [tg] e X.env=pure none:=by rfl)
  (h1:(assignEach [tg] X.env).map (·.2)=[assign tg X.env]:=by rfl):PS X (.Assign [tg] e pos) (Pb te g):=by
 intro pins s σ H D I h
 refine wpAny_Assign_stores (thn (he pins s σ H _ I h) λv s1 hE=>xq2 hE λx H1 I1 r1 q1=>?_) hs hw
 rw [h1]
 exact thn (hg pins s1 σ H1 x v _ I1 r1 q1) λ_ s2 q=>q
theorem Bo {i:Nat}{x:Str}{e:Expr}{te:TE}{pos':Pos}(hN:X.N.Nodup)(hi:X.N[i]? = some x)(hx:Loc X.env.scope x)(he:PE X e te)(hs:swapsWith e (some (.Name x pos')) pos.line X.env=pure false:=by rfl)(hf:X.fn x=true\/X.env.scope.names.lookup x=some .local:=by first | exact .inl rfl | exact .inr rfl | assumption):
  PS X (.Assign [.Name x pos'] e pos) (Pb te (Ax i)):=by
 intro pins s σ H D I h
 refine wpAny_Assign_Name (thn (he pins s σ H _ I h) λv s1 hE=>xq2 hE λy H1 I1 r1 q1=>?_) hs
 exact xQ I1 hN hi hx r1 (λs2 I2=>⟨_,H1,I2,q1⟩) hf
def aal (i j:Nat)(ta:TA):TS:=λD σ H=>ta σ H λvs H1=>∃v w,vs=[v,w]/\D.nx ((σ.set i (some v)).set j (some w)) H1
theorem X3 {i j:Nat}{x y:Str}{a b:Expr}{ta:TA}{px py pt:Pos}{kt k2 pt2}(hc:X.calm=true)(hN:X.N.Nodup)(hi:X.N[i]? = some x)(hj:X.N[j]? = some y)(hij:i≠j)
  (hx:X.env.scope.names.lookup x=some .local) (hy:X.env.scope.names.lookup y=some .local) (ha:PA X [a,b] ta)
  (hw:swappedStores [.Tuple [.Name x px,.Name y py] kt pt] (.Tuple [a,b] k2 pt2) X.env=pure (some [x,y]))
  (hs:swapsWithSole [.Tuple [.Name x px,.Name y py] kt pt] (.Tuple [a,b] k2 pt2) pos.line X.env=pure false:=by rfl):
  PS X (.Assign [.Tuple [.Name x px,.Name y py] kt pt] (.Tuple [a,b] k2 pt2) pos) (aal i j ta):=by
 intro pins s σ H D I h
 rw [exec_Assign_arm]
 refine wpAny_bind (wpAny_standAt ?_)
 rw [hs]
 refine wpAny_bind (wpAny_pure ?_)
 rw [if_neg (by decide)]
 refine wpAny_bind (Tuple_ (thn (ha _ pins s σ H _ I h) λus s1 hE=>xq2 hE λvs H1 I1 r1 q1=>?_))
 obtain ⟨v,w,e1,q1⟩:=q1
 subst e1
 obtain ⟨u1,u2,rfl,rv,rw'⟩:∃u1 u2,us=[u1,u2]/\RelV v u1/\RelV w u2:=by
  cases r1 with
  |cons p q=>
   cases q with
   |cons p' q'=>
    cases q'
    exact ⟨_,_,rfl,p,p'⟩
 refine wpAny_newObj_type ?_ (by show 2<=sizeLine;decide)
 have I2:Inv X pins σ H1 { s1 with heap:=s1.heap.push { cls:=.type "tuple",data:=.seq [u1,u2].toArray } }:=I1.kept (t':=s1.toks) λb o e=>Heap.get?_push_of_some _ e
 rw [hw]
 refine wpAny_bind (wpAny_pure ?_)
 show wpAny (model X.prog X.w) X.A (do rule "assign.swapped-stores";let items ← unpackItems (.ref s1.heap.objs.size) 2 none;assignInOrder [λv=>bindName X.env y v,λv=>bindName X.env x v] items.reverse;pure Flow.next) _ _ _
 refine wpAny_bind (wpAny_rule (wpAny_bind (unpackItems_tuple (items:=#[u1,u2]) (I.ok.hd hc) (IsTup.new s1.heap _) λh' hx'=>?_)))
 have I3:=I2.kept (h':=h') (t':=s1.toks) λb o e=>hx' b o (Nat.ne_of_lt (Heap.lt_size e)) e
 show wpAny _ _ (assignInOrder [λv=>bindName X.env y v,λv=>bindName X.env x v] [u2,u1] >>= λ_=>pure Flow.next) _ _ _
 refine wpAny_bind (assignInOrder_cons (wpAny_bindName (xQ I3 hN hj (.inl hy) rw' (λs2 I4=>?_) (.inr hy))))
 refine assignInOrder_cons (wpAny_bindName (xQ I4 hN hi (.inl hx) rv (λs3 I5=>assignInOrder_nil (wpAny_pure ?_)) (.inr hx)))
 rw [List.set_comm _ _ (Ne.symm hij)] at I5
 exact ⟨_,H1,I5,q1⟩
end
section
variable {X:Cx}{pos:Pos}
def WM (c:TT)(tb:TS):TS:=λD σ H=>∃W:Nat->St->Hp->Prop,(∃m,W m σ H)/\∀m σ H,W m σ H->
 c σ H λb H1=>if b=true then ∃N:St->Hp->Prop,(∀σ' H',N σ' H'->∃m',m'<m/\W m' σ' H')/\tb { D with nx:=N,ct:=N,bk:=D.nx } σ H1 else D.nx σ H1
theorem O7 {c:Expr}{body:List Stmt}{tc:TT}{tb:TS}(hp:PassesOwn (model X.prog X.w) X.A X.env X.xe)(hc:PT X c tc)(hb:PSs X body tb):PS X (.While c body [] pos) (WM tc tb):=by
 intro pins s σ H D I h
 obtain ⟨W,⟨m0,w0⟩,turn⟩:=h
 refine wpAny_While (codeAny_whileLoop (λn s'=>∃σ' H',Inv X pins σ' H' s'/\W n σ' H') ?_ m0 ⟨σ,H,I,w0⟩)
 rintro n s1 ⟨σ1,H1,I1,w1⟩
 refine wpAny_passesOwn hp (thn (hc pins s1 σ1 H1 _ I1 (turn n σ1 H1 w1)) λb s2 ⟨H2,I2,q2⟩=>?_)
 cases b with
 |true=>
  obtain ⟨N,hN,q2⟩:=q2
  rw [if_pos rfl]
  refine wpAny_passesOwn hp (thn (hb pins s2 σ1 H2 _ I2 q2) λf s3 q3=>?_)
  cases f with
  |next=>
   obtain ⟨σ3,H3,I3,n3⟩:=q3
   obtain ⟨m',hm,w3⟩:=hN σ3 H3 n3
   exact ⟨m',hm,σ3,H3,I3,w3⟩
  |cont=>
   obtain ⟨σ3,H3,I3,n3⟩:=q3
   obtain ⟨m',hm,w3⟩:=hN σ3 H3 n3
   exact ⟨m',hm,σ3,H3,I3,w3⟩
  |brk=>exact q3
  |ret v=>exact q3
 |false=>
  rw [if_neg Bool.false_ne_true]
  exact wpAny_execs_nil ⟨σ1,H2,I2,q2⟩
end
structure It where
 go:Nat->Hp->Prop
 yld:Nat->Hp->V->Hp->Prop
 stop:Nat->Hp->Prop
def wJ (X:Cx)(pins:List (Addr×Obj))(H:Hp)(b:Addr):Prop:=
 H b=none/\b≠X.env.locals/\b∉X.fs/\(b∈X.ex\/X.s₀.heap.objs.size<=b)/\(∀x c,X.env.cells.lookup x=some c->c≠b)/\∀p∈X.pn++pins,p.1≠b
theorem Inv.Q7 {X:Cx}{pins:List (Addr×Obj)}{σ:St}{H H':Hp}{s:Shared}{b:Addr}(I:Inv X pins σ H s)(hb:s.heap.objs.size<=b)(hn:H' b=none):wJ X pins H' b:=by
 refine ⟨hn,Nat.ne_of_gt (Nat.lt_of_lt_of_le I.lt hb),I.aay hb,.inr (Nat.le_trans I.sz hb),λx c e z=>?_,λp hp z=>?_⟩
 ·obtain ⟨v,q⟩:=I.cell x c e
  exact absurd (Nat.lt_of_lt_of_le q.lt (by rw [z];exact hb)) (Nat.lt_irrefl _)
 ·exact absurd (Nat.lt_of_lt_of_le (Heap.lt_size (I.pin p hp).1) (by rw [z];exact hb)) (Nat.lt_irrefl _)
structure Turn (P:Program)(w:World)(K:W.Frag)(tg:Expr)(J:It)(fp:List Addr)(it:Addr)(tn:Nat->Heap->Prop):Prop where
 mem:it∈fp
 obj:∀i h,tn i h->∀b∈fp,∃o,h.get? b=some o/\∀v,o.data≠.cell v
 keep:∀i h h',tn i h->(∀b∈fp,∀o,h.get? b=some o->h'.get? b=some o)->tn i h'
 item:∀(X:Cx),X.prog=P->X.w=w->X.K=K->X.calm=true->∀(i:Nat) (pins:List (Addr×Obj)) (s:Shared) (σ:St) (H:Hp) (E:Value->Shared->Prop),Inv X pins σ H s->(∀b∈fp,wJ X pins H b)->tn i s.heap->J.go i H->
  wpAny (model P w) X.A (pyNext (.ref it)) (λr s1=>∃u,r=some u/\
   wpAny (model P w) X.A (letOwnedTupleGo tg (.ref it) u) (λ_ s2=>∃x H',Inv X pins σ H' s2/\RelV x u/\J.yld i H x H'/\tn (i+1) s2.heap/\∀b∈fp,H' b=none) E s1) E s
 done:∀(X:Cx),X.prog=P->X.w=w->X.K=K->X.calm=true->∀(i:Nat) (pins:List (Addr×Obj)) (s:Shared) (σ:St) (H:Hp) (E:Value->Shared->Prop),Inv X pins σ H s->(∀b∈fp,wJ X pins H b)->tn i s.heap->J.stop i H->
  wpAny (model P w) X.A (pyNext (.ref it)) (λr s1=>r=none/\Inv X pins σ H s1) E s
 self:∀(A:Around) (i:Nat) (s:Shared) (Q:Value->Shared->Prop) (E:Value->Shared->Prop),tn i s.heap->Q (.ref it) s->wpAny (model P w) A (pyIter (.ref it)) Q E s
abbrev TI:=St->Hp->(It->Hp->Prop)->Prop
def PIE (X:Cx)(pins:List (Addr×Obj))(σ:St)(tg:Expr)(R:It->Hp->Prop)(itv:Value)(s2:Shared):Prop:=
 ∃(it:Addr) (fp:List Addr) (tn:Nat->Heap->Prop) (J:It) (H':Hp),itv=.ref it/\Inv X pins σ H' s2/\Turn X.prog X.w X.K tg J fp it tn/\tn 0 s2.heap/\(∀b∈fp,wJ X pins H' b)/\R J H'
def PI (X:Cx)(tg iter:Expr)(wi:TI):Prop:=
 ∀(pins:List (Addr×Obj)) (s:Shared) (σ:St) (H:Hp) (R:It->Hp->Prop),Inv X pins σ H s->wi σ H R->
  wpAny (model X.prog X.w) X.A (eval iter X.env) (λv s1=>wpAny (model X.prog X.w) X.A (pyIter v) (PIE X pins σ tg R) X.xe s1) X.xe s
theorem Px {M : Model} {A : Around} {E : Value → Shared → Prop} {s : Shared} {tg : Expr} {it : Addr} {u : Value} {o : Obj} {n : String} {vs : Array Value} {Q : Unit → Shared → Prop} (ho : s.heap.get? it = some o) (hc : o.cls = .type n) (hd : o.data = .fields vs)
    (hn : ["enumerate", "zip", "dict_itemiterator", "dict_reverseitemiterator", "odict_iterator", "itertools.zip_longest", "itertools.pairwise"].contains n = false) (hQ : Q () s) : wpAny M A (letOwnedTupleGo tg (.ref it) u) Q E s := by
  unfold letOwnedTupleGo
  cases tg<;>first
    | exact wpAny_pure hQ
    | (cases u<;>first
        | exact wpAny_pure hQ
        | (refine wpAny_bind (wpAny_load ho ?_)
           rw [hc, hd]
           show wpAny M A (if (["enumerate", "zip", "dict_itemiterator", "dict_reverseitemiterator", "odict_iterator", "itertools.zip_longest", "itertools.pairwise"].contains n && vs[0]? == some (rawInt _)) = true then _ else _) Q E s
           rw [if_neg (by intro h;rw [hn, Bool.false_and] at h;cases h)]
           exact wpAny_pure hQ))
def Itl (K:W.Frag)(a:Addr):It:=
 ⟨λi H=>∃xs x,SqL K H a xs/\xs[i]? = some x,λi H x H'=>H'=H/\∀xs,SqL K H a xs->xs[i]? = some x,λi H=>∃xs,SqL K H a xs/\xs.length<=i⟩
def Itt (K:W.Frag)(a:Addr):It:=
 ⟨λi H=>∃xs x,SqT K H a xs/\xs[i]? = some x,λi H x H'=>H'=H/\∀xs,SqT K H a xs->xs[i]? = some x,λi H=>∃xs,SqT K H a xs/\xs.length<=i⟩
def Itr (lo:Int)(n:Nat):It:=⟨λi _=>i<n,λi H x H'=>H'=H/\x=.int (lo+i),λi _=>n<=i⟩
theorem N8 {P:Program}{w:World}{K:W.Frag}{tg:Expr}(a it:Addr):Turn P w K tg (Itl K a) [it] it (λi h=>h.IsListIter it a i) where
 mem:=by simp
 obj:=λi h st b hb=>by
  have e:b=it:=by simpa using hb
  subst e
  obtain ⟨o,e,c,d⟩:=st
  exact ⟨o,e,λv z=>by rw [d] at z;cases z⟩
 keep:=λi h h' st k=>st.at λo e=>k it (by simp) o e
 item:=by
  intro X hP hw hK hc i pins s σ H E I hf st hg
  subst hP hw hK
  obtain ⟨xs,x,hq,hx⟩:=hg
  obtain ⟨its,rv,p,hz⟩:=I.list hq
  obtain ⟨u,hu,ru⟩:=rv.get hx
  obtain ⟨f0,f1,f2,f3,f4,f5⟩:=hf it (by simp)
  refine wpAny_pyNext_list_item st p.isList (x:=u) (by simpa using hu) λh' st' sb=>?_
  have I1:Inv X pins σ H { s with heap:=h' }:=I.turned (t':=s.toks) (λb o hb e=>(sb.2 b hb).trans e) f0 f1 f3 f4 f5
  obtain ⟨o,e,c,d⟩:=id st'
  exact ⟨u,rfl,Px (s:={ s with heap:=h' }) e c d (by decide) ⟨x,H,I1,ru,⟨rfl,λys hy=>by rw [I.wY hy hq];exact hx⟩,st',λb hb=>(hf b hb).1⟩⟩
 done:=by
  intro X hP hw hK hc i pins s σ H E I hf st hg
  subst hP hw hK
  obtain ⟨xs,hq,hx⟩:=hg
  obtain ⟨its,rv,p,hz⟩:=I.list hq
  obtain ⟨f0,f1,f2,f3,f4,f5⟩:=hf it (by simp)
  have hl:=rv.length
  exact wpAny_pyNext_list_end (I.ok.hd hc) st p.isList (by simp;omega) λh' eb=>⟨rfl,I.turned (t':=s.toks) (λb o hb e=>eb b o hb e) f0 f1 f3 f4 f5⟩
 self:=λ_ _ _ _ _ st h=>wpAny_pyIter_listiter st h
theorem Iz {P:Program}{w:World}{K:W.Frag}{tg:Expr}(a it:Addr):Turn P w K tg (Itt K a) [it] it (λi h=>h.IsTupleIter it a i) where
 mem:=by simp
 obj:=λi h st b hb=>by
  have e:b=it:=by simpa using hb
  subst e
  obtain ⟨o,e,c,d⟩:=st
  exact ⟨o,e,λv z=>by rw [d] at z;cases z⟩
 keep:=λi h h' st k=>st.at λo e=>k it (by simp) o e
 item:=by
  intro X hP hw hK hc i pins s σ H E I hf st hg
  subst hP hw hK
  obtain ⟨xs,x,hq,hx⟩:=hg
  obtain ⟨its,rv,p,hz⟩:=I.tuple hq
  obtain ⟨u,hu,ru⟩:=rv.get hx
  obtain ⟨f0,f1,f2,f3,f4,f5⟩:=hf it (by simp)
  refine wpAny_pyNext_tuple_item st (show s.heap.IsTuple a its.toArray from p) (x:=u) (by simpa using hu) λh' st' sb=>?_
  have I1:Inv X pins σ H { s with heap:=h' }:=I.turned (t':=s.toks) (λb o hb e=>(sb.2 b hb).trans e) f0 f1 f3 f4 f5
  obtain ⟨o,e,c,d⟩:=id st'
  exact ⟨u,rfl,Px (s:={ s with heap:=h' }) e c d (by decide) ⟨x,H,I1,ru,⟨rfl,λys hy=>by rw [I.M8 hy hq];exact hx⟩,st',λb hb=>(hf b hb).1⟩⟩
 done:=by
  intro X hP hw hK hc i pins s σ H E I hf st hg
  subst hP hw hK
  obtain ⟨xs,hq,hx⟩:=hg
  obtain ⟨its,rv,p,hz⟩:=I.tuple hq
  obtain ⟨f0,f1,f2,f3,f4,f5⟩:=hf it (by simp)
  have hl:=rv.length
  exact wpAny_pyNext_tuple_end (I.ok.hd hc) st (show s.heap.IsTuple a its.toArray from p) (by simp;omega) λh' eb=>⟨rfl,I.turned (t':=s.toks) (λb o hb e=>eb b o hb e) f0 f1 f3 f4 f5⟩
 self:=λ_ _ _ _ _ st h=>wpAny_pyIter_tupleiter st h
theorem J0 {P:Program}{w:World}{K:PySem.W.Frag}{tg:Expr}(it:Addr)(lo:Int)(n:Nat):Turn P w K tg (Itr lo n) [it] it (λi h=>IsRangeIter h it (lo+(i:Nat)*1) ((n:Int)-(i:Nat)) 1) where
 mem:=by simp
 obj:=λi h st b hb=>by
  have e:b=it:=by simpa using hb
  subst e
  exact ⟨_,st,λv z=>by
   have z':Data.fields _=Data.cell v:=z
   cases z'⟩
 keep:=λi h h' st k=>k it (by simp) _ st
 item:=by
  intro X hP hw hK hc i pins s σ H E I hf st hg
  subst hP hw hK
  obtain ⟨f0,f1,f2,f3,f4,f5⟩:=hf it (by simp)
  have W:=Walks.range (prog:=X.prog) (w:=X.w) (I.ok.hd hc) it lo 1 n
  refine W.item i s _ _ hg st λv h' tk hv st' kk=>?_
  obtain ⟨t,rfl⟩:=hv
  have I1:Inv X pins σ H { s with heap:=h',toks:=tk }:=I.turned (λb o hb e=>kk b o (by simpa using hb) e) f0 f1 f3 f4 f5
  refine ⟨_,rfl,Px (s:={ s with heap:=h',toks:=tk }) (n:="range_iterator") st' rfl rfl (by decide) ⟨.int (lo+i),H,I1,⟨t,?_⟩,⟨rfl,rfl⟩,st',λb hb=>(hf b hb).1⟩⟩
  rw [Int.mul_one]
 done:=by
  intro X hP hw hK hc i pins s σ H E I hf st hg
  subst hP hw hK
  obtain ⟨f0,f1,f2,f3,f4,f5⟩:=hf it (by simp)
  exact wpAny_pyNext_range_end (I.ok.hd hc) st (by have:n<=i:=hg;omega) λh' eb=>⟨rfl,I.turned (t':=s.toks) (λb o hb e=>eb b o hb e) f0 f1 f3 f4 f5⟩
 self:=λ_ _ _ _ _ st h=>wpAny_pyIter_rangeiter st h
section
variable {X:Cx}{tg:Expr}
def Y7 (K:W.Frag)(tl:TE):TI:=λσ H R=>tl σ H λx H1=>∃a,x=.ref a/\(∃xs,SqL K H1 a xs)/\R (Itl K a) H1
def aah (K:W.Frag)(tl:TE):TI:=λσ H R=>tl σ H λx H1=>∃a,x=.ref a/\(∃xs,SqT K H1 a xs)/\R (Itt K a) H1
theorem Li {l:Expr}{tl:TE}(hl:PE X l tl):PI X tg l (Y7 X.K tl):=by
 intro pins s σ H R I h
 refine thn (hl pins s σ H _ I h) λv s1 hE=>xq2 hE λx H1 I1 r1 q1=>?_
 obtain ⟨a,e,⟨xs,hq⟩,q⟩:=q1
 subst e
 cases r1
 obtain ⟨its,rv,p,hz⟩:=I1.list hq
 refine wpAny_pyIter_list p.isList ?_
 refine ⟨s1.heap.objs.size,[s1.heap.objs.size],_,_,H1,rfl,I1.kept (t':=s1.toks) λb o e=>Heap.get?_push_of_some _ e,N8 a _,⟨_,Heap.get?_push_size _ rfl,rfl,rfl⟩,λb hb=>?_,q⟩
 have e:b=s1.heap.objs.size:=by simpa using hb
 subst e
 exact I1.Q7 (Nat.le_refl _) (I1.hok.fresh (Nat.le_refl _))
theorem XJ {l:Expr}{tl:TE}(hl:PE X l tl):PI X tg l (aah X.K tl):=by
 intro pins s σ H R I h
 refine thn (hl pins s σ H _ I h) λv s1 hE=>xq2 hE λx H1 I1 r1 q1=>?_
 obtain ⟨a,e,⟨xs,hq⟩,q⟩:=q1
 subst e
 cases r1
 obtain ⟨its,rv,p,hz⟩:=I1.tuple hq
 refine wpAny_pyIter_tuple (show s1.heap.IsTuple a its.toArray from p) ?_
 refine ⟨s1.heap.objs.size,[s1.heap.objs.size],_,_,H1,rfl,I1.kept (t':=s1.toks) λb o e=>Heap.get?_push_of_some _ e,Iz a _,⟨_,Heap.get?_push_size _ rfl,rfl,rfl⟩,λb hb=>?_,q⟩
 have e:b=s1.heap.objs.size:=by simpa using hb
 subst e
 exact I1.Q7 (Nat.le_refl _) (I1.hok.fresh (Nat.le_refl _))
theorem Ph {pins:List (Addr×Obj)}{σ:St}{H:Hp}{s:Shared}{R:It->Hp->Prop}{E:Value->Shared->Prop}{lo hi:Int}{t u v:Tok}{tk:Nat}(I:Inv X pins σ H s)(h1:-(2 ^ 62)<=lo)(h2:lo<2 ^ 62)(h3:-(2 ^ 62)<=hi)(h4:hi<2 ^ 62)
  (q:R (Itr lo (hi-lo).toNat) H):wpAny (model X.prog X.w) X.A (pyIter (.ref s.heap.objs.size)) (PIE X pins σ tg R) E { s with heap:=s.heap.push { cls:=.type "range",data:=.fields #[.int lo t,.int hi u,.int 1 v] },toks:=tk }:=by
 refine wpAny_pyIter_range (IsRange.new ..) (small_one h1 h2 h3 h4) ?_
 have I1:Inv X pins σ H { s with heap:=s.heap.push { cls:=.type "range",data:=.fields #[.int lo t,.int hi u,.int 1 v] },toks:=tk }:=I.kept λb o e=>Heap.get?_push_of_some _ e
 refine ⟨(s.heap.push { cls:=.type "range",data:=.fields #[.int lo t,.int hi u,.int 1 v] }).objs.size,[(s.heap.push { cls:=.type "range",data:=.fields #[.int lo t,.int hi u,.int 1 v] }).objs.size],_,_,H,rfl,
  I1.kept (t':=tk) λb o e=>Heap.get?_push_of_some _ e,J0 _ lo (hi-lo).toNat,?_,λb hb=>?_,q⟩
 ·have e1:lo+((0:Nat):Int)*1=lo:=by simp
  have e2:(((hi-lo).toNat:Nat):Int)-((0:Nat):Int)=Builtin.Range.rangeSize lo hi 1:=by rw [rangeSize_one];split<;>omega
  show IsRangeIter _ _ (lo+((0:Nat):Int)*1) ((((hi-lo).toNat:Nat):Int)-((0:Nat):Int)) 1
  rw [e1,e2]
  exact Heap.get?_push_size _ rfl
 ·have e:b=(s.heap.push { cls:=.type "range",data:=.fields #[.int lo t,.int hi u,.int 1 v] }).objs.size:=by simpa using hb
  subst e
  exact I1.Q7 (Nat.le_refl _) (I1.hok.fresh (Nat.le_refl _))
def ZJ (ta:TA):TI:=λσ H R=>ta σ H λvs H1=>∃j:Int,vs=[.int j]/\-(2 ^ 62)<=j/\j<2 ^ 62/\R (Itr 0 j.toNat) H1
theorem Nr {a:Expr}{ta:TA}{p pos:Pos}(hg:Gl X "range")(hm:X.mg "range" = none)(ha:PA X [a] ta)(hs:starEach [a] X.env=[(false,eval a X.env)]:=by rfl):PI X tg (.Call (.Name "range" p) [a] [] pos) (ZJ ta):=by
 intro pins s σ H R I h
 refine Call_ (yr I hg hm boot_range (PyProof.Rows.callWith_type1 (thn (ha pos pins s σ H _ I h) λus s1 hE=>xq2 hE λvs H1 I1 r1 q1=>?_) hs rfl))
 obtain ⟨j,e,q1,q2,q⟩:=q1
 subst e
 cases r1 with
 |cons r rr=>
  cases rr
  obtain ⟨t,rfl⟩:=r
  exact call_range_1 (Ph I1 (by omega) (by omega) q1 q2 (by simpa using q))
def aai (wi:TI)(g:TG)(tb:TS):TS:=λD σ H=>wi σ H λJ H1=>∃W:Nat->Nat->St->Hp->Prop,(∃m,W 0 m σ H1)/\∀i m σ H,W i m σ H->
 (J.stop i H/\D.nx σ H)\/(J.go i H/\∃N:St->Hp->Prop,(∀σ' H',N σ' H'->∃m',m'<m/\W (i+1) m' σ' H')/\∀x H',J.yld i H x H'->g x σ H' λσ2 H2=>tb { D with nx:=N,ct:=N,bk:=D.nx } σ2 H2)
def wR (fp:List Addr)(h:Heap):List (Addr×Obj):=fp.filterMap λb=>(h.get? b).map λo=>(b,o)
theorem tQ {fp:List Addr}{h:Heap}{b:Addr}{o:Obj}(hb:b∈fp)(e:h.get? b=some o):(b,o)∈wR fp h:=List.mem_filterMap.mpr ⟨b,hb,by rw [e];rfl⟩
theorem NK {fp:List Addr}{h:Heap}{p:Addr×Obj}(hp:p∈wR fp h):p.1∈fp/\h.get? p.1=some p.2:=by
 obtain ⟨b,hb,e⟩:=List.mem_filterMap.mp hp
 cases q:h.get? b with
 |none=>rw [q] at e;cases e
 |some o=>
  rw [q] at e
  have e':(b,o)=p:=Option.some.inj e
  subst e'
  exact ⟨hb,q⟩
theorem Inv.pinned {pins:List (Addr×Obj)}{σ:St}{H:Hp}{s:Shared}{fp:List Addr}(I:Inv X pins σ H s)(hf:∀b∈fp,wJ X pins H b)(ho:∀b∈fp,∃o,s.heap.get? b=some o/\∀v,o.data≠.cell v):Inv X (pins++wR fp s.heap) σ H s:=
 I.Kf λp hp=>(List.mem_append.mp hp).elim (λz=>I.pin p (List.mem_append_right _ z)) λz=>by
  obtain ⟨hb,e⟩:=NK z
  obtain ⟨f0,f1,f2,_⟩:=hf p.1 hb
  obtain ⟨o,e',d⟩:=ho p.1 hb
  rw [e] at e';cases e'
  exact ⟨e,f0,f1,f2,d⟩
theorem Inv.xx {pins pl:List (Addr×Obj)}{σ:St}{H:Hp}{s:Shared}(I:Inv X (pins++pl) σ H s):Inv X pins σ H s:=I.Kf λp hp=>I.pin p (List.mem_append_right _ (List.mem_append_left _ hp))
theorem Wy {iter:Expr}{body:List Stmt}{wi:TI}{g:TG}{tb:TS}{pos:Pos}(hp:PassesOwn (model X.prog X.w) X.A X.env X.xe)(hc:X.calm=true)(hi:PI X tg iter wi)(hg:PG X tg g)(hb:PSs X body tb)
  (hs:∀x,foldedSetIterable iter X.env x=pure x:=by intro _;rfl):PS X (.For tg iter body [] pos) (aai wi g tb):=by
 intro pins s σ H D I h
 refine wpAny_For (thn (hi pins s σ H _ I h) λv s1 h1=>thn h1 λitv s2 h2=>?_) hs
 obtain ⟨it,fp,tn,J,H2,e,I2,T,st2,f2,W,⟨m0,w0⟩,turn⟩:=h2
 subst e
 have stat:∀{H':Hp},(∀b∈fp,H' b=none)->∀b∈fp,wJ X pins H' b:=λhn b hb=>⟨hn b hb,(f2 b hb).2⟩
 refine codeAny_forLoop_any (λn s'=>∃i σ' H',Inv X pins σ' H' s'/\tn i s'.heap/\(∀b∈fp,H' b=none)/\W i n σ' H') ?_ m0 ⟨0,σ,H2,I2,st2,λb hb=>(f2 b hb).1,w0⟩
 rintro n s3 ⟨i,σ3,H3,I3,st3,fr3,w3⟩
 rcases turn i n σ3 H3 w3 with ⟨stop,qn⟩ | ⟨go,N,hN,step⟩
 ·refine wpAny_passesOwn hp (thn (T.done X rfl rfl rfl hc i pins s3 σ3 H3 X.xe I3 (stat fr3) st3 stop) λr s4 ⟨hr,I4⟩=>?_)
  subst hr
  exact wpAny_execs_nil ⟨σ3,H3,I4,qn⟩
 ·refine wpAny_passesOwn hp (thn (T.item X rfl rfl rfl hc i pins s3 σ3 H3 X.xe I3 (stat fr3) st3 go) λr s4 ⟨u,hr,h4⟩=>?_)
  subst hr
  refine wpAny_passesOwn hp (thn h4 λ_ s5 ⟨x,H5,I5,r5,y5,st5,fr5⟩=>?_)
  have I5':=I5.pinned (stat fr5) (T.obj _ _ st5)
  refine wpAny_passesOwn hp (thn (hg _ s5 σ3 H5 x u _ I5' r5 (step x H5 y5)) λ_ s6 ⟨σ6,H6,I6,q6⟩=>?_)
  refine wpAny_passesOwn hp (thn (hb _ s6 σ6 H6 _ I6 q6) λf s7 q7=>?_)
  have again:∀{σ7:St} {H7:Hp},Inv X (pins++wR fp s5.heap) σ7 H7 s7->N σ7 H7->∃m,m<n/\∃i σ' H',Inv X pins σ' H' s7/\tn i s7.heap/\(∀b∈fp,H' b=none)/\W i m σ' H':=λ{σ7 H7} I7 n7=>by
   obtain ⟨m',hm,w7⟩:=hN σ7 H7 n7
   refine ⟨m',hm,i+1,σ7,H7,I7.xx,T.keep _ _ _ st5 λb hb o e=>(I7.pin (b,o) (List.mem_append_right _ (List.mem_append_right _ (tQ hb e)))).1,λb hb=>?_,w7⟩
   obtain ⟨o,e,d⟩:=T.obj _ _ st5 b hb
   exact (I7.pin (b,o) (List.mem_append_right _ (List.mem_append_right _ (tQ hb e)))).2.1
  cases f with
  |next=>obtain ⟨σ7,H7,I7,n7⟩:=q7;exact again I7 n7
  |cont=>obtain ⟨σ7,H7,I7,n7⟩:=q7;exact again I7 n7
  |brk=>obtain ⟨σ7,H7,I7,q7⟩:=q7;exact ⟨σ7,H7,I7.xx,q7⟩
  |ret v=>obtain ⟨x7,σ7,H7,I7,r7,q7⟩:=q7;exact ⟨x7,σ7,H7,I7.xx,r7,q7⟩
end
abbrev R2:=V->V->Hp->VK->Prop
def OpR (X:Cx)(f:Value->Value->Sem Value)(r:R2):Prop:=
 ∀(pins:List (Addr×Obj)) (s:Shared) (σ:St) (H:Hp) (x y:V) (v u:Value) (Q:VK),Inv X pins σ H s->RelV x v->RelV y u->r x y H Q->
  wpAny (model X.prog X.w) X.A (f v u) (EP X pins σ Q) X.xe s
def UnR (X:Cx)(f:Value->Sem Value)(r:V->Hp->VK->Prop):Prop:=
 ∀(pins:List (Addr×Obj)) (s:Shared) (σ:St) (H:Hp) (x:V) (v:Value) (Q:VK),Inv X pins σ H s->RelV x v->r x H Q->
  wpAny (model X.prog X.w) X.A (f v) (EP X pins σ Q) X.xe s
def qj (X:Cx)(f:Value)(r:List V->Hp->VK->Prop):Prop:=
 ∀(pins:List (Addr×Obj)) (s:Shared) (σ:St) (H:Hp) (xs:List V) (us:List Value) (Q:VK),Inv X pins σ H s->Vals xs us->r xs H Q->
  wpAny (model X.prog X.w) X.A (call f us) (EP X pins σ Q) X.xe s
def tOp (r:R2)(ta tb:TE):TE:=λσ H Q=>ta σ H λx H1=>tb σ H1 λy H2=>r x y H2 Q
def tUn (r:V->Hp->VK->Prop)(ta:TE):TE:=λσ H Q=>ta σ H λx H1=>r x H1 Q
def rI (C:Int->Int->Prop)(g:Int->Int->V):R2:=λx y H Q=>∃i j,x=.int i/\y=.int j/\C i j/\Q (g i j) H
def rI0 (g:Int->Int->V):R2:=λx y H Q=>∃i j,x=.int i/\y=.int j/\Q (g i j) H
def rU (g:Int->V):V->Hp->VK->Prop:=λx H Q=>∃i,x=.int i/\Q (g i) H
section
variable {X:Cx}{a b c:Expr}{ta tb tc:TE}{pos:Pos}
theorem X7 (ha:PE X a ta)(hb:PE X b tb){pins:List (Addr×Obj)}{s:Shared}{σ:St}{H:Hp}{R:V->V->Hp->Prop}(I:Inv X pins σ H s)
  (h:ta σ H λx H1=>tb σ H1 λy H2=>R x y H2) {Q:Value->Shared->Prop} {f:Value->Value->Sem Value}
  (hf:∀v u s2 x y H2,Inv X pins σ H2 s2->RelV x v->RelV y u->R x y H2->wpAny (model X.prog X.w) X.A (f v u) Q X.xe s2):
  wpAny (model X.prog X.w) X.A (eval a X.env) (λv s₁=>wpAny (model X.prog X.w) X.A (eval b X.env) (λu s₂=>wpAny (model X.prog X.w) X.A (f v u) Q X.xe s₂) X.xe s₁) X.xe s:=by
 refine thn (ha pins s σ H _ I h) λv s1 hE=>xq2 hE λx H1 I1 r1 q1=>?_
 refine thn (hb pins s1 σ H1 _ I1 q1) λu s2 hE=>xq2 hE λy H2 I2 r2 q2=>?_
 exact hf v u s2 x y H2 I2 r1 r2 q2
theorem VH {op:Operator}{r:R2}(ho:OpR X (binaryOp op) r)(ha:PE X a ta)(hb:PE X b tb):PE X (.BinOp a op b pos) (tOp r ta tb):=by
 intro pins s σ H Q I h
 exact wpAny_BinOp (X7 ha hb I h λv u s2 x y H2 I2 rx ry q=>ho pins s2 σ H2 x y v u Q I2 rx ry q)
theorem Yz {op:UnaryOp}{r:V->Hp->VK->Prop}(ho:UnR X (unaryOp op) r)(ha:PE X a ta):PE X (.UnaryOp op a pos) (tUn r ta):=by
 intro pins s σ H Q I h
 exact UnaryOp_ (thn (ha pins s σ H _ I h) λv s1 hE=>xq2 hE λx H1 I1 r1 q1=>ho pins s1 σ H1 x v Q I1 r1 q1)
theorem opI {f:Value->Value->Sem Value}{C:Int->Int->Prop}{g:Int->Int->Int}
  (rule:∀(i j:Int) (t u:Tok) (s:Shared) (Q:Value->Shared->Prop) (E:Value->Shared->Prop),C i j->Q (.int (g i j) s.toks) { s with toks:=s.toks+1 }->wpAny (model X.prog X.w) X.A (f (.int i t) (.int j u)) Q E s):
  OpR X f (rI C λi j=>.int (g i j)):=by
 intro pins s σ H x y v u Q I rx ry h
 obtain ⟨i,j,rfl,rfl,hc,q⟩:=h
 obtain ⟨t,rfl⟩:=rx
 obtain ⟨t',rfl⟩:=ry
 exact rule i j t t' s _ _ hc ⟨.int (g i j),H,I.tok _,⟨_,rfl⟩,q⟩
theorem Zc {f:Value->Value->Sem Value}{g:Int->Int->Int}
  (rule:∀(i j:Int) (t u:Tok) (s:Shared) (Q:Value->Shared->Prop) (E:Value->Shared->Prop),Q (.int (g i j) s.toks) { s with toks:=s.toks+1 }->wpAny (model X.prog X.w) X.A (f (.int i t) (.int j u)) Q E s):
  OpR X f (rI0 λi j=>.int (g i j)):=by
 intro pins s σ H x y v u Q I rx ry h
 obtain ⟨i,j,rfl,rfl,q⟩:=h
 obtain ⟨t,rfl⟩:=rx
 obtain ⟨t',rfl⟩:=ry
 exact rule i j t t' s _ _ ⟨.int (g i j),H,I.tok _,⟨_,rfl⟩,q⟩
theorem Z0 {f:Value->Value->Sem Value}{g:Int->Int->Bool}
  (rule:∀(i j:Int) (t u:Tok) (s:Shared) (Q:Value->Shared->Prop) (E:Value->Shared->Prop),Q (.bool (g i j)) s->wpAny (model X.prog X.w) X.A (f (.int i t) (.int j u)) Q E s):
  OpR X f (rI0 λi j=>.bl (g i j)):=by
 intro pins s σ H x y v u Q I rx ry h
 obtain ⟨i,j,rfl,rfl,q⟩:=h
 obtain ⟨t,rfl⟩:=rx
 obtain ⟨t',rfl⟩:=ry
 exact rule i j t t' s _ _ ⟨.bl (g i j),H,I,rfl,q⟩
def aau (i j:Int):Prop:=0<=j/\j<=1000000/\i.natAbs<2 ^ 64
theorem Wz:OpR X (binaryOp .Add) (rI0 λi j=>.int (i+j)):=Zc λ_ _ _ _ _ _ _ q=>add_int q
theorem Xb:OpR X (binaryOp .Sub) (rI0 λi j=>.int (i-j)):=Zc λ_ _ _ _ _ _ _ q=>sub_int q
theorem S7:OpR X (binaryOp .Mod) (rI (λ_ j=>j≠0) λi j=>.int (i.fmod j)):=opI λ_ _ _ _ _ _ _ hc q=>mod_int' hc q
theorem Xa:OpR X (binaryOp .Pow) (rI aau λi j=>.int (i ^ j.toNat)):=opI λ_ _ _ _ _ _ _ hc q=>pow_int_small hc.1 hc.2.1 hc.2.2 q
theorem unI {f:Value->Sem Value}{g:Int->Int}
  (rule:∀(i:Int) (t:Tok) (s:Shared) (Q:Value->Shared->Prop) (E:Value->Shared->Prop),Q (.int (g i) s.toks) { s with toks:=s.toks+1 }->wpAny (model X.prog X.w) X.A (f (.int i t)) Q E s):
  UnR X f (rU λi=>.int (g i)):=by
 intro pins s σ H x v Q I rx h
 obtain ⟨i,rfl,q⟩:=h
 obtain ⟨t,rfl⟩:=rx
 exact rule i t s _ _ ⟨.int (g i),H,I.tok _,⟨_,rfl⟩,q⟩
theorem Wc:UnR X (unaryOp .USub) (rU λi=>.int (-i)):=unI λ_ _ _ _ _ q=>neg_int q
end
def ZK:V->V->Bool
 | .non,.non=>true | .non,.int _=>true | .int _,.non=>true | .non,.bl _=>true | .bl _,.non=>true | .non,.str _=>true | .str _,.non=>true
 | .int _,.int _=>true | .bl _,.bl _=>true | .str _,.str _=>true | .byt _,.byt _=>true
 | .int _,.str _=>true | .str _,.int _=>true | .bl _,.str _=>true | .str _,.bl _=>true
 |_,_=>false
def rEq:R2:=λx y H Q=>ZK x y=true/\Q (.bl (decide (x=y))) H
def rNe:R2:=λx y H Q=>ZK x y=true/\Q (.bl (!decide (x=y))) H
theorem Kc {i j:Int}:decide (V.int i=V.int j)=(i == j):=by
 rw [Bool.eq_iff_iff]
 simp
theorem Qw {i j:Bool}:decide (V.bl i=V.bl j)=(i == j):=by
 rw [Bool.eq_iff_iff]
 simp
theorem Ka {i j:Str}:decide (V.str i=V.str j)=(i == j):=by
 rw [Bool.eq_iff_iff]
 simp
theorem Mz {i j:Array UInt8}:decide (V.byt i=V.byt j)=(i.toList == j.toList):=by
 rw [Bool.eq_iff_iff]
 cases i
 cases j
 simp
section
variable {X:Cx}{a b c:Expr}{ta tb tc:TE}{pos:Pos}
theorem cT {pins:List (Addr×Obj)}{σ:St}{H:Hp}{s:Shared}{Q:VK}{k k':Bool}(I:Inv X pins σ H s)(q:Q (.bl k) H)(e:k=k'):EP X pins σ Q (.bool k') s:=by
 subst e
 exact ⟨.bl k,H,I,rfl,q⟩
theorem Ml:OpR X (compareOp .Eq) rEq:=by
 intro pins s σ H x y v u Q I rx ry h
 obtain ⟨hs,q⟩:=h
 cases x with
 |non=>
  cases rx
  cases y with
  |non=>cases ry;exact PySem.EqNone.eq_none_none (cT I q (by simp))
  |bl j=>cases ry;exact PySem.EqNone.eq_none_bool (cT I q (by simp))
  |int j=>obtain ⟨t',rfl⟩:=ry;exact PySem.EqNone.eq_none_int (cT I q (by simp))
  |str j=>obtain ⟨t',rfl⟩:=ry;exact PySem.EqNone.eq_none_str (cT I q (by simp))
  |_=>exact absurd (show false=true from hs) Bool.false_ne_true
 |bl i=>
  cases rx
  cases y with
  |non=>cases ry;exact PySem.EqNone.eq_bool_none (cT I q (by simp))
  |bl j=>cases ry;exact eq_bool (cT I q Qw)
  |str j=>obtain ⟨t',rfl⟩:=ry;exact PySem.EqMixed.eq_bool_str (cT I q (by simp))
  |_=>exact absurd (show false=true from hs) Bool.false_ne_true
 |int i=>
  obtain ⟨t,rfl⟩:=rx
  cases y with
  |non=>cases ry;exact PySem.EqNone.eq_int_none (cT I q (by simp))
  |int j=>obtain ⟨t',rfl⟩:=ry;exact eq_int (cT I q Kc)
  |str j=>obtain ⟨t',rfl⟩:=ry;exact PySem.EqMixed.eq_int_str (cT I q (by simp))
  |_=>exact absurd (show false=true from hs) Bool.false_ne_true
 |str i=>
  obtain ⟨t,rfl⟩:=rx
  cases y with
  |non=>cases ry;exact PySem.EqNone.eq_str_none (cT I q (by simp))
  |bl j=>cases ry;exact PySem.EqMixed.eq_str_bool (cT I q (by simp))
  |int j=>obtain ⟨t',rfl⟩:=ry;exact PySem.EqMixed.eq_str_int (cT I q (by simp))
  |str j=>obtain ⟨t',rfl⟩:=ry;exact eq_str (cT I q Ka)
  |_=>exact absurd (show false=true from hs) Bool.false_ne_true
 |byt i=>
  obtain ⟨t,rfl⟩:=rx
  cases y with
  |byt j=>obtain ⟨t',rfl⟩:=ry;exact W.eq_bytes (cT I q Mz)
  |_=>exact absurd (show false=true from hs) Bool.false_ne_true
 |_=>cases y<;>exact absurd (show false=true from hs) Bool.false_ne_true
theorem K9:OpR X (compareOp .NotEq) rNe:=by
 intro pins s σ H x y v u Q I rx ry h
 obtain ⟨hs,q⟩:=h
 cases x with
 |non=>
  cases rx
  cases y with
  |non=>cases ry;exact PySem.EqNone.ne_none_none (cT I q (by simp))
  |bl j=>cases ry;exact PySem.EqNone.ne_none_bool (cT I q (by simp))
  |int j=>obtain ⟨t',rfl⟩:=ry;exact PySem.EqNone.ne_none_int (cT I q (by simp))
  |str j=>obtain ⟨t',rfl⟩:=ry;exact PySem.EqNone.ne_none_str (cT I q (by simp))
  |_=>exact absurd (show false=true from hs) Bool.false_ne_true
 |bl i=>
  cases rx
  cases y with
  |non=>cases ry;exact PySem.EqNone.ne_bool_none (cT I q (by simp))
  |bl j=>cases ry;exact ne_bool (cT I q (congrArg not Qw))
  |str j=>obtain ⟨t',rfl⟩:=ry;exact PySem.EqMixed.ne_bool_str (cT I q (by simp))
  |_=>exact absurd (show false=true from hs) Bool.false_ne_true
 |int i=>
  obtain ⟨t,rfl⟩:=rx
  cases y with
  |non=>cases ry;exact PySem.EqNone.ne_int_none (cT I q (by simp))
  |int j=>obtain ⟨t',rfl⟩:=ry;exact ne_int (cT I q (congrArg not Kc))
  |str j=>obtain ⟨t',rfl⟩:=ry;exact PySem.EqMixed.ne_int_str (cT I q (by simp))
  |_=>exact absurd (show false=true from hs) Bool.false_ne_true
 |str i=>
  obtain ⟨t,rfl⟩:=rx
  cases y with
  |non=>cases ry;exact PySem.EqNone.ne_str_none (cT I q (by simp))
  |bl j=>cases ry;exact PySem.EqMixed.ne_str_bool (cT I q (by simp))
  |int j=>obtain ⟨t',rfl⟩:=ry;exact PySem.EqMixed.ne_str_int (cT I q (by simp))
  |str j=>obtain ⟨t',rfl⟩:=ry;exact ne_str (cT I q (congrArg not Ka))
  |_=>exact absurd (show false=true from hs) Bool.false_ne_true
 |byt i=>
  obtain ⟨t,rfl⟩:=rx
  cases y with
  |byt j=>obtain ⟨t',rfl⟩:=ry;exact W.ne_bytes (cT I q (congrArg not Mz))
  |_=>exact absurd (show false=true from hs) Bool.false_ne_true
 |_=>cases y<;>exact absurd (show false=true from hs) Bool.false_ne_true
theorem ZL:OpR X (compareOp .Lt) (rI0 λi j=>.bl (decide (i<j))):=Z0 λ_ _ _ _ _ _ _ q=>lt_int q
theorem Z7:OpR X (compareOp .Gt) (rI0 λi j=>.bl (decide (j<i))):=Z0 λ_ _ _ _ _ _ _ q=>gt_int q
theorem Wt:OpR X (compareOp .Is) (λx y H Q=>y=.non/\Q (.bl (decide (x=.non))) H):=by
 intro pins s σ H x y v u Q I rx ry h
 obtain ⟨rfl,q⟩:=h
 cases ry
 refine is_none_gen (cT I q ?_)
 cases x<;>first
  |(cases rx;rfl)
  |(obtain ⟨t,rfl⟩:=rx;rfl)
theorem Tu:OpR X (compareOp .IsNot) (λx y H Q=>y=.non/\Q (.bl (!decide (x=.non))) H):=by
 intro pins s σ H x y v u Q I rx ry h
 obtain ⟨rfl,q⟩:=h
 cases ry
 refine isnot_none_gen (cT I q ?_)
 cases x<;>first
  |(cases rx;rfl)
  |(obtain ⟨t,rfl⟩:=rx;rfl)
theorem bH (b:Expr){op:CmpOp}(h:op≠.In:=by decide)(h2:op≠.NotIn:=by decide):behindInMarks op b=false:=by
 have e1:(op == CmpOp.In)=false:=by cases op<;>first | rfl | exact absurd rfl h
 have e2:(op == CmpOp.NotIn)=false:=by cases op<;>first | rfl | exact absurd rfl h2
 cases b<;>simp [behindInMarks,e1,e2]
theorem U6 {op:CmpOp}{r:R2}(ho:OpR X (compareOp op) r)(ha:PE X a ta)(hb:PE X b tb)(hm:behindInMarks op b=false):PE X (.Compare a [op] [b] pos) (tOp r ta tb):=by
 intro pins s σ H Q I h
 exact wpAny_Compare1 (X7 ha hb I h λv u s2 x y H2 I2 rx ry q=>ho pins s2 σ H2 x y v u Q I2 rx ry q) hm
def Za (t:TE):TT:=λσ H Q=>t σ H λx H'=>∃k,x=.bl k/\Q k H'
theorem S8 {op:CmpOp}{r:R2}(ho:OpR X (compareOp op) r)(ha:PE X a ta)(hb:PE X b tb)(hm:behindInMarks op b=false):PT X (.Compare a [op] [b] pos) (Za (tOp r ta tb)):=by
 intro pins s σ H Q I h
 refine wpAny_isTrue_Compare1 (thn (ha pins s σ H _ I h) λv s1 hE=>xq2 hE λx H1 I1 r1 q1=>thn (hb pins s1 σ H1 _ I1 q1) λu s2 hE=>xq2 hE λy H2 I2 r2 q2=>
  thn (ho pins s2 σ H2 x y v u _ I2 r1 r2 q2) λc s3 ⟨z,H3,I3,r3,k,e,q3⟩=>?_) hm
 subst e
 cases r3
 exact wpAny_truthy_bool ⟨H3,I3,q3⟩
theorem yO:(sizeLine:Nat)<2 ^ 63:=by rw [sizeLine_eq];decide
theorem Jl:OpR X (binaryOp .Add) (λx y H Q=>∃i j,x=.str i/\y=.str j/\i.length+j.length<=sizeLine/\Q (.str (i++j)) H):=by
 intro pins s σ H x y v u Q I rx ry h
 obtain ⟨i,j,rfl,rfl,hz,q⟩:=h
 obtain ⟨t,rfl⟩:=rx
 obtain ⟨t',rfl⟩:=ry
 exact add_str (λt' tk=>⟨.str (i++j),H,I.tok _,⟨_,rfl⟩,q⟩) hz
theorem vals1 {x:V}{us:List Value}(r:Vals [x] us):∃u,us=[u]/\RelV x u:=by
 cases r with
 |cons r1 r2=>cases r2;exact ⟨_,rfl,r1⟩
theorem vals2 {x y:V}{us:List Value}(r:Vals [x,y] us):∃u w',us=[u,w']/\RelV x u/\RelV y w':=by
 cases r with
 |cons r1 r2=>
  cases r2 with
  |cons r3 r4=>cases r4;exact ⟨_,_,rfl,r1,r3⟩
theorem RB:qj X (.builtin "abs") (λxs H Q=>∃i,xs=[.int i]/\Q (.int (if i<0 then -i else i)) H):=by
 intro pins s σ H xs us Q I r h
 obtain ⟨i,rfl,q⟩:=h
 obtain ⟨u,rfl,t,rfl⟩:=vals1 r
 exact call_abs_int λu tk=>⟨.int (if i<0 then -i else i),H,I.tok _,⟨_,rfl⟩,q⟩
end
structure Js (h:Heap)(x dx C:Addr)(mA:Str->Option Value):Prop where
 obj:h.get? x=some (W.instObj C dx)
 ns:h.Ns1 dx mA
 ne:dx≠x
theorem Og {h:Heap}{dx:Addr}{mA:Str->Option Value}(n:h.Ns1 dx mA):∃od,h.get? dx=some od/\∀name,W.lookIn name od=some (mA name):=by
 obtain ⟨o,es,ep,ho,hd,hk,_,hm⟩:=n
 refine ⟨o,ho,λname=>?_⟩
 have e:=hm name
 unfold nsFind findBy at e
 rw [← Array.find?_toList] at e
 unfold W.lookIn
 rw [hd]
 dsimp only
 split
 ·rename_i y q
  rw [q] at e
  exact congrArg some e
 ·rename_i q
  rw [q] at e
  have a:es.toList.any (·.refKey)=false:=by
   rw [List.any_eq_false]
   intro y hy
   obtain ⟨z,t,hkey⟩:=hk y (Array.mem_toList_iff.mp hy)
   simp [DictEntry.refKey,hkey]
  have a':¬es.toList.any (·.refKey)=true:=by rw [a];exact Bool.false_ne_true
  rw [if_neg a']
  exact congrArg some e
theorem Js.look {h:Heap}{x dx C:Addr}{mA:Str->Option Value}(I:Js h x dx C mA):∃od,W.InstAt h x (W.instObj C dx) C (some od)/\∀name,W.lookIn name od=some (mA name):=
 let ⟨od,ho,hl⟩:=Og I.ns
 ⟨od,⟨I.obj,rfl,rfl,ho⟩,hl⟩
section
variable {prog:Program}{w:World}{A:Around}{E:Value->Shared->Prop}{s:Shared}{K:W.Frag}{x dx C f:Addr}{mA:Str->Option Value}{name:Str}{v:Value}
theorem get_map {expr:Bool}{Q:Value->Shared->Prop}(X:K.In s.heap)(I:Js s.heap x dx C mA)(hg:W.plainGet K C name=true)(hh:W.hasDictIn K C=true)
  (ha:W.findIn K (.ref C) name=some none) (hv:mA name=some v) (hv':W.handedIn v=true) (h:Q v { s with toks:=s.toks+1 }):
  wpAny (model prog w) A (getAttr (.ref x) name expr) Q E s:=by
 obtain ⟨od,J,hl⟩:=I.look
 exact W.get_value X J (W.plainGet_of hg).1 (W.findObj_own hh ha rfl (by rw [hl,hv])) hv' h
theorem RG {pl:Sem Bool}{Q:Value×List Value->Shared->Prop}(X:K.In s.heap)(I:Js s.heap x dx C mA)(hg:W.plainGet K C name=true)
  (hf:W.findIn K (.ref C) name=some (some (.ref f))) (ht:W.isFn K (.ref f)=true) (hv:mA name=none) (h:Q (.ref f,[.ref x]) s):
  wpAny (model prog w) A (getMethod (.ref x) name pl) Q E s:=by
 obtain ⟨od,J,hl⟩:=I.look
 exact W.method_fn X J (W.plainGet_of hg).1 (W.plainGet_of hg).2 hf (beq_iff_eq.mp ht) (by show (W.lookIn name od).map (·.isSome)=some false;rw [hl,hv];rfl) h
theorem UL {ns:List Str}{Q:Unit->Shared->Prop}(X:K.In s.heap)(I:Js s.heap x dx C mA)
  (hs:W.findIn K (.ref C) "__setattr__" = some (some (.builtin "object.__setattr__"))) (hp:W.plainOver K C=true) (ht:W.takerIn K C name=some none) (hh:W.hasDictIn K C=true)
  (hw:PySem.Within mA ns) (hsz:ns.length<=sizeLine)
  (h:∀h',Js h' x dx C (λy=>if y=name then some v else mA y)->Heap.SameBut dx s.heap h'->Q () { s with heap:=h',toks:=s.toks+2 }):
  wpAny (model prog w) A (setAttr (.ref x) name v) Q E s:=by
 obtain ⟨od,J,hl⟩:=I.look
 refine W.set_plain X J hs (W.osa_open (s:={ s with toks:=s.toks+1 }) (r:=none) X J hp ht λb=>?_)
 obtain ⟨cd,hc,hd'⟩:=W.any_some hh
 have hx:s.heap.get? x=some ⟨.ref C,some dx,.plain,#[]⟩:=I.obj
 refine wpAny_bind (wpAny_pure (wpAny_bind (wpAny_bind (wpAny_loadPart hx (wpAny_bind (W.Looks.here (s:={ s with toks:=s.toks+1 }) (W.looks_clsIn X hc) ?_))))))
 rw [hd']
 refine wpAny_pure (a:=some dx) (wpAny_bind (wpAny_pure (wpAny_bind ?_)))
 refine wpAny_nsSet1 (s:={ s with toks:=s.toks+1 }) I.ns λh' hn2 hs2=>?_
 obtain ⟨oD,esD,epD,hoD,hdD,hcD⟩:=hn2.count (PySem.Within.cons name v hw)
 refine wpAny_bind (wpAny_lookBehind hoD (by rw [hdD];exact pastItsLine_dict (Nat.le_trans hcD (by rw [List.length_cons];omega))) ?_)
 exact wpAny_pure (h _ ⟨(hs2.2 _ (Ne.symm I.ne)).trans I.obj,hn2,I.ne⟩ hs2)
theorem Rg {R:Result->Shared->Prop}{vs:List Value}{kw:List (Str×Value)}(X:K.In s.heap)(hm:W.makesIn K C=true)
  (hi:W.findIn K (.ref C) "__init__" = some (some (.ref f))) (hf:W.typeIn K (.ref f)=some (.type "function"))
  (h:codeAny (model prog w) (A.under (.builtin "type.__call__" ⟨.ref C::vs,kw⟩)) (.call (.ref f) ⟨.ref (s.heap.objs.size+1)::vs,kw⟩) (W.InitBack (s.heap.objs.size+1) R)
   { s with heap:=(s.heap.push W.emptyDict).push (W.instObj C s.heap.objs.size) }):
  codeAny (model prog w) A (.call (.ref C) ⟨vs,kw⟩) R s:=by
 obtain ⟨hh,g,d,t,os⟩:=s
 exact W.make_core (W.makes_of X hm) (W.looks_findIn X hi) (λself=>W.bind_fn X self hf) (.inl rfl) h
end
def pQ (f:Str)(v:V):List (Str×V)->List (Str×V)
 |[]=>[(f,v)]
 |(g,x)::r=>if g=f then (g,v)::r else (g,x)::pQ f v r
theorem vC (f g:Str)(v:V):∀fs:List (Str×V),(pQ f v fs).lookup g=if g=f then some v else fs.lookup g
 |[]=>by
  show List.lookup g [(f,v)]=_
  by_cases h:g=f
  ·have hb:(g == f)=true:=beq_iff_eq.mpr h
   simp only [List.lookup,hb,if_pos h]
  ·have hb:(g == f)=false:=beq_eq_false_iff_ne.mpr h
   simp only [List.lookup,hb,if_neg h]
 |(k,x)::r=>by
  have ih:=vC f g v r
  rw [show pQ f v ((k,x)::r)=(if k=f then (k,v)::r else (k,x)::pQ f v r) from rfl]
  by_cases hk:k=f
  ·rw [if_pos hk]
   by_cases h:g=k
   ·have hb:(g == k)=true:=beq_iff_eq.mpr h
    simp only [List.lookup,hb,if_pos (h.trans hk)]
   ·have hb:(g == k)=false:=beq_eq_false_iff_ne.mpr h
    simp only [List.lookup,hb,if_neg (λe:g=f=>h (e.trans hk.symm))]
  ·rw [if_neg hk]
   by_cases h:g=k
   ·have hb:(g == k)=true:=beq_iff_eq.mpr h
    simp only [List.lookup,hb,if_neg (λe:g=f=>hk (h.symm.trans e))]
   ·have hb:(g == k)=false:=beq_eq_false_iff_ne.mpr h
    simp only [List.lookup,hb]
    exact ih
theorem yC (f:Str)(v:V):∀fs:List (Str×V),f∈(pQ f v fs).map (·.1)/\∀g,g∈fs.map (·.1)->g∈(pQ f v fs).map (·.1)
 |[]=>⟨by simp [pQ],λg h=>by simp at h⟩
 |(k,x)::r=>by
  obtain ⟨i1,i2⟩:=yC f v r
  rw [show pQ f v ((k,x)::r)=(if k=f then (k,v)::r else (k,x)::pQ f v r) from rfl]
  by_cases hk:k=f
  ·rw [if_pos hk]
   subst hk
   exact ⟨by simp,λg h=>by simpa using h⟩
  ·rw [if_neg hk]
   refine ⟨?_,λg h=>?_⟩
   ·rw [List.map_cons]
    exact List.mem_cons_of_mem _ i1
   ·rw [List.map_cons] at h ⊢
    rcases List.mem_cons.mp h with e | e
    ·exact List.mem_cons.mpr (.inl e)
    ·exact List.mem_cons_of_mem _ (i2 g e)
theorem yX (f:Str)(v:V):∀fs:List (Str×V),(pQ f v fs).length<=fs.length+1
 |[]=>by simp [pQ]
 |(k,x)::r=>by
  have ih:=yX f v r
  rw [show pQ f v ((k,x)::r)=(if k=f then (k,v)::r else (k,x)::pQ f v r) from rfl]
  by_cases hk:k=f
  ·rw [if_pos hk,List.length_cons,List.length_cons];omega
  ·rw [if_neg hk,List.length_cons,List.length_cons];omega
theorem zz.some_of {v:V}{o:Option Value}(r:zz (some v) o):∃u,o=some u/\RelV v u:=by
 cases o with
 |none=>exact (show False from r).elim
 |some u=>exact ⟨u,rfl,r⟩
theorem zz.none_of {o:Option Value}(r:zz none o):o=none:=by
 cases o with
 |none=>rfl
 |some u=>exact (show False from r).elim
theorem OD {v:V}{u:Value}(r:RelV v u):W.handedIn u=true:=by
 cases v with
 |non=>cases (show u=Value.none from r);rfl
 |bl b=>cases (show u=Value.bool b from r);rfl
 |int i=>obtain ⟨t,e⟩:=(show ∃t,u=Value.int i t from r);cases e;rfl
 |str x=>obtain ⟨t,e⟩:=(show ∃t,u=Value.str x t from r);cases e;rfl
 |byt b=>obtain ⟨t,e⟩:=(show ∃t,u=Value.bytes b t from r);cases e;rfl
 |flt b=>obtain ⟨t,e⟩:=(show ∃t,u=Value.float b t from r);cases e;rfl
 |ref a=>cases (show u=Value.ref a from r);rfl
 |ty n=>cases (show u=Value.type n from r);rfl
section
variable {P:Program}{w:World}{H H':Hp}{h h':Heap}{a C dx:Addr}{fs fs':List (Str×V)}
theorem zT (hok:HOk P w H h)(e:H a=some (.ins C dx fs)):∃mA,Js h a dx C mA/\(∀f,zz (fs.lookup f) (mA f))/\PySem.Within mA (fs.map (·.1))/\fs.length<=1000/\H dx=some (.own a):=by
 obtain ⟨d,z,ne,ob,mA,n,r,q⟩:=(show ie P w H h a (.ins C dx fs) from hok a _ e)
 exact ⟨mA,⟨ob,n,ne⟩,r,q,z,d⟩
end
structure Cls (K:W.Frag)(C:Addr):Prop where
 pg:W.plainGet K C Str.empty=true
 hd:W.hasDictIn K C=true
 po:W.plainOver K C=true
 sa:W.findIn K (.ref C) "__setattr__" = some (some (.builtin "object.__setattr__"))
theorem Cls.get {K:W.Frag}{C:Addr}(c:Cls K C)(f:Str):W.plainGet K C f=true:=c.pg
def wM (K:W.Frag)(C:Addr)(f:Str):Prop:=W.findIn K (.ref C) f=some none
theorem wM.taker {K:W.Frag}{C:Addr}{f:Str}(n:wM K C f):W.takerIn K C f=some none:=by
 unfold W.takerIn
 rw [show W.findIn K (.ref C) f=some none from n]
 rfl
structure Meth (K:W.Frag)(C:Addr)(m:Str)(f:Addr):Prop where
 at_:W.findIn K (.ref C) m=some (some (.ref f))
 fn:W.isFn K (.ref f)=true
 kp:W.keepIn K (.ref f)=true
section
variable {X:Cx}{pins:List (Addr×Obj)}{σ:St}{H:Hp}{s:Shared}{a C dx:Addr}{fs:List (Str×V)}{f:Str}{v:V}{A:Around}{E:Value->Shared->Prop}
theorem Jq {b:Bool}{Q:Value->Shared->Prop}(I:Inv X pins σ H s)(e:H a=some (.ins C dx fs))(c:Cls X.K C)(n:wM X.K C f)(l:fs.lookup f=some v)
  (h:∀u s',Inv X pins σ H s'->RelV v u->Q u s'):wpAny (model X.prog X.w) A (getAttr (.ref a) f b) Q E s:=by
 obtain ⟨mA,O,r,_,_,_⟩:=zT I.hok e
 obtain ⟨u,hu,ru⟩:=zz.some_of (v:=v) (o:=mA f) (by rw [← l];exact r f)
 exact get_map I.kIn O (c.get f) c.hd n hu (OD ru) (h u _ (I.tok _) ru)
theorem wA {m:Str}{g:Addr}{pl:Sem Bool}{Q:Value×List Value->Shared->Prop}(I:Inv X pins σ H s)(e:H a=some (.ins C dx fs))(c:Cls X.K C)(k:Meth X.K C m g)(l:fs.lookup m=none)
  (h:Q (.ref g,[.ref a]) s):wpAny (model X.prog X.w) A (getMethod (.ref a) m pl) Q E s:=by
 obtain ⟨mA,O,r,_,_,_⟩:=zT I.hok e
 have hn:mA m=none:=zz.none_of (by rw [← l];exact r m)
 exact RG I.kIn O (c.get m) k.at_ k.fn hn h
theorem JH {y:V}{u:Value}{Q:Unit->Shared->Prop}(I:Inv X pins σ H s)(e:H a=some (.ins C dx fs))(c:Cls X.K C)(n:wM X.K C f)(hl:fs.length<1000)(ry:RelV y u)
  (h:∀s',Inv X pins σ (upd H a (.ins C dx (pQ f y fs))) s'->Q () s'):wpAny (model X.prog X.w) A (setAttr (.ref a) f u) Q E s:=by
 obtain ⟨mA,O,r,wi,_,ho⟩:=zT I.hok e
 have hz:(fs.map (·.1)).length<=sizeLine:=by rw [List.length_map,sizeLine_eq];omega
 refine UL I.kIn O c.sa c.po n.taker c.hd wi hz λh' O' sb=>h _ ?_
 have hd:∃o,h'.get? dx=some o:=let ⟨o,_,_,e',_⟩:=O'.ns;⟨o,e'⟩
 refine I.write (x:=a) (e:=dx) (by rw [e];exact True.intro) (.inr ho) (λb q hb z=>(sb.2 b hb).trans z) hd ?_
 refine ⟨by rw [bj O.ne];exact ho,?_,O.ne,O'.obj,_,O'.ns,λg=>?_,λg hg=>?_⟩
 ·have:=yX f y fs;omega
 ·show zz ((pQ f y fs).lookup g) (if g=f then some u else mA g)
  rw [vC]
  by_cases q:g=f
  ·rw [if_pos q,if_pos q];exact ry
  ·rw [if_neg q,if_neg q];exact r g
 ·by_cases q:g=f
  ·rw [q];exact (yC f y fs).1
  ·refine (yC f y fs).2 g (wi g λz=>hg ?_)
   show (if g=f then some u else mA g)=none
   rw [if_neg q];exact z
theorem Inv.made (I:Inv X pins σ H s):Inv X pins σ (upd (upd H s.heap.objs.size (.own (s.heap.objs.size+1))) (s.heap.objs.size+1) (.ins C s.heap.objs.size []))
  { s with heap:=(s.heap.push W.emptyDict).push (W.instObj C s.heap.objs.size) }:=by
 have e1:(s.heap.push W.emptyDict).get? s.heap.objs.size=some W.emptyDict:=Heap.get?_push_size s.heap rfl
 have e2:((s.heap.push W.emptyDict).push (W.instObj C s.heap.objs.size)).get? (s.heap.objs.size+1)=some (W.instObj C s.heap.objs.size):=by
  have:=Heap.get?_push_size (s.heap.push W.emptyDict) (o:=W.instObj C s.heap.objs.size) rfl
  rwa [Heap.size_push] at this
 have e3:(s.heap.push W.emptyDict).Ns s.heap.objs.size (λ_=>none):=⟨W.emptyDict,#[],_,e1,rfl,(λe he=>absurd he (by simp)),λ_=>rfl⟩
 have I1:=I.laid (a:=s.heap.objs.size) (o:=.own (s.heap.objs.size+1)) (h':=s.heap.push W.emptyDict) (t':=s.toks) (λb u q=>Heap.get?_push_of_some _ q) (Nat.le_refl _) ⟨_,e1⟩
 refine I1.laid (a:=s.heap.objs.size+1) (o:=.ins C s.heap.objs.size []) (t':=s.toks) (λb u q=>Heap.get?_push_of_some _ q) (Nat.le_of_eq (Heap.size_push _ _)) ?_
 have ne:s.heap.objs.size≠s.heap.objs.size+1:=Nat.ne_of_lt (Nat.lt_succ_self _)
 refine ⟨by rw [bj ne,bY],Nat.zero_le _,ne,e2,λ_=>none,(Heap.Ns1.of_empty e3).at λo q=>Heap.get?_push_of_some _ q,λ_=>True.intro,λy hy=>absurd rfl hy⟩
theorem Ux {prog:Program}{w:World}{env:Env}{e:Expr}{f:Str}{pos:Pos}{s:Shared}{Q:Value->Shared->Prop}(hb:attributeBase e f env (eval e env)=eval e env)
  (h:wpAny (model prog w) A (eval e env) (λo s₁=>wpAny (model prog w) A (getAttr o f true) Q E s₁) E s):wpAny (model prog w) A (eval (.Attribute e f pos) env) Q E s:=
 Attribute_any_ h (by rw [arm_eval_Attribute,hb])
end
def aap (K:W.Frag)(ta:TE)(f:Str):TE:=λσ H Q=>ta σ H λx H1=>∃a C dx fs v,x=.ref a/\H1 a=some (.ins C dx fs)/\Cls K C/\wM K C f/\fs.lookup f=some v/\Q v H1
def aak (K:W.Frag)(ta tv:TE)(f:Str):TS:=λD σ H=>tv σ H λy H1=>ta σ H1 λx H2=>∃a C dx fs,x=.ref a/\H2 a=some (.ins C dx fs)/\Cls K C/\wM K C f/\fs.length<1000/\
 D.nx σ (upd H2 a (.ins C dx (pQ f y fs)))
section
variable {X:Cx}{o e value:Expr}{f:Str}{pos pos' tpos:Pos}{ta tv:TE}
theorem QB (he:PE X e ta)(hb:attributeBase e f X.env (eval e X.env)=eval e X.env):PE X (.Attribute e f pos) (aap X.K ta f):=by
 intro pins s σ H Q I h
 refine Ux hb (thn (he pins s σ H _ I h) λu s1 ⟨x,H1,I1,rx,a,C,dx,fs,v,ex,ea,c,n,l,q⟩=>?_)
 subst ex
 obtain rfl:u=Value.ref a:=rx
 exact Jq I1 ea c n l λu' s2 I2 ru=>⟨v,H1,I2,ru,q⟩
theorem Je (ha:PE X o ta)(hv:PE X value tv)(hs:swapsWith value (some (.Attribute o f pos')) pos.line X.env=pure false):PS X (.Assign [.Attribute o f pos'] value pos) (aak X.K ta tv f):=by
 intro pins s σ H D I h
 refine plainObj_wpAny_Assign_Attribute (thn (hv pins s σ H _ I h) λu s1 hE=>xq2 hE λy H1 I1 ry q=>thn (ha pins s1 σ H1 _ I1 q) λov s2 ⟨x,H2,I2,rx,a,C,dx,fs,ex,ea,c,n,l,q2⟩=>?_) hs
 subst ex
 obtain rfl:ov=Value.ref a:=rx
 exact JH I2 ea c n l ry λs3 I3=>⟨σ,_,I3,q2⟩
theorem Wa {pl:Sem Bool}{m:Str}{apos:Pos}{args:List Expr}{pins:List (Addr×Obj)}{s:Shared}{σ:St}{H:Hp}{Q:Value->Shared->Prop}{te:TE}(he:PE X e te)(I:Inv X pins σ H s)
  (h:te σ H λx H1=>∃a C dx fs g,x=.ref a/\H1 a=some (.ins C dx fs)/\Cls X.K C/\Meth X.K C m g/\fs.lookup m=none/\
   ∀s1,Inv X pins σ H1 s1->wpAny (model X.prog X.w) X.A (callWith pos (.ref g) [.ref a] (backTo pos (starEach args X.env)) (backToKw pos (keywordEach [] X.env))) Q X.xe s1)
  (ht:eval (.Call (.Attribute e m apos) args [] pos) X.env=(do
   let ov ← eval e X.env
   standAt apos.atName
   let (f,first) ← holding [ov] (getMethod ov m pl)
   callWith pos f first (backTo pos (starEach args X.env)) (backToKw pos (keywordEach [] X.env)))):
  wpAny (model X.prog X.w) X.A (eval (.Call (.Attribute e m apos) args [] pos) X.env) Q X.xe s:=by
 refine W.methodCall_KW (pl:=pl) (thn (he pins s σ H _ I h) λu s1 ⟨x,H1,I1,rx,a,C,dx,fs,g,ex,ea,c,k,l,q⟩=>?_) ht
 subst ex
 obtain rfl:u=Value.ref a:=rx
 exact wA I1 ea c k l (q s1 I1)
end
section
variable {X:Cx}{pins:List (Addr×Obj)}{σ:St}{H:Hp}{s:Shared}{A:Around}{E:Value->Shared->Prop}{Q:Value->Shared->Prop}{c:Value}{b:Bool}
inductive yJ (K:W.Frag)(H:Hp):V->Value->Prop where
 |non:yJ K H .non (.type "NoneType")
 |bl (x:Bool):yJ K H (.bl x) (.type "bool")
 |int (i:Int):yJ K H (.int i) (.type "int")
 |str (x:Str):yJ K H (.str x) (.type "str")
 |flt (x:UInt64):yJ K H (.flt x) (.type "float")
 |lst {a:Addr} {xs:List V} (e:H a=some (.lst xs)):yJ K H (.ref a) (.type "list")
 |frz {a:Addr} {o:Obj} {xs:List V} (e:H a=some (.frz o (.lst xs))):yJ K H (.ref a) (.type "list")
 |tup {a:Addr} {xs:List V} (e:H a=some (.tup xs)):yJ K H (.ref a) (.type "tuple")
 |dK {a:Addr} {kvs:List (Key×V)} (e:H a=some (.dK kvs)):yJ K H (.ref a) (.type "dict")
 |dT {a:Addr} {T:Addr->List V->Prop} {kvs:List (List Kt×V)} (e:H a=some (.dT T kvs)):yJ K H (.ref a) (.type "dict")
 |ins {a C dx:Addr} {fs:List (Str×V)} (e:H a=some (.ins C dx fs)) (cl:Cls K C) (ha:W.findIn K (.ref C) "__class__" = some (some (.builtin "object.__class__")))
   (hn:W.specialIn K (.builtin "object.__class__") "__get__" = some (some (.builtin "getset_descriptor.__get__"))) (htk:W.takesIn K (.builtin "object.__class__")=some true)
   (hm:W.mroIn K C (.type "object")=some true):yJ K H (.ref a) (.ref C)
theorem M7 {x:V}{u t:Value}(I:Inv X pins σ H s)(rx:RelV x u)(ty:yJ X.K H x t)(e:W.kitOne X.K t c=some b)(h:∀tk,Q (.bool b) { s with toks:=tk }):
  wpAny (model X.prog X.w) A (call (.builtin "isinstance") [u,c]) Q E s:=by
 cases ty with
 |non=>cases (show u=Value.none from rx);exact W.kia_one W.kitx_none I.kIn True.intro e (λz=>nomatch z) h
 |bl y=>cases (show u=Value.bool y from rx);exact W.kia_one W.kitx_bool I.kIn True.intro e (λz=>nomatch z) h
 |int i=>obtain ⟨t,q⟩:=(show ∃t,u=Value.int i t from rx);cases q;exact W.kia_one W.kitx_int I.kIn True.intro e (λz=>nomatch z) h
 |str y=>obtain ⟨t,q⟩:=(show ∃t,u=Value.str y t from rx);cases q;exact W.kia_one W.kitx_str I.kIn True.intro e (λz=>nomatch z) h
 |flt y=>obtain ⟨t,q⟩:=(show ∃t,u=Value.float y t from rx);cases q;exact W.kia_one W.kitx_float I.kIn True.intro e (λz=>nomatch z) h
 | @lst a xs ea=>
  cases (show u=Value.ref a from rx)
  obtain ⟨_,_,n,_,h1⟩:=(show ie X.prog X.w H s.heap a (.lst xs) from I.hok a _ ea)
  exact W.kia_one W.kitx_list I.kIn ⟨_,h1,rfl⟩ e (λz=>nomatch z) h
 | @frz a ob xs ea=>
  cases (show u=Value.ref a from rx)
  obtain ⟨_,_,_,n,_,h1⟩:=(show ie X.prog X.w H s.heap a (.frz ob (.lst xs)) from I.hok a _ ea)
  exact W.kia_one W.kitx_list I.kIn ⟨_,h1,rfl⟩ e (λz=>nomatch z) h
 | @tup a xs ea=>
  cases (show u=Value.ref a from rx)
  obtain ⟨_,_,_,p⟩:=(show ie X.prog X.w H s.heap a (.tup xs) from I.hok a _ ea)
  obtain ⟨o,h1,h2,_⟩:=p
  exact W.kia_one W.kitx_tuple I.kIn ⟨o,h1,h2⟩ e (λz=>nomatch z) h
 | @dK a kvs ea=>
  cases (show u=Value.ref a from rx)
  obtain ⟨_,_,vs,_,p⟩:=(show ie X.prog X.w H s.heap a (.dK kvs) from I.hok a _ ea)
  obtain ⟨o,es,ep,h1,h2,_⟩:=p
  exact W.kia_one W.kitx_dict I.kIn ⟨o,h1,h2.1⟩ e (λz=>nomatch z) h
 | @dT a T kvs ea=>
  cases (show u=Value.ref a from rx)
  obtain ⟨_,_,xs,_,o,es,ep,h1,h2,_⟩:=(show ie X.prog X.w H s.heap a (.dT T kvs) from I.hok a _ ea)
  exact W.kia_one W.kitx_dict I.kIn ⟨o,h1,h2.1⟩ e (λz=>nomatch z) h
 | @ins a C dx fs ea cl ha hn htk hm=>
  cases (show u=Value.ref a from rx)
  obtain ⟨mA,O,_⟩:=zT I.hok ea
  obtain ⟨od,J,_⟩:=O.look
  exact W.kia_one (W.kitx_own (cl.get _) cl.hd ha hn htk hm) I.kIn J e (λz=>nomatch z) h
end
structure gw (k:Nat)(A:Around):Prop where
 hd:A.handled=none
 dp:A.depth+3*k+5<recursionLimit
 un:A.units+16*k+200<cLine
 gd:A.guards=some []
theorem gw.mono {j k:Nat}{A:Around}(r:gw k A)(h:j<=k):gw j A:=⟨r.hd,by have:=r.dp;omega,by have:=r.un;omega,r.gd⟩
theorem gw.deeper {k:Nat}{A:Around}(r:gw (k+1) A)(env:Env):gw k (A.deeper env):=
 ⟨r.hd,by have:=r.dp;show A.depth+1+3*k+5<_;omega,by have:=r.un;show A.units+3+16*k+200<_;omega,r.gd⟩
theorem gw.in1 {k:Nat}{A:Around}(r:gw (k+1) A):gw k A.in1:=
 ⟨r.hd,by have:=r.dp;show A.depth+3*k+5<_;omega,by have:=r.un;show A.units+1+16*k+200<_;omega,r.gd⟩
theorem Jo {A:Around}{C:Addr}{us:List Value}{kw:List (Str×Value)}:(A.under (.builtin "type.__call__" ⟨.ref C::us,kw⟩)).depth=A.depth+1:=by
 first | rfl | simp [Around.under,Code.weight,Code.isCreation,Code.isGuard,Code.isCaller,Code.frames,Code.isFrame,guardIds]
theorem Jb {A:Around}{C:Addr}{us:List Value}{kw:List (Str×Value)}:(A.under (.builtin "type.__call__" ⟨.ref C::us,kw⟩)).units=A.units+1:=by
 first | rfl | simp [Around.under,Code.cUnits,Code.frames,Code.isFrame]
theorem gw.make {k:Nat}{A:Around}(r:gw (k+1) A)(C:Addr)(us:List Value)(kw:List (Str×Value)):gw k (A.under (.builtin "type.__call__" ⟨.ref C::us,kw⟩)):=
 ⟨r.hd,by have:=r.dp;rw [Jo];omega,by have:=r.un;rw [Jb];omega,r.gd⟩
theorem gw.depth {k:Nat}{A:Around}(r:gw k A):A.depth<recursionLimit:=by have:=r.dp;omega
theorem gw.units {k:Nat}{A:Around}(r:gw k A):A.units+64<cLine:=by have:=r.un;omega
def YG:TA:=λ_ H Q=>Q [] H
def YX (ta:TE)(tr:TA):TA:=λσ H Q=>ta σ H λx H1=>tr σ H1 λxs H2=>Q (x::xs) H2
section
variable {X:Cx}{e:Expr}{es:List Expr}{te:TE}{t:TA}{pos:Pos}
theorem u5:PA X [] YG:=λ_ _ _ _ H Q I h=>Calls.spliced_nil ⟨[],H,I,.nil,h⟩
theorem lW (ha:PE X e te)(hr:PA X es t)(hs:starEach (e::es) X.env=(false,eval e X.env)::starEach es X.env:=by rfl):PA X (e::es) (YX te t):=by
 intro pos pins s σ H Q I h
 rw [hs]
 show wpAny _ _ (spliced ((false,eval e X.env)::backTo pos (starEach es X.env))) _ _ s
 refine Calls.spliced_cons (thn (ha pins s σ H _ I h) λu s1 hE=>xq2 hE λx H1 I1 r1 q1=>?_)
 exact thn (hr pos pins s1 σ H1 _ I1 q1) λus s2 hE=>xq2 hE λxs H2 I2 r2 q2=>⟨x::xs,H2,I2,.cons r1 r2,q2⟩
def aaD (t:TA):TE:=λσ H Q=>t σ H λxs H1=>xs.length<=sizeLine/\∀p,H1 p=none->Q (.ref p) (upd H1 p (.tup xs))
def aaN (t:TA):TE:=λσ H Q=>t σ H λxs H1=>xs.length<=sizeLine/\∀p,H1 p=none->Q (.ref p) (upd H1 p (.lst xs))
theorem XQ {x1}(h:PA X es t):PE X (.Tuple es x1 pos) (aaD t):=by
 intro pins s σ H Q I hq
 refine wpAny_Tuple_spliced (thn (h pos pins s σ H _ I hq) λus s1 ⟨xs,H1,I1,r,z,q⟩=>⟨by rw [← r.length];exact z,?_⟩)
 have hf:H1 s1.heap.objs.size=none:=I1.hok.fresh (Nat.le_refl _)
 refine ⟨.ref s1.heap.objs.size,upd H1 s1.heap.objs.size (.tup xs),I1.laid (t':=s1.toks) (λb u e=>Heap.get?_push_of_some _ e) (Nat.le_refl _) ?_,rfl,q _ hf⟩
 exact ⟨z,us,r,⟨_,Heap.get?_push_size _ rfl,rfl,_,rfl⟩⟩
theorem XD (h:PA X es t):PE X (.List es pos) (aaN t):=by
 intro pins s σ H Q I hq
 refine wpAny_List_spliced (thn (h pos pins s σ H _ I hq) λus s1 ⟨xs,H1,I1,r,z,q⟩=>⟨by rw [← r.length];exact z,?_⟩)
 have hf:H1 s1.heap.objs.size=none:=I1.hok.fresh (Nat.le_refl _)
 refine ⟨.ref s1.heap.objs.size,upd H1 s1.heap.objs.size (.lst xs),I1.laid (t':=s1.toks) (λb u e=>Heap.get?_push_of_some _ e) (Nat.le_refl _) ?_,rfl,q _ hf⟩
 exact ⟨z,us,0,r,Heap.get?_push_size _ rfl⟩
end
abbrev Sp:=List V->Hp->VK->XK->Prop
abbrev CXT:=List Env->Hp->Shared->XK->Value->Shared->Prop
structure CP (P:Program)(w:World)(K:W.Frag)(mg:Str->Option Value)(base:Heap)(A:Around)(outer:List Env)(s:Shared)(H:Hp):Prop where
 frames:A.frames=some outer
 mod:Mod K mg base
 bs:∀b o,base.get? b=some o->s.heap.get? b=some o/\H b=none
 bsz:base.objs.size<=s.heap.objs.size
 wX:s.heap.FunFrames base outer
 frf:∀b∈frs outer,H b=none
 hok:HOk P w H s.heap
 bare:AllBare s.gens
def CE (outer:List Env)(P:Program)(w:World)(H:Hp)(s:Shared)(Q:VK)(u:Value)(s':Shared):Prop:=
 ∃v H',s'.os=s.os/\AllBare s'.gens/\Un (frs outer) [] H H' s.heap s'.heap/\HOk P w H' s'.heap/\RelV v u/\Q v H'
def CR (CX:CXT)(outer:List Env)(P:Program)(w:World)(H:Hp)(s:Shared)(Q:VK)(E:XK)(r:Result)(s':Shared):Prop:=
 match r with
 | .ok (.ret u)=>CE outer P w H s Q u s'
 | .ok _=>False
 | .error e=>CX outer H s E e s'
structure dm (P:Program)(w:World)(K:W.Frag)(mg:Str->Option Value)(base:Heap)(CX:CXT)(k:Nat)(f:Addr)(fd:FuncData)(ps:List Str)(sp:Sp):Prop where
 len:∀vs H Q E,sp vs H Q E->vs.length=ps.length
 run:∀(A:Around) (outer:List Env) (s:Shared) (H:Hp) (args:Args) (us:List Value) (vs:List V) (Q:VK) (E:XK),gw k A->CP P w K mg base A outer s H->BindsTo s fd args (ps.zip us)->Vals vs us->sp vs H Q E->
  codeAny (model P w) A (.call (.ref f) args) (CR CX outer P w H s Q E) s
theorem dm.imp {P:Program}{w:World}{K:W.Frag}{mg:Str->Option Value}{base:Heap}{CX:CXT}{k:Nat}{f:Addr}{fd:FuncData}{ps:List Str}{sp sp':Sp}(F:dm P w K mg base CX k f fd ps sp)
  (h:∀vs H Q E,sp' vs H Q E->sp vs H Q E):dm P w K mg base CX k f fd ps sp':=
 ⟨λvs H Q E q=>F.len vs H Q E (h _ _ _ _ q),λA outer s H args us vs Q E hr he hb hv hs=>F.run A outer s H args us vs Q E hr he hb hv (h _ _ _ _ hs)⟩
theorem CP.make {P:Program}{w:World}{K:W.Frag}{mg:Str->Option Value}{base:Heap}{A:Around}{outer:List Env}{s:Shared}{H:Hp}(e:CP P w K mg base A outer s H)(C:Addr)(us:List Value)(kw:List (Str×Value)):
  CP P w K mg base (A.under (.builtin "type.__call__" ⟨.ref C::us,kw⟩)) outer s H:=⟨by first | exact e.frames | (simpa [Around.under,Code.envs,Code.isFrame,pushEnvs] using e.frames),e.mod,e.bs,e.bsz,e.wX,e.frf,e.hok,e.bare⟩
theorem CP.in1 {P:Program}{w:World}{K:W.Frag}{mg:Str->Option Value}{base:Heap}{A:Around}{outer:List Env}{s:Shared}{H:Hp}(e:CP P w K mg base A outer s H):
  CP P w K mg base A.in1 outer s H:=⟨e.frames,e.mod,e.bs,e.bsz,e.wX,e.frf,e.hok,e.bare⟩
section
variable {X:Cx}{pins:List (Addr×Obj)}{σ:St}{H:Hp}{s s':Shared}
theorem Inv.env0 (I:Inv X pins σ H s):CP X.prog X.w X.K X.mg X.base X.A X.stack s H:=
 ⟨I.ok.frames,I.ok.mod,I.bs,Nat.le_trans I.ok.bsz I.sz,I.stack,I.KJ,I.hok,I.bare⟩
theorem Inv.after {Q:VK}{u:Value}(I:Inv X pins σ H s)(h:CE X.stack X.prog X.w H s Q u s'):EP X pins σ Q u s':=by
 obtain ⟨v,H',os,bare,un,hok,r,q⟩:=h
 obtain ⟨hh,g,d,t,os'⟩:=s'
 obtain rfl:os'=s.os:=os
 exact ⟨v,H',I.call (h':=hh) (g':=g) (d':=d) (t':=t) (ch:=[]) un hok bare (λb z=>absurd z (by simp)),r,q⟩
end
def ZM (sp:Sp)(dvs:List V)(E:XK)(t:TA):TE:=λσ H Q=>t σ H λvs H1=>sp (vs++dvs) H1 Q E
def VL (C:Addr)(m:Str)(sp:Sp)(dvs:List V)(E:XK)(ta:TE)(t:TA):TE:=λσ H Q=>ta σ H λx H1=>∃a dx fs,x=.ref a/\H1 a=some (.ins C dx fs)/\fs.lookup m=none/\
 t σ H1 λvs H2=>sp (x::(vs++dvs)) H2 Q E
def Zw (C:Addr)(sp:Sp)(dvs:List V)(E:XK)(t:TA):TE:=λσ H Q=>t σ H λvs H1=>∀x dx,H1 x=none->H1 dx=none->dx≠x->
 sp (.ref x::(vs++dvs)) (upd (upd H1 dx (.own x)) x (.ins C dx [])) (λv H2=>v=.non/\Q (.ref x) H2) E
def Binds (K:W.Frag)(fd:FuncData)(ps:List Str)(ds:List Value):Prop:=
 ∀(s:Shared) (us:List Value),K.In s.heap->(us++ds).length=ps.length->BindsTo s fd ⟨us,[]⟩ (ps.zip (us++ds))
theorem Binds.all {K:W.Frag}{fd:FuncData}{ps:List Str}(h:∀us:List Value,us.length=ps.length->bindArgs fd ⟨us,[]⟩=pure (ps.zip us)):Binds K fd ps []:=λs us _ hl=>by
 rw [List.append_nil] at hl ⊢
 exact .of_eq (h us hl)
def Passes (CX:CXT)(X:Cx)(E:XK):Prop:=∀(pins:List (Addr×Obj)) (σ:St) (H:Hp) (s:Shared) (e:Value) (s':Shared),Inv X pins σ H s->CX X.stack H s E e s'->X.xe e s'
section
variable {X:Cx}{CX:CXT}{k:Nat}{f C:Addr}{fd:FuncData}{ps:List Str}{sp:Sp}{dvs:List V}{ds:List Value}{E:XK}{x m:Str}{p pos apos:Pos}{e o:Expr}{es:List Expr}{ta:TE}{t:TA}
theorem Jj {pins:List (Addr×Obj)}{σ:St}{H:Hp}{s:Shared}{Q:VK}{us:List Value}{vs:List V}(F:dm X.prog X.w X.K X.mg X.base CX k f fd ps sp)(hr:gw k X.A)(hb:Binds X.K fd ps ds)(hd:Vals dvs ds)(hx:Passes CX X E)
  (I:Inv X pins σ H s) (r:Vals vs us) (h:sp (vs++dvs) H Q E):wpAny (model X.prog X.w) X.A (call (.ref f) us) (EP X pins σ Q) X.xe s:=by
 have r2:Vals (vs++dvs) (us++ds):=r.append hd
 have hl:(us++ds).length=ps.length:=by rw [← r2.length];exact F.len _ _ _ _ h
 refine wpAny_call (codeAny_mono (F.run X.A X.stack s H ⟨us,[]⟩ (us++ds) (vs++dvs) Q E hr I.env0 (hb s us I.kIn hl) r2 h) λr s' hq=>?_)
 cases r with
 |error e=>exact hx pins σ H s e s' I hq
 |ok fl=>
  cases fl with
  |ret u=>exact I.after hq
  |next=>exact False.elim hq
  |brk=>exact False.elim hq
  |cont=>exact False.elim hq
theorem zW (F:dm X.prog X.w X.K X.mg X.base CX k f fd ps sp)(hr:gw k X.A)(hg:Gl X x)(hm:X.mg x=some (.ref f))(hk:W.keepIn X.K (.ref f)=true)(hb:Binds X.K fd ps ds)(hd:Vals dvs ds)(hx:Passes CX X E)
  (ha:PA X (e::es) t) (hdb:(x == ("__debug__" : Str))=false:=by decide) (he:starEach (e::es) X.env=(false,eval e X.env)::starEach es X.env:=by rfl) (hpl:(backTo pos (starEach es X.env)).any (·.1)=false:=by rfl):
  PE X (.Call (.Name x p) (e::es) [] pos) (ZM sp dvs E t):=by
 intro pins s σ H Q I h
 refine wpAny_Call_Name_kw (Gv I hg hm ?_ hdb)
 refine W.callWith_K (h₀:=X.base) I.ok.mod.kin hk (thn (ha pos pins s σ H _ I h) λus s1 hE=>xq2 hE λvs H1 I1 r q=>⟨I1.kIn,?_⟩) he hpl
 exact Jj F hr hb hd hx I1 r q
theorem M4 {pl:Sem Bool}(he:PE X o ta)(c:Cls X.K C)(hm:Meth X.K C m f)(F:dm X.prog X.w X.K X.mg X.base CX k f fd ps sp)(hr:gw k X.A)(hb:Binds X.K fd ps ds)(hd:Vals dvs ds)(hx:Passes CX X E)(ha:PA X (e::es) t)
  (hst:starEach (e::es) X.env=(false,eval e X.env)::starEach es X.env:=by rfl) (hpl:(backTo pos (starEach es X.env)).any (·.1)=false:=by rfl)
  (ht:eval (.Call (.Attribute o m apos) (e::es) [] pos) X.env=(do
   let ov ← eval o X.env
   standAt apos.atName
   let (f,first) ← holding [ov] (getMethod ov m pl)
   callWith pos f first (backTo pos (starEach (e::es) X.env)) (backToKw pos (keywordEach [] X.env))):=by rfl):
  PE X (.Call (.Attribute o m apos) (e::es) [] pos) (VL C m sp dvs E ta t):=by
 intro pins s σ H Q I h
 refine W.methodCall_KW (pl:=pl) (thn (he pins s σ H _ I h) λu s1 ⟨x,H1,I1,rx,a,dx,fs,ex,ea,l,q⟩=>?_) ht
 subst ex
 obtain rfl:u=Value.ref a:=rx
 refine wA I1 ea c hm l ?_
 refine W.callWith_K (first:=[.ref a]) (h₀:=X.base) I.ok.mod.kin hm.kp (thn (ha pos pins s1 σ H1 _ I1 q) λus s2 hE=>xq2 hE λvs H2 I2 r q2=>⟨I2.kIn,?_⟩) hst hpl
 exact Jj (us:=.ref a::us) (vs:=.ref a::vs) F hr hb hd hx I2 (.cons rfl r) q2
theorem Q8 {pl:Sem Bool}(he:PE X o ta)(c:Cls X.K C)(hm:Meth X.K C m f)(F:dm X.prog X.w X.K X.mg X.base CX k f fd ps sp)(hr:gw k X.A)(hb:Binds X.K fd ps ds)(hd:Vals dvs ds)(hx:Passes CX X E)
  (ht:eval (.Call (.Attribute o m apos) [] [] pos) X.env=(do
   let ov ← eval o X.env
   standAt apos.atName
   let (f,first) ← holding [ov] (getMethod ov m pl)
   callWith pos f first (backTo pos (starEach [] X.env)) (backToKw pos (keywordEach [] X.env))):=by rfl):
  PE X (.Call (.Attribute o m apos) [] [] pos) (VL C m sp dvs E ta YG):=by
 intro pins s σ H Q I h
 refine W.methodCall_KW (pl:=pl) (thn (he pins s σ H _ I h) λu s1 ⟨x,H1,I1,rx,a,dx,fs,ex,ea,l,q⟩=>?_) ht
 subst ex
 obtain rfl:u=Value.ref a:=rx
 refine wA I1 ea c hm l ?_
 exact W.callWith_K0 (first:=[.ref a]) I1.kIn hm.kp (Jj (us:=[.ref a]) (vs:=[.ref a]) F hr hb hd hx I1 (.cons rfl .nil) q)
structure Mk (K:W.Frag)(C f:Addr):Prop where
 makes:W.makesIn K C=true
 init:W.findIn K (.ref C) "__init__" = some (some (.ref f))
 fn:W.isFn K (.ref f)=true
 kp:W.keepIn K (.ref C)=true
theorem RC {pins:List (Addr×Obj)}{σ:St}{H:Hp}{s:Shared}{Q:VK}{us:List Value}{vs:List V}(M:Mk X.K C f)(F:dm X.prog X.w X.K X.mg X.base CX k f fd ps sp)(hr:gw (k+1) X.A)(hb:Binds X.K fd ps ds)(hd:Vals dvs ds)
  (hx:Passes CX X E) (I:Inv X pins σ H s) (r:Vals vs us)
  (h:∀x dx,H x=none->H dx=none->dx≠x->sp (.ref x::(vs++dvs)) (upd (upd H dx (.own x)) x (.ins C dx [])) (λv H2=>v=.non/\Q (.ref x) H2) E):
  wpAny (model X.prog X.w) X.A (call (.ref C) us) (EP X pins σ Q) X.xe s:=by
 have hq:=h (s.heap.objs.size+1) s.heap.objs.size (I.hok.fresh (Nat.le_succ _)) (I.hok.fresh (Nat.le_refl _)) (Nat.ne_of_lt (Nat.lt_succ_self _))
 have I2:=Inv.made (C:=C) I
 have r2:Vals (V.ref (s.heap.objs.size+1)::(vs++dvs)) (Value.ref (s.heap.objs.size+1)::(us++ds)):=.cons rfl (r.append hd)
 have hl:(Value.ref (s.heap.objs.size+1)::us++ds).length=ps.length:=by
  have e:=r2.length
  rw [F.len _ _ _ _ hq] at e
  exact e.symm
 refine wpAny_call (Rg (f:=f) I.kIn M.makes M.init (beq_iff_eq.mp M.fn) (codeAny_mono (F.run _ X.stack _ _ ⟨Value.ref (s.heap.objs.size+1)::us,[]⟩ (Value.ref (s.heap.objs.size+1)::(us++ds)) _ _ E (hr.make C us [])
  (I2.env0.make C us []) (hb _ (Value.ref (s.heap.objs.size+1)::us) I2.kIn hl) r2 hq) λr s' hq'=>?_))
 cases r with
 |error e=>exact hx pins σ _ _ e s' I2 hq'
 |ok fl=>
  cases fl with
  |ret u=>
   obtain ⟨v,H',I3,rv,ev,q3⟩:=I2.after hq'
   subst ev
   exact ⟨rv,⟨V.ref (s.heap.objs.size+1),H',I3,rfl,q3⟩⟩
  |next=>exact False.elim hq'
  |brk=>exact False.elim hq'
  |cont=>exact False.elim hq'
theorem Ut (M:Mk X.K C f)(F:dm X.prog X.w X.K X.mg X.base CX k f fd ps sp)(hr:gw (k+1) X.A)(hg:Gl X x)(hm:X.mg x=some (.ref C))(hb:Binds X.K fd ps ds)(hd:Vals dvs ds)(hx:Passes CX X E)
  (ha:PA X (e::es) t) (hdb:(x == ("__debug__" : Str))=false:=by decide) (he:starEach (e::es) X.env=(false,eval e X.env)::starEach es X.env:=by rfl) (hpl:(backTo pos (starEach es X.env)).any (·.1)=false:=by rfl):
  PE X (.Call (.Name x p) (e::es) [] pos) (Zw C sp dvs E t):=by
 intro pins s σ H Q I h
 refine wpAny_Call_Name_kw (Gv I hg hm ?_ hdb)
 refine W.callWith_K (h₀:=X.base) I.ok.mod.kin M.kp (thn (ha pos pins s σ H _ I h) λus s1 hE=>xq2 hE λvs H1 I1 r q=>⟨I1.kIn,?_⟩) he hpl
 exact RC M F hr hb hd hx I1 r q
end
section
variable {X:Cx}{CX:CXT}{k:Nat}{f C:Addr}{fd:FuncData}{ps ks:List Str}{sp:Sp}{E:XK}{x m:Str}{p pos apos kpos:Pos}{e o:Expr}{es:List Expr}{kws:List Keyword}{te ta:TE}{t tk:TA}{nm:Option Str}
variable {g:List Value->List Value->List Value}{gV:List V->List V->List V}
end
structure bI (N P:List Str)(sc:Scope):Prop where
 kind:sc.kind=.function
 co:sc.isCoroutine=false
 gen:sc.isGenerator=false
 nd:N.Nodup
 pre:N.take P.length=P
 par:∀x∈P,sc.names.lookup x=some .local\/sc.names.lookup x=some .cell
 nofree:∀y∈sc.names,y.2≠.free
theorem DK {kindOf:Str->Option NameKind}{x:Str}:∀{binds:List (Str×Value)} {m:Str->Option Value},(∀v,(x,v)∉binds)->bindL kindOf binds m x=m x
 |[],_,_=>rfl
 |(n,v)::r,m,h=>by
  unfold bindL
  rw [DK λw hw=>h w (List.mem_cons_of_mem _ hw)]
  split
  ·have:x≠n:=by rintro rfl;exact h v List.mem_cons_self
   simp [this]
  ·rfl
theorem Dr {kindOf:Str->Option NameKind}{x:Str}:∀{binds:List (Str×Value)} {m:Str->Option Value},(∀v,(x,v)∉binds)->bindC kindOf binds m x=m x
 |[],_,_=>rfl
 |(n,v)::r,m,h=>by
  unfold bindC
  rw [Dr λw hw=>h w (List.mem_cons_of_mem _ hw)]
  split
  ·rfl
  ·have:x≠n:=by rintro rfl;exact h v List.mem_cons_self
   simp [this]
theorem Ds {kindOf:Str->Option NameKind}{x:Str}{v:Value}:∀{P:List Str} {vs:List Value} {i:Nat} {m:Str->Option Value},P.Nodup->P[i]? = some x->vs[i]? = some v->kindOf x=some .local->
  bindL kindOf (P.zip vs) m x=some v
 |[],_,_,_,_,h,_,_=>by simp at h
 |_::_,[],_,_,_,_,h,_=>by simp at h
 |p::P,w::vs,0,m,nd,h1,h2,hk=>by
  simp at h1 h2;subst h1;subst h2
  show bindL kindOf ((p,w)::P.zip vs) m p=_
  unfold bindL
  rw [DK λv hv=>(List.nodup_cons.mp nd).1 (List.of_mem_zip hv).1,if_pos hk]
  simp
 |p::P,w::vs,i+1,m,nd,h1,h2,hk=>by
  show bindL kindOf ((p,w)::P.zip vs) m x=_
  unfold bindL
  exact Ds (i:=i) (List.nodup_cons.mp nd).2 (by simpa using h1) (by simpa using h2) hk
theorem Dt {kindOf:Str->Option NameKind}{x:Str}{v:Value}:∀{P:List Str} {vs:List Value} {i:Nat} {m:Str->Option Value},P.Nodup->P[i]? = some x->vs[i]? = some v->kindOf x≠some .local->
  bindC kindOf (P.zip vs) m x=some v
 |[],_,_,_,_,h,_,_=>by simp at h
 |_::_,[],_,_,_,_,h,_=>by simp at h
 |p::P,w::vs,0,m,nd,h1,h2,hk=>by
  simp at h1 h2;subst h1;subst h2
  show bindC kindOf ((p,w)::P.zip vs) m p=_
  unfold bindC
  rw [Dr λv hv=>(List.nodup_cons.mp nd).1 (List.of_mem_zip hv).1,if_neg hk]
  simp
 |p::P,w::vs,i+1,m,nd,h1,h2,hk=>by
  show bindC kindOf ((p,w)::P.zip vs) m x=_
  unfold bindC
  exact Dt (i:=i) (List.nodup_cons.mp nd).2 (by simpa using h1) (by simpa using h2) hk
def start (N:List Str)(vs:List V):St:=vs.map some++List.replicate (N.length-vs.length) none
def zx (CX:CXT)(P:Program)(w:World)(K:W.Frag)(mg:Str->Option Value)(base:Heap)(N:List Str)(qual:Str)(scope:Scope)(f:Addr)(cd:Value)(A:Around)(outer:List Env)(s:Shared)(H:Hp)(E:XK):Cx where
 prog:=P
 w:=w
 K:=K
 mg:=mg
 base:=base
 A:=A.deeper (envOfC qual scope s.heap.objs.size f cd)
 N:=N
 s₀:=s
 H₀:=H
 env:=envOfC qual scope s.heap.objs.size f cd
 outer:=outer
 stack:=envOfC qual scope s.heap.objs.size f cd::outer
 ex:=[]
 calm:=true
 fn:=λ_=>true
 pn:=[]
 xe:=λe s'=>wpAny (model P w) (A.deeper (envOfC qual scope s.heap.objs.size f cd)) (leaving (envOfC qual scope s.heap.objs.size f cd) e) (λ_ s''=>CX outer H s E e s'') (λe' s''=>CX outer H s E e' s'') s'
theorem Hf {sc:Scope}{n:Nat}{x:Str}(h:sc.names.lookup x=some .cell):∃c,(cellsFrom n sc.names []).lookup x=some c:=by
 have q:=W.cellsFrom_some sc.names n [] (.inl h)
 exact Option.isSome_iff_exists.mp q
theorem OJ {CX:CXT}{P:Program}{w:World}{K:W.Frag}{mg:Str->Option Value}{base:Heap}{N ps:List Str}{qual:Str}{scope:Scope}{f:Addr}{cd:Value}{A:Around}{outer:List Env}{s s1:Shared}{H:Hp}{E:XK}{us:List Value}{vs:List V}
  (S:bI N ps scope) (hd:A.handled=none) (e0:CP P w K mg base A outer s H) (hl:vs.length=ps.length) (r:Vals vs us)
  (x:InCallC s s.heap.objs.size (bindL (envOfC qual scope s.heap.objs.size f cd).kindOf (ps.zip us) λ_=>none) (cellsFrom (s.heap.objs.size+1) scope.names []) (bindC (envOfC qual scope s.heap.objs.size f cd).kindOf (ps.zip us) λ_=>none) s1):
  Inv (zx CX P w K mg base N qual scope f cd A outer s H E) [] (start N vs) H s1:=by
 have hpl:ps.length<=N.length:=by have:=congrArg List.length S.pre;rw [List.length_take] at this;omega
 obtain ⟨h1,tk,rfl,hk⟩:=x.done
 have noA:∀b:Addr,b∉(zx CX P w K mg base N qual scope f cd A outer s H E).ex:=λb z=>absurd (show b∈([]:List Addr) from z) (by simp)
 refine ⟨⟨e0.mod,S.kind,rfl,rfl,Nat.le_refl _,λy z c h1 h2=>?_,λy hy=>?_,λy c _ h=>?_,λ_=>hd,Around.frames_deeper e0.frames,.inr ⟨rfl,rfl⟩,λb z=>absurd z (noA b),e0.bs,e0.bsz,λb _ _=>noA b,λb z=>absurd z (noA b),e0.wX,e0.frf⟩,
  rfl,e0.bare,Un.kept hk,⟨_,x.toInCall.ns,λi y v h1 h2 h3=>?_⟩,λy c h=>⟨_,x.cell y c h⟩,e0.hok.fresh (Nat.le_refl _),λy c h=>?_,λp hp=>absurd (show p∈([]:List (Addr×Obj)) from hp) (by simp),e0.hok.kept hk,?_⟩
 ·exact name_of_addr x.apart (PySem.mem_of_lookup h1) (PySem.mem_of_lookup h2)
 ·have hy:scope.names.lookup y=some .cell\/scope.names.lookup y=some .free:=hy
  rcases hy with hy | hy
  ·exact Hf hy
  ·exact absurd rfl (S.nofree _ (PySem.mem_of_lookup hy))
 ·exact Nat.le_of_lt (x.above y c (PySem.mem_of_lookup h))
 ·have hi:i<vs.length:=by
   unfold start at h2
   by_cases hi:i<vs.length
   ·exact hi
   ·rw [List.getElem?_append_right (by simpa using hi)] at h2
    rw [List.getElem?_replicate] at h2
    split at h2<;>cases h2
  have ha:vs[i]? = some v:=by
   unfold start at h2
   rw [List.getElem?_append_left (by simpa using hi),List.getElem?_map] at h2
   cases e:vs[i]? with
   |none=>rw [e] at h2;cases h2
   |some a=>rw [e] at h2;cases h2;rfl
  obtain ⟨u,hu,rv⟩:=r.get ha
  have hp:ps[i]? = some y:=by
   rw [← S.pre,List.getElem?_take_of_lt (by omega)];exact h1
  have ndP:ps.Nodup:=by rw [← S.pre];exact S.nd.sublist (List.take_sublist _ _)
  refine ⟨u,rv,?_⟩
  rcases S.par y (List.mem_of_getElem? hp) with k | k
  ·exact .inl ⟨k,Ds ndP hp hu k⟩
  ·obtain ⟨c,e⟩:=Hf (n:=s.heap.objs.size+1) k
   refine .inr ⟨.inl k,c,e,?_⟩
   have q:=x.cell y c e
   rw [Dt ndP hp hu (by show scope.names.lookup y≠_;rw [k];decide)] at q
   exact q
 ·exact e0.hok.fresh (Nat.le_of_lt (x.above y c (PySem.mem_of_lookup h)))
 ·unfold start
  show _=N.length
  rw [List.length_append,List.length_map,List.length_replicate]
  omega
theorem YW {CX:CXT}{P:Program}{w:World}{K:W.Frag}{mg:Str->Option Value}{base:Heap}{k:Nat}{f:Addr}{name qual:Str}{params:Arguments}{body:List Stmt}{scope:Scope}{dV kV doc pm cdv ct oc:Value}{an od:Option Addr}
  {osl:Array (Option Value)} {N ps:List Str} {sp:Sp} (lk:K.lookup f=some ⟨oc,od,.func (W.fnOf name qual params body scope dV kV doc pm an cdv ct),osl⟩) (hcd:W.codeIn K cdv qual=true) (S:bI N ps scope)
  (len:∀vs H Q E,sp vs H Q E->vs.length=ps.length)
  (hbody:∀(A:Around) (outer:List Env) (s:Shared) (H:Hp) (vs:List V) (Q:VK) (E:XK),gw k (A.deeper (envOfC qual scope s.heap.objs.size f cdv))->sp vs H Q E->
   ∃t,PSs (zx CX P w K mg base N qual scope f cdv A outer s H E) body t/\t { nx:=λ_ H'=>Q .non H',rt:=Q } (start N vs) H):
  dm P w K mg base CX (k+1) f (W.fnOf name qual params body scope dV kV doc pm an cdv ct) ps sp:=by
 refine ⟨len,λA outer s H args us vs Q E hr e0 hb r hsp=>?_⟩
 have hl:=len _ _ _ _ hsp
 have KX:K.In s.heap:=e0.mod.kin.keeps λb o e=>(e0.bs b o e).1
 have lim:s.heap.NoLimit:=e0.mod.nolimit.keeps λb o e=>(e0.bs b o e).1
 have hkind:∀y∈ps.zip us,scope.names.lookup y.1=some .local\/(scope.names.lookup y.1=some .cell/\((cellsFrom (s.heap.objs.size+1) scope.names []).lookup y.1).isSome=true):=λ⟨n,v⟩ hy=>by
  rcases S.par n (List.of_mem_zip hy).1 with q | q
  ·exact .inl q
  ·exact .inr ⟨q,W.cellsFrom_some _ _ _ (.inl q)⟩
 refine codeAny_call_function hr.depth (KX _ _ lk) rfl S.co S.gen rfl (W.codeRec_of KX hcd) (hb _ _ _ _ ?_)
 refine wpAny_newFunctionEnv_cells S.kind hkind λenv he s1 x=>?_
 subst he
 refine ⟨lim.keeps x.toInCall.keep,codeAny_func ?_⟩
 obtain ⟨t,ht,hq⟩:=hbody A outer s H vs Q E (hr.deeper _) hsp
 have I:Inv (zx CX P w K mg base N qual scope f cdv A outer s H E) [] (start N vs) H s1:=OJ S hr.hd e0 hl r x
 refine wpAny_mono (ht [] s1 (start N vs) H _ I hq) (λfl s' hs=>?_) λe s' hs=>hs
 have fin:∀{σ':St} {H':Hp} {v:V} {u:Value},Inv (zx CX P w K mg base N qual scope f cdv A outer s H E) [] σ' H' s'->RelV v u->Q v H'->CE outer P w H s Q u s':=
  λ{σ' H' v u} J rv q=>⟨v,H',J.os,J.bare,J.base,J.hok,rv,q⟩
 cases fl with
 |ret u=>
  obtain ⟨v,σ',H',J,rv,q⟩:=hs
  exact fin J rv q
 |next=>
  obtain ⟨σ',H',J,q⟩:=hs
  exact fin (v:=V.non) (u:=Value.none) J rfl q
 |brk=>
  obtain ⟨_,_,_,q⟩:=hs
  exact False.elim q
 |cont=>
  obtain ⟨_,_,_,q⟩:=hs
  exact False.elim q
section
variable {X:Cx}{x:Str}{p pos:Pos}{e:Expr}{es:List Expr}{t:TA}{id T:String}{r:List V->Hp->VK->Prop}
def tCB (r:List V->Hp->VK->Prop)(t:TA):TE:=λσ H Q=>t σ H λvs H1=>r vs H1 Q
theorem An (hc:qj X (.builtin id) r)(hg:Gl X x)(hm:X.mg x=none)(hv:bootBuiltins x=some (.builtin id))(ha:PA X (e::es) t)(hn:x≠"__name__":=by decide)(hdb:(x == ("__debug__" : Str))=false:=by decide)
  (he:starEach (e::es) X.env=(false,eval e X.env)::starEach es X.env:=by rfl) (hpl:(backTo pos (starEach es X.env)).any (·.1)=false:=by rfl):PE X (.Call (.Name x p) (e::es) [] pos) (tCB r t):=by
 intro pins s σ H Q I h
 refine wpAny_Call_Name_kw (yr I hg hm hv ?_ hn hdb)
 exact PyProof.Rows.callWith_builtin1 (thn (ha pos pins s σ H _ I h) λus s1 hE=>xq2 hE λvs H1 I1 r1 q1=>hc pins s1 σ H1 vs us Q I1 r1 q1) he hpl
theorem Oh (hc:qj X (.type T) r)(hg:Gl X x)(hm:X.mg x=none)(hv:bootBuiltins x=some (.type T))(ha:PA X (e::es) t)(hn:x≠"__name__":=by decide)(hdb:(x == ("__debug__" : Str))=false:=by decide)
  (he:starEach (e::es) X.env=(false,eval e X.env)::starEach es X.env:=by rfl) (hpl:(backTo pos (starEach es X.env)).any (·.1)=false:=by rfl):PE X (.Call (.Name x p) (e::es) [] pos) (tCB r t):=by
 intro pins s σ H Q I h
 refine wpAny_Call_Name_kw (yr I hg hm hv ?_ hn hdb)
 exact PyProof.Rows.callWith_type1 (thn (ha pos pins s σ H _ I h) λus s1 hE=>xq2 hE λvs H1 I1 r1 q1=>hc pins s1 σ H1 vs us Q I1 r1 q1) he hpl
end
end L2
namespace HT
open PySem PyProof.Rows
def lexLt:List Int->List Int->Bool
 |[],[]=>false
 |[],_::_=>true
 |_::_,[]=>false
 |x::xs,y::ys=>if x=y then lexLt xs ys else decide (x<y)
theorem Jg (x y:Int)(xs ys:List Int):lexLt (x::xs) (y::ys)=if x=y then lexLt xs ys else decide (x<y):=rfl
theorem CV:lexLt [] []=false:=rfl
theorem Be (y:Int)(ys:List Int):lexLt [] (y::ys)=true:=rfl
theorem Ab (x:Int)(xs:List Int):lexLt (x::xs) []=false:=rfl
theorem Qa (A:Around)(s:Shared)(a:Int)(t:Tok)(c:Int)(u:Tok):∃e,SeqAt.EqAt A s (.int a t) (.int c u) e/\(e=true↔a=c):=
 ⟨(a == c),SeqAt.EqAt.int_int a t c u,by simp⟩
theorem Sy (A:Around)(s:Shared)(a:Int)(t:Tok)(c:Int)(u:Tok)(prog:Program)(w:World)(E:Value->Shared->Prop)(Q:Value->Shared->Prop)(h:Q (.bool (decide (a<c))) s):
  wpAny (model prog w) A (richCompare .Lt (.int a t) (.int c u)) Q E s:=
 (PyProof.Rows.lt_int h:wpAny (model prog w) A (compareOp .Lt (.int a t) (.int c u)) Q E s)
section
open PySem.SeqAt
open PySem.AutoSeq1 (wpAny_loadPart')
open PySem.MeetsSeq PySem.MeetsSeq2 PySem.MeetsSeq3
theorem CK (l b:Addr)(items items2:Array Value)(n n2:Nat)(dd dd2:Option Addr)(sl sl2:Array (Option Value))(ns ms:List Int)(hi:IntsAre items.toList ns)(hj:IntsAre items2.toList ms):
  Meets (Builtin.«tuple.__lt__» ⟨[.ref l,.ref b],[]⟩)
   (λ_ R s=>s.heap.get? l=some { cls:=.type "tuple",dict:=dd,data:=.seq items n,slots:=sl }/\s.heap.get? b=some { cls:=.type "tuple",dict:=dd2,data:=.seq items2 n2,slots:=sl2 }/\
    R (.ok (.ret (.bool (lexLt ns ms)))) s):=
 .of_wp λprog w A R s h=>by
  obtain ⟨hp,g,d,tk,os⟩:=s;obtain ⟨hl,hb,h⟩:=h
  have f2:=AutoSeq1.sub_tuple_tuple
  have z1:items.size=ns.length:=by rw [← hi.length];simp
  have z2:items2.size=ms.length:=by rw [← hj.length];simp
  wp_walk using wpAny_loadPart' hl,wpAny_loadPart' hb,wpAny_forIn_list _ (λrest b s'=>b.1=none/\s'=⟨hp,g,d,tk,os⟩/\∃(vs ws:List Value) (ns' ms':List Int),rest=vs.zip ws/\
   IntsAre vs ns'/\IntsAre ws ms'/\ns'.length+items2.size=ms'.length+items.size/\R (.ok (.ret (.bool (lexLt ns' ms')))) ⟨hp,g,d,tk,os⟩) _
  case turn=>
   rintro ⟨y,x⟩ rest b s' ⟨hb',rfl,vs,ws,ns',ms',hz,hvi,hwi,hlen,hR⟩
   cases hvi with
   |nil=>rw [List.zip_nil_left] at hz;cases hz
   |cons a t hvi'=>
    cases hwi with
    |nil=>rw [List.zip_nil_right] at hz;cases hz
    |cons c u hwi'=>
     rw [List.zip_cons_cons] at hz
     injection hz with hyx hrest
     injection hyx with hy hx
     subst hy hx
     rw [Jg] at hR
     simp only [List.length_cons] at hlen
     obtain ⟨e,he,hiff⟩:=Qa A.in1 ⟨hp,g,d,tk,os⟩ a t c u
     refine wpAny_bind (he prog w _ _ ?_)
     cases e with
     |true=>
      rw [if_pos (hiff.mp rfl)] at hR
      wp_walk
      exact ⟨rfl,rfl,_,_,_,_,hrest,hvi',hwi',by omega,hR⟩
     |false=>
      rw [if_neg (λq=>absurd (hiff.mpr q) Bool.false_ne_true)] at hR
      have hri:=Sy A.in1 ⟨hp,g,d,tk,os⟩ a t c u prog w
      wp_walk using hri
      exact ⟨_,rfl,by simpa using hR⟩
  case fin=>
   rintro ⟨b1,b2⟩ s' ⟨hb',rfl,vs,ws,ns',ms',hz,hvi,hwi,hlen,hR⟩
   simp only at hb'
   subst hb'
   have hv:lexLt ns' ms'=decide (items.size<items2.size):=by
    cases hvi with
    |nil=>
     cases hwi with
     |nil=>
      simp only [List.length_nil] at hlen
      rw [CV]
      exact (decide_eq_false (by omega)).symm
     |cons c u hw=>
      simp only [List.length_nil,List.length_cons] at hlen
      rw [Be]
      exact (decide_eq_true (by omega)).symm
    |cons a t hv=>
     cases hwi with
     |nil=>
      simp only [List.length_nil,List.length_cons] at hlen
      rw [Ab]
      exact (decide_eq_false (by omega)).symm
     |cons c u hw=>
      rw [List.zip_cons_cons] at hz
      cases hz
   rw [hv] at hR
   wp_walk
   exact ⟨_,rfl,by simpa [Builtin.Tuple.tupleCompareSizes] using hR⟩
  case h=>
   exact ⟨rfl,rfl,items.toList,items2.toList,ns,ms,rfl,hi,hj,by omega,h⟩
end
section
variable {prog:Program}{w:World}{A:Around}{E:Value->Shared->Prop}{s:Shared}
theorem JX {l b:Addr}{items items2:Array Value}{ns ms:List Int}{Q:Value->Shared->Prop}(hl:IsTup s.heap l items)(hb:IsTup s.heap b items2)(hi:IntsAre items.toList ns)(hj:IntsAre items2.toList ms)
  (hu:A.units<cLine) (h:Q (.bool (lexLt ns ms)) s):wpAny (model prog w) A (compareOp .Lt (.ref l) (.ref b)) Q E s:=by
 obtain ⟨⟨cls,dd,data,sl⟩,ho,hc,n,hd⟩:=id hl
 obtain ⟨⟨cls2,dd2,data2,sl2⟩,ho2,hc2,n2,hd2⟩:=id hb
 simp only at hc hd hc2 hd2
 subst hc hd hc2 hd2
 exact richCompare_meets_room (op:=.Lt) ⟨_,ho,rfl⟩ ⟨_,ho2,rfl⟩ PySem.F.slot_tuple_lt PySem.F.entry_tuple_lt (PySem.F.args_tuple_lt_2 _ _) (CK l b items items2 n n2 dd dd2 sl sl2 ns ms hi hj)
  ⟨ho,ho2,show Value.bool (lexLt ns ms)≠Value.notImplemented/\Q (.bool (lexLt ns ms)) s from ⟨(λx=>nomatch x),h⟩⟩ hu
theorem U7 {t b:Addr}{vs ws:List Value}{Q:Value->Shared->Prop}(ht:IsTup s.heap t vs.toArray)(hb:IsTup s.heap b ws.toArray)(hv:vs≠[])
  (h1:ws=[]->Q (.ref t) s) (h2:ws≠[]->Q (.ref s.heap.objs.size) { s with heap:=s.heap.push { cls:=.type "tuple",data:=.seq (vs++ws).toArray } })
  (hsz:vs.length+ws.length<=sizeLine):wpAny (model prog w) A (binaryOp .Add (.ref t) (.ref b)) Q E s:=by
 obtain ⟨⟨cls,dd,data,sl⟩,ho,hc,n,hd⟩:=id ht
 obtain ⟨⟨cls2,dd2,data2,sl2⟩,ho2,hc2,n2,hd2⟩:=id hb
 simp only at hc hd hc2 hd2
 subst hc hd hc2 hd2
 have e:vs.toArray++ws.toArray=(vs++ws).toArray:=by simp
 by_cases hw:ws=[]
 ·exact concat_meets ⟨_,ho,rfl⟩ ⟨_,ho2,rfl⟩ noFill_tuple_add seq_tuple_add PySem.F.slot_tuple_add PySem.F.entry_tuple_add (PySem.F.args_tuple_add_2 _ _)
   (tuple_addW1 t b vs.toArray ws.toArray n n2 dd dd2 sl sl2 (by simpa using hv) (by simp [hw])) ⟨ho,ho2,h1 hw⟩
 ·refine concat_meets ⟨_,ho,rfl⟩ ⟨_,ho2,rfl⟩ noFill_tuple_add seq_tuple_add PySem.F.slot_tuple_add PySem.F.entry_tuple_add (PySem.F.args_tuple_add_2 _ _)
   (tuple_addW2 t b vs.toArray ws.toArray n n2 dd dd2 sl sl2 (by simpa using hv) (by simpa using hw) (by rw [List.size_toArray,List.size_toArray];exact hsz)) ⟨ho,ho2,?_⟩
  rw [e]
  exact h2 hw
def sIx (n d:Nat):Option Int->Nat
 |none=>d
 |some v=>if v<0 then (v+(n:Int)).toNat else min v.toNat n
theorem Vu (n d k:Nat):sIx n d (some (k:Int))=min k n:=by
 show (if (k:Int)<0 then ((k:Int)+(n:Int)).toNat else min (k:Int).toNat n)=min k n
 rw [if_neg (by omega),Int.toNat_natCast]
theorem Yh (n d:Nat)(hd:d<=n)(o:Option Int):sIx n d o<=n:=by
 cases o with
 |none=>exact hd
 |some v=>
  show (if v<0 then (v+(n:Int)).toNat else min v.toNat n)<=n
  by_cases hv:v<0
  ·rw [if_pos hv];omega
  ·rw [if_neg hv];exact Nat.min_le_right _ _
theorem Ks (v:Int)(n d:Nat):(if v<0 then max (v+(n:Int)) 0 else min v (n:Int))=((sIx n d (some v):Nat):Int):=by
 show (if v<0 then max (v+(n:Int)) 0 else min v (n:Int))=(((if v<0 then (v+(n:Int)).toNat else min v.toNat n):Nat):Int)
 by_cases hv:v<0
 ·simp only [if_pos hv];omega
 ·simp only [if_neg hv];omega
theorem Jd (lo hi:Option Int)(n:Nat):Builtin.Slice.sliceAdjust lo hi 1 (n:Int)=(((sIx n 0 lo:Nat):Int),((sIx n n hi:Nat):Int)):=by
 have h1:¬((1:Int)<0):=by omega
 unfold Builtin.Slice.sliceAdjust
 simp only [h1,if_false]
 refine Prod.ext ?_ ?_
 ·cases lo with
  |none=>rfl
  |some v=>exact Ks v n 0
 ·cases hi with
  |none=>rfl
  |some v=>exact Ks v n n
theorem Jf (i j:Nat):Builtin.Slice.slicePlaces (i:Int) (j:Int) 1=j-i:=by
 unfold Builtin.Slice.slicePlaces
 have h1:(1:Int) > 0:=by omega
 simp only [h1,if_true,Int.ediv_one]
 split<;>omega
theorem Aj {v:Value}{o:Option Int}{Q:Option Int->Shared->Prop}(p:IsPart v o)(h:Q o s):wpAny (model prog w) A (Builtin.Slice.slicePartIndex v) Q E s:=by
 cases p with
 |none=>exact slicePart_none h
 |int i t=>exact slicePart_int h
theorem yK {sl:Addr}{vl vu:Value}{lo hi:Option Int}{n:Nat}{Q:Int×Int×Nat->Shared->Prop}(hs:s.heap.IsSliceOf sl vl vu .none)(pl:IsPart vl lo)(pu:IsPart vu hi)
  (h:Q (((sIx n 0 lo:Nat):Int),1,sIx n n hi-sIx n 0 lo) s):wpAny (model prog w) A (Builtin.Slice.sliceApplied (.ref sl) (pure (n:Int))) Q E s:=by
 obtain ⟨os,hos,hcs,hds⟩:=id hs
 unfold Builtin.Slice.sliceApplied Builtin.Slice.sliceFields
 refine wpAny_bind (wpAny_bind (wpAny_field hos hds (x:=vl) rfl (wpAny_bind (wpAny_field hos hds (x:=vu) rfl (wpAny_bind (wpAny_field hos hds (x:=.none) rfl (wpAny_pure ?_)))))))
 refine wpAny_bind (slicePart_none ?_)
 show wpAny _ _ (if ((1:Int) == 0)=true then _ else _) _ _ s
 rw [if_neg (by decide)]
 refine wpAny_bind (Aj pl (wpAny_bind (Aj pu (wpAny_bind (wpAny_pure ?_)))))
 show wpAny _ _ (match Builtin.Slice.sliceAdjust lo hi 1 (n:Int) with | (lo,hi)=>pure (lo,(1:Int),Builtin.Slice.slicePlaces lo hi 1)) _ _ s
 rw [Jd lo hi n]
 show wpAny _ _ (pure (((sIx n 0 lo:Nat):Int),(1:Int),Builtin.Slice.slicePlaces ((sIx n 0 lo:Nat):Int) ((sIx n n hi:Nat):Int) 1)) _ _ s
 rw [Jf]
 exact wpAny_pure h
theorem O6 (xs:Array Value)(i k:Nat):((List.range k).filterMap λ(m:Nat)=>xs[((i:Int)+(m:Int)*1).toNat]?).toArray=((xs.toList.drop i).take k).toArray:=by
 have e:(λ(m:Nat)=>xs[((i:Int)+(m:Int)*1).toNat]?)=λm=>xs[i+m]?:=by
  funext m
  have:((i:Int)+(m:Int)*1).toNat=i+m:=by omega
  rw [this]
 rw [e]
 have:=pick_run xs i k
 rw [List.filterMap_map] at this
 have e2:((λx=>xs[x]?) ∘ λx=>i+x)=λm=>xs[i+m]?:=rfl
 rw [e2] at this
 rw [this]
theorem yq {t sl:Addr}{items:Array Value}{vl vu:Value}{lo hi:Option Int}{Q:Value->Shared->Prop}(ht:IsTup s.heap t items)(hs:s.heap.IsSliceOf sl vl vu .none)(pl:IsPart vl lo)(pu:IsPart vu hi)
  (hw:¬(sIx items.size 0 lo=0/\sIx items.size items.size hi=items.size))
  (h:Q (.ref s.heap.objs.size) { s with heap:=s.heap.push { cls:=.type "tuple",data:=.seq ((items.toList.drop (sIx items.size 0 lo)).take (sIx items.size items.size hi-sIx items.size 0 lo)).toArray } })
  (hsz:items.size<=sizeLine):wpAny (model prog w) A (getItem (.ref t) (.ref sl)) Q E s:=by
 have htake:sizeOk (.seq ((items.toList.drop (sIx items.size 0 lo)).take (sIx items.size items.size hi-sIx items.size 0 lo)).toArray):=by
  show ((items.toList.drop (sIx items.size 0 lo)).take (sIx items.size items.size hi-sIx items.size 0 lo)).toArray.size<=sizeLine
  rw [List.size_toArray,List.length_take,List.length_drop,Array.length_toList]
  omega
 have hj:sIx items.size items.size hi<=items.size:=Yh _ _ (Nat.le_refl _) hi
 obtain ⟨os,hos,hcs,hds⟩:=id hs
 have hTs:s.TypeIs (.ref sl) "slice":=⟨os,hos,hcs⟩
 unfold getItem
 try with_reducible refine wpAny_holding ?_
 first | refine wpAny_bind (wpAny_pure ?_) | skip
 refine wpAny_bind (wpAny_sequenceKey ht.typeIs (by decide) ?_)
 refine wpAny_bind (wpAny_callSpecial?_slot (name:=Str.ofString "__getitem__") ht.typeIs PyProof.Rows.slot_tuple_getitem
  (wpAny_call_entry PyProof.Rows.slot_tuple_getitem ht.typeIs entry_tuple_getitem ?_ (args_tuple_getitem _ _)))
 show wpAny _ _ (Builtin.Tuple.tupleItemsOf (.ref t) >>= _) _ _ s
 refine wpAny_bind (tupleItemsOf_ ht ?_)
 refine wpAny_bind (wpAny_typeOf hTs ?_)
 rw [if_pos (by decide)]
 refine wpAny_bind (yK hs pl pu ?_)
 have hno:¬((((sIx items.size 0 lo:Nat):Int) == 0 && (1:Int) == 1 && (sIx items.size items.size hi-sIx items.size 0 lo) == items.size)=true):=by
  intro q
  rw [Bool.and_eq_true,Bool.and_eq_true] at q
  have q1:((sIx items.size 0 lo:Nat):Int)=0:=eq_of_beq q.1.1
  have q2:sIx items.size items.size hi-sIx items.size 0 lo=items.size:=eq_of_beq q.2
  exact hw ⟨by omega,by omega⟩
 show wpAny _ _ (if (((sIx items.size 0 lo:Nat):Int) == 0 && (1:Int) == 1 && (sIx items.size items.size hi-sIx items.size 0 lo) == items.size)=true then _ else _) _ _ s
 rw [if_neg hno,O6]
 first
  |exact wpAny_bind (m:=Builtin.Tuple.tupleExact _) (wpAny_newObj_type (wpAny_pure ⟨_,rfl,wpAny_pure h⟩) htake)
  |exact wpAny_bind (m:=Builtin.Tuple.tupleExact _) (wpAny_newObj_type (wpAny_bind (wpAny_pure (wpAny_pure ⟨_,rfl,wpAny_pure h⟩))) htake)
  |exact wpAny_bind (wpAny_bind (m:=Builtin.Tuple.tupleExact _) (wpAny_newObj_type (wpAny_pure (wpAny_pure ⟨_,rfl,wpAny_pure h⟩)) htake))
  |exact wpAny_bind (wpAny_bind (m:=Builtin.Tuple.tupleExact _) (wpAny_newObj_type (wpAny_pure ⟨_,rfl,wpAny_pure h⟩) htake))
end
end HT
namespace L2
open PySem PySem.Spec PyProof.Rows
abbrev TO:=St->Hp->(Option Int->Hp->Prop)->Prop
def PO (X:Cx)(e:Option Expr)(t:TO):Prop:=
 ∀(pins:List (Addr×Obj)) (s:Shared) (σ:St) (H:Hp) (Q:Option Int->Hp->Prop),Inv X pins σ H s->t σ H Q->
  wpAny (model X.prog X.w) X.A (evalPart e X.env) (λu s'=>∃o H',Inv X pins σ H' s'/\IsPart u o/\Q o H') X.xe s
def S9:TO:=λ_ H Q=>Q none H
def ZD (t:TE):TO:=λσ H Q=>t σ H λx H1=>∃i,x=.int i/\Q (some i) H1
theorem intsAre_of {ns:List Int}:∀{us:List Value},Vals (ns.map V.int) us->IntsAre us ns:=by
 induction ns with
 |nil=>intro us r;rw [List.map_nil] at r;cases r;exact .nil
 |cons n ns ih=>
  intro us r
  rw [List.map_cons] at r
  cases r with
  |cons r1 r2=>
   obtain ⟨t,e⟩:=r1
   subst e
   exact .cons n t (ih r2)
section
variable {X:Cx}{e:Expr}{te:TE}{lo hi:Option Expr}{tl th:TO}{pos p2:Pos}
theorem Tg:PO X none S9:=by
 intro pins s σ H Q I h
 rw [evalPart_none]
 exact wpAny_pure ⟨none,H,I,.none,h⟩
theorem Uq (h:PE X e te):PO X (some e) (ZD te):=by
 intro pins s σ H Q I hw
 rw [evalPart_some]
 refine thn (h pins s σ H _ I hw) λu s1 hE=>xq2 hE λx H1 I1 r1 q1=>?_
 obtain ⟨i,rfl,q⟩:=q1
 obtain ⟨t,rfl⟩:=r1
 exact ⟨some i,H1,I1,.int i t,q⟩
def SlR (X:Cx)(r:V->Option Int->Option Int->Hp->VK->Prop):Prop:=
 ∀(pins:List (Addr×Obj)) (s:Shared) (σ:St) (H:Hp) (x:V) (v vl vu:Value) (lo hi:Option Int) (sl:Addr) (Q:VK),Inv X pins σ H s->RelV x v->s.heap.IsSliceOf sl vl vu .none->IsPart vl lo->IsPart vu hi->r x lo hi H Q->
  ∃T id,typeLookup (.type T) "__getitem__" = pure (some (.builtin id))/\s.TypeIs v T/\wpAny (model X.prog X.w) X.A (getItem v (.ref sl)) (EP X pins σ Q) X.xe s
def tSl (r:V->Option Int->Option Int->Hp->VK->Prop)(te:TE)(tl th:TO):TE:=λσ H Q=>te σ H λx H1=>tl σ H1 λl H2=>th σ H2 λu H3=>r x l u H3 Q
theorem RL {r:V->Option Int->Option Int->Hp->VK->Prop}(hr:SlR X r)(he:PE X e te)(hl:PO X lo tl)(hu:PO X hi th):PE X (.Subscript e (.Slice lo hi none p2) pos) (tSl r te tl th):=by
 intro pins s σ H Q I h
 refine Subscript_ (thn (he pins s σ H _ I h) λv s1 hE=>xq2 hE λx H1 I1 r1 q1=>?_)
 refine wpAny_Slice (thn (hl pins s1 σ H1 _ I1 q1) λvl s2 ⟨l,H2,I2,pl,q2⟩=>thn (hu pins s2 σ H2 _ I2 q2) λvu s3 ⟨u,H3,I3,pu,q3⟩=>?_)
 rw [evalPart_none]
 refine wpAny_pure ?_
 have I4:Inv X pins σ H3 { s3 with heap:=s3.heap.push { cls:=.type "slice",data:=.fields #[vl,vu,.none] } }:=I3.kept (t':=s3.toks) λb ob q=>Heap.get?_push_of_some _ q
 obtain ⟨T,id,hT,ht,hg⟩:=hr pins { s3 with heap:=s3.heap.push { cls:=.type "slice",data:=.fields #[vl,vu,.none] } } σ H3 x v vl vu l u s3.heap.objs.size Q I4 r1 (Heap.IsSliceOf.new ..) pl pu q3
 show wpAny (model X.prog X.w) X.A (subscriptTail e (.Slice lo hi none p2) v (.ref s3.heap.objs.size)) (EP X pins σ Q) X.xe { s3 with heap:=s3.heap.push { cls:=.type "slice",data:=.fields #[vl,vu,.none] } }
 exact tail_any (ops:=[.ref s3.heap.objs.size,v]) ht hT hg (by with_unfolding_all rfl)
def HX (xs:List V)(lo hi:Option Int):List V:=(xs.drop (HT.sIx xs.length 0 lo)).take (HT.sIx xs.length xs.length hi-HT.sIx xs.length 0 lo)
theorem yU (xs:List V)(lo hi:Option Int):(HX xs lo hi).length<=xs.length:=by
 unfold HX
 rw [List.length_take,List.length_drop]
 omega
def aaS (K:W.Frag):V->Option Int->Option Int->Hp->VK->Prop:=λx lo hi H Q=>∃a xs,x=.ref a/\SqT K H a xs/\
 ¬(HT.sIx xs.length 0 lo=0/\HT.sIx xs.length xs.length hi=xs.length)/\∀p,H p=none->Q (.ref p) (upd H p (.tup (HX xs lo hi)))
theorem Wu:SlR X (aaS X.K):=by
 intro pins s σ H x v vl vu lo hi sl Q I rx hs pl pu h
 obtain ⟨a,xs,rfl,hx,hw,q⟩:=h
 cases rx
 obtain ⟨its,r,ht,hz⟩:=I.tuple hx
 have hlen:its.toArray.size=xs.length:=by rw [List.size_toArray];exact r.length.symm
 refine ⟨"tuple",_,PyProof.Rows.slot_tuple_getitem.lookup,ht.typeIs,?_⟩
 refine HT.yq ht hs pl pu (by rw [hlen];exact hw) ?_ (by rw [hlen];exact hz)
 rw [hlen]
 refine ⟨.ref s.heap.objs.size,_,I.laid (t':=s.toks) (o:=.tup (HX xs lo hi)) (λb ob q=>Heap.get?_push_of_some _ q) (Nat.le_refl _) ?_,rfl,q _ (I.hok.fresh (Nat.le_refl _))⟩
 exact ⟨Nat.le_trans (yU xs lo hi) hz,_,(r.drop (HT.sIx xs.length 0 lo)).take (HT.sIx xs.length xs.length hi-HT.sIx xs.length 0 lo),IsTup.new _ _⟩
def aaw (K:W.Frag):R2:=λx y H Q=>∃a b ns ms,x=.ref a/\y=.ref b/\SqT K H a (ns.map V.int)/\SqT K H b (ms.map V.int)/\Q (.bl (HT.lexLt ns ms)) H
theorem Xp (hu:X.A.units<cLine):OpR X (compareOp .Lt) (aaw X.K):=by
 intro pins s σ H x y v u Q I rx ry h
 obtain ⟨a,b,ns,ms,rfl,rfl,ha,hb,q⟩:=h
 cases rx
 cases ry
 obtain ⟨its,r1,p1,_⟩:=I.tuple ha
 obtain ⟨its2,r2,p2,_⟩:=I.tuple hb
 have i1:IntsAre its.toArray.toList ns:=intsAre_of r1
 have i2:IntsAre its2.toArray.toList ms:=intsAre_of r2
 exact HT.JX p1 p2 i1 i2 hu ⟨.bl (HT.lexLt ns ms),H,I,rfl,q⟩
def Zb (K:W.Frag):R2:=λx y H Q=>∃a b xs ys,x=.ref a/\y=.ref b/\SqT K H a xs/\SqT K H b ys/\xs≠[]/\xs.length+ys.length<=sizeLine/\
 (ys=[]->Q (.ref a) H)/\(ys≠[]->∀p,H p=none->Q (.ref p) (upd H p (.tup (xs++ys))))
theorem Vals.FJ {xs:List V}{us:List Value}(r:Vals xs us):us=[]↔xs=[]:=by
 cases r with
 |nil=>simp
 |cons _ _=>simp
theorem Ug:OpR X (binaryOp .Add) (Zb X.K):=by
 intro pins s σ H x y v u Q I rx ry h
 obtain ⟨a,b,xs,ys,rfl,rfl,ha,hb,hx,hz,q1,q2⟩:=h
 cases rx
 cases ry
 obtain ⟨its,r1,p1,_⟩:=I.tuple ha
 obtain ⟨its2,r2,p2,_⟩:=I.tuple hb
 refine HT.U7 p1 p2 (λz=>hx (r1.FJ.mp z)) (λz=>⟨.ref a,H,I,rfl,q1 (r2.FJ.mp z)⟩) (λz=>?_) (by rw [← r1.length,← r2.length];exact hz)
 refine ⟨.ref s.heap.objs.size,_,I.laid (t':=s.toks) (o:=.tup (xs++ys)) (λb ob q=>Heap.get?_push_of_some _ q) (Nat.le_refl _) ?_,rfl,q2 (λw=>z (r2.FJ.mpr w)) _ (I.hok.fresh (Nat.le_refl _))⟩
 exact ⟨by rw [List.length_append];exact hz,_,r1.append r2,IsTup.new _ _⟩
end
def ixN (n:Nat)(i:Int):Option Nat:=if 0<=i then (if i<n then some i.toNat else none) else if -(n:Int)<=i then some (i+n).toNat else none
def atI {α:Type}(xs:List α)(i:Int):Option α:=(ixN xs.length i).bind λj=>xs[j]?
theorem K3 {n:Nat}{i:Int}{j:Nat}(h:ixN n i=some j):seqIndex? i n=some j/\j<n/\-(n:Int)<=i/\i<n:=by
 unfold ixN at h
 by_cases h0:0<=i
 ·rw [if_pos h0] at h
  by_cases h1:i<n
  ·rw [if_pos h1] at h
   have e:i.toNat=j:=Option.some.inj h
   exact ⟨by rw [seqIndex_of h0 h1,e],by omega,by omega,h1⟩
  ·rw [if_neg h1] at h;cases h
 ·rw [if_neg h0] at h
  by_cases h1:-(n:Int)<=i
  ·rw [if_pos h1] at h
   have e:(i+n).toNat=j:=Option.some.inj h
   exact ⟨by rw [seqIndex_neg (by omega) h1,e],by omega,h1,by omega⟩
  ·rw [if_neg h1] at h;cases h
theorem GC {α:Type}{xs:List α}{i:Int}{v:α}(h:atI xs i=some v):∃j,seqIndex? i xs.length=some j/\xs[j]? = some v/\j<xs.length/\-(xs.length:Int)<=i/\i<xs.length:=by
 unfold atI at h
 cases e:ixN xs.length i with
 |none=>rw [e] at h;cases h
 |some j=>
  rw [e] at h
  obtain ⟨h1,h2,h3,h4⟩:=K3 e
  exact ⟨j,h1,h,h2,h3,h4⟩
theorem K4 {α:Type}{xs:List α}{j:Nat}{v:α}(h:xs[j]? = some v):atI xs (j:Int)=some v:=by
 have hj:j<xs.length:=(List.getElem?_eq_some_iff.mp h).1
 have e:ixN xs.length (j:Int)=some j:=by
  unfold ixN
  rw [if_pos (by omega),if_pos (by omega)];simp
 unfold atI;rw [e];exact h
def Lr (b:Expr):Prop:=∀o i,subscripted b false o i=operate [o,i] (getItem o i)
def IxR (X:Cx)(r:R2):Prop:=
 ∀(value slice:Expr) (pins:List (Addr×Obj)) (s:Shared) (σ:St) (H:Hp) (x y:V) (v u:Value) (Q:VK),Inv X pins σ H s->RelV x v->RelV y u->r x y H Q->
  subscripted slice false v u=operate [v,u] (getItem v u)->wpAny (model X.prog X.w) X.A (subscriptTail value slice v u) (EP X pins σ Q) X.xe s
def MtR (X:Cx)(id:String)(r:V->List V->Hp->VK->Prop):Prop:=
 ∀(pins:List (Addr×Obj)) (s:Shared) (σ:St) (H:Hp) (x:V) (xs:List V) (v:Value) (us:List Value) (Q:VK),Inv X pins σ H s->RelV x v->Vals xs us->r x xs H Q->
  wpAny (model X.prog X.w) X.A (call (.builtin id) (v::us)) (EP X pins σ Q) X.xe s
section
variable {X:Cx}{a b:Expr}{ta tb:TE}{pos:Pos}
theorem Yw {r:R2}(hr:IxR X r)(ha:PE X a ta)(hb:PE X b tb)(hs:Lr b):PE X (.Subscript a b pos) (tOp r ta tb):=by
 intro pins s σ H Q I h
 exact Subscript_ (X7 ha hb I h λv u s2 x y H2 I2 rx ry q=>hr a b pins s2 σ H2 x y v u Q I2 rx ry q (hs _ _))
def aaY (K:W.Frag):R2:=λx y H Q=>∃p xs i v,x=.ref p/\y=.int i/\SqL K H p xs/\atI xs i=some v/\Q v H
def aaz (K:W.Frag):R2:=λx y H Q=>∃p xs i v,x=.ref p/\y=.int i/\SqT K H p xs/\atI xs i=some v/\Q v H
def aav:R2:=λx y H Q=>∃z i c,x=.str z/\y=.int i/\z.length<=sizeLine/\atI z.cps.toList i=some c/\Q (.str ⟨#[c]⟩) H
theorem Uj:IxR X (aaY X.K):=by
 intro value slice pins s σ H x y v u Q I rx ry h hs
 obtain ⟨p,xs,i,z,rfl,rfl,hq,he,q⟩:=h
 cases rx
 obtain ⟨t,rfl⟩:=ry
 obtain ⟨its,r,pl,hz⟩:=I.list hq
 obtain ⟨j,h1,h2,h3,h4,h5⟩:=GC he
 obtain ⟨w,ew,rw'⟩:=r.get h2
 have hl:=r.length
 have hn:=yO
 have fin:EP X pins σ Q w s:=⟨z,H,I,rw',q⟩
 by_cases h0:0<=i
 ·have hj:i.toNat=j:=by
   rw [seqIndex_of h0 h5] at h1
   exact Option.some.inj h1
  exact item_listR pl.isList h0 (by omega) (by rw [hj];simpa using ew) fin hs
 ·have hj:(i+(its.toArray.size:Int)).toNat=j:=by
   rw [seqIndex_neg (by omega) h4] at h1
   rw [List.size_toArray,← hl]
   exact Option.some.inj h1
  exact subscriptTail_builtinR (x:=w) pl.isList.typeIs slot_list_getitem.lookup
   (wpAny_getItem_list_neg (Q:=λr s'=>r=w/\EP X pins σ Q r s') pl.isList (by omega) (by rw [List.size_toArray]<;>omega) (by omega) (by rw [hj];simpa using ew) ⟨rfl,fin⟩) hs
theorem X6:IxR X (aaz X.K):=by
 intro value slice pins s σ H x y v u Q I rx ry h hs
 obtain ⟨p,xs,i,z,rfl,rfl,hq,he,q⟩:=h
 cases rx
 obtain ⟨t,rfl⟩:=ry
 obtain ⟨its,r,pl,hz⟩:=I.tuple hq
 obtain ⟨j,h1,h2,h3,h4,h5⟩:=GC he
 obtain ⟨w,ew,rw'⟩:=r.get h2
 have hl:=r.length
 have hn:=yO
 have fin:EP X pins σ Q w s:=⟨z,H,I,rw',q⟩
 exact subscriptTail_builtinR (x:=w) pl.typeIs slot_tuple_getitem.lookup
  (getItem_tuple (j:=j) (Q:=λr s'=>r=w/\EP X pins σ Q r s') pl (by omega) (by omega) (by rw [List.size_toArray,← hl];exact h1) (by simpa using ew) ⟨rfl,fin⟩) hs
theorem Yd:IxR X aav:=by
 intro value slice pins s σ H x y v u Q I rx ry h hs
 obtain ⟨z,i,c,rfl,rfl,hz,he,q⟩:=h
 obtain ⟨t,rfl⟩:=rx
 obtain ⟨t',rfl⟩:=ry
 obtain ⟨j,h1,h2,h3,h4,h5⟩:=GC he
 have hl:z.cps.toList.length=z.length:=by simp [Str.length]
 rw [hl] at h1 h4 h5
 have hn:=yO
 exact tail_any (typeIs_str s z t) slot_str_getitem.lookup (getItem_str (c:=c) (by
  have e1:decide (i < -(2 ^ 63:Int))=false:=decide_eq_false (by omega)
  have e2:decide (i ≥ 2 ^ 63)=false:=decide_eq_false (by omega)
  rw [e1,e2,Bool.or_false]) (by rw [h1];simpa using h2) ⟨.str ⟨#[c]⟩,H,I.tok _,⟨_,rfl⟩,q⟩) hs
theorem IW (its:List Value)(n j:Nat)(u:Value):Obj.mapSeq (·.setIfInBounds j u) { cls:=.type "list",data:=.seq its.toArray n }={ cls:=.type "list",data:=.seq (its.set j u).toArray n }:=by
 simp [Obj.mapSeq]
theorem Inv.lst {pins:List (Addr×Obj)}{σ:St}{H:Hp}{s:Shared}{p:Addr}{xs:List V}(I:Inv X pins σ H s)(h:H p=some (.lst xs)):
  ∃(its:List Value) (n:Nat),Vals xs its/\s.heap.get? p=some { cls:=.type "list",data:=.seq its.toArray n }/\xs.length<=sizeLine:=by
 obtain ⟨z,its,n,r,e⟩:=I.hok p _ h
 exact ⟨its,n,r,e,z⟩
theorem Inv.W2 {pins:List (Addr×Obj)}{σ:St}{H:Hp}{s:Shared}{p:Addr}{xs ys:List V}{its its':List Value}{n n':Nat}{f:Obj->Obj}(I:Inv X pins σ H s)(h:H p=some (.lst xs))
  (ho:s.heap.get? p=some { cls:=.type "list",data:=.seq its.toArray n }) (hf:f { cls:=.type "list",data:=.seq its.toArray n }={ cls:=.type "list",data:=.seq its'.toArray n' }) (r:Vals ys its') (hz:ys.length<=sizeLine) (t:Nat):
  Inv X pins σ (upd H p (.lst ys)) { s with heap:=s.heap.update p f,toks:=t }:=by
 have e:(s.heap.update p f).get? p=some { cls:=.type "list",data:=.seq its'.toArray n' }:=by
  rw [Heap.get?_update_self f ho (by rw [hf]<;>rfl),hf]
 refine I.write (x:=p) (e:=p) (by rw [h];trivial) (.inl rfl) (λb u hb q=>(Heap.get?_update_other _ _ (Ne.symm hb)).trans q) ⟨_,e⟩ ?_
 exact ⟨hz,its',n',r,e⟩
def Zo:V->V->V->Hp->(Hp->Prop)->Prop:=λo i v H Q=>∃p xs k j,o=.ref p/\i=.int k/\H p=some (.lst xs)/\ixN xs.length k=some j/\Q (upd H p (.lst (xs.set j v)))
theorem set_list:YK X Zo:=by
 intro pins s σ H o i v ov iv u Q I ro ri rv h
 obtain ⟨p,xs,k,j,rfl,rfl,hp,hj,q⟩:=h
 cases ro
 obtain ⟨t,rfl⟩:=ri
 obtain ⟨its,n,r,ho,hz⟩:=I.lst hp
 obtain ⟨h1,h2,h3,h4⟩:=K3 hj
 have hl:=r.length
 have hn:=yO
 have I':Inv X pins σ (upd H p (.lst (xs.set j v))) { s with heap:=s.heap.update p (Obj.mapSeq (·.setIfInBounds j u)) }:=
  I.W2 hp ho (IW its n j u) (r.set rv j) (by rw [List.length_set];exact hz) s.toks
 by_cases h0:0<=k
 ·have hk:k.toNat=j:=by
   rw [seqIndex_of h0 h4] at h1
   exact Option.some.inj h1
  exact W.ki_setAt ho h0 (by omega) (by rw [List.size_toArray,← hl];exact h4) (by rw [hk];exact ⟨_,I',q⟩)
 ·have hk:(k+(its.toArray.size:Int)).toNat=j:=by
   rw [seqIndex_neg (by omega) h3] at h1
   rw [List.size_toArray,← hl]
   exact Option.some.inj h1
  exact W.ki_setBack ho (by omega) (by rw [List.size_toArray,← hl];exact h3) (by omega) (by rw [hk];exact ⟨_,I',q⟩)
theorem GK (lo hi:Option Int)(n:Nat):(sliceBounds lo hi none n).1=((HT.sIx n 0 lo:Nat):Int)/\(sliceBounds lo hi none n).2.1=((HT.sIx n n hi:Nat):Int)/\(sliceBounds lo hi none n).2.2=1:=by
 refine ⟨?_,?_,rfl⟩
 ·cases lo with
  |none=>simp [sliceBounds,HT.sIx]
  |some i=>
   simp only [sliceBounds,HT.sIx,Option.getD_none,show (1:Int) > 0 by decide,if_true]
   by_cases h:i<0
   ·simp only [h,if_true]<;>omega
   ·simp only [h,if_false]<;>omega
 ·cases hi with
  |none=>simp [sliceBounds,HT.sIx]
  |some i=>
   simp only [sliceBounds,HT.sIx,Option.getD_none,show (1:Int) > 0 by decide,if_true]
   by_cases h:i<0
   ·simp only [h,if_true]<;>omega
   ·simp only [h,if_false]<;>omega
theorem CZ (its:List Value)(lo hi:Option Int):slicePick its.toArray lo hi none=((its.drop (HT.sIx its.length 0 lo)).take (HT.sIx its.length its.length hi-HT.sIx its.length 0 lo)).toArray:=by
 obtain ⟨h1,h2,h3⟩:=GK lo hi its.toArray.size
 unfold slicePick
 rw [h1,h2,h3]
 simp only [sliceRange_one,pick_run,List.size_toArray]<;>rfl
def aao (K:W.Frag):V->Option Int->Option Int->Hp->VK->Prop:=λx lo hi H Q=>∃a xs,x=.ref a/\SqL K H a xs/\∀p,H p=none->Q (.ref p) (upd H p (.lst (HX xs lo hi)))
theorem Vd:SlR X (aao X.K):=by
 intro pins s σ H x v vl vu lo hi sl Q I rx hs pl pu h
 obtain ⟨a,xs,rfl,hx,q⟩:=h
 cases rx
 obtain ⟨its,r,ht,hz⟩:=I.list hx
 have hlen:=r.length
 refine ⟨"list",_,slot_list_getitem.lookup,ht.isList.typeIs,?_⟩
 refine wpAny_getItem_list_slice ht.isList hs pl pu .none (by simp) ?_ (by rw [List.size_toArray]<;>omega)
 rw [CZ,← hlen]
 refine ⟨.ref s.heap.objs.size,_,I.laid (t':=s.toks) (o:=.lst (HX xs lo hi)) (λb ob q=>Heap.get?_push_of_some _ q) (Nat.le_refl _) ?_,rfl,q _ (I.hok.fresh (Nat.le_refl _))⟩
 exact ⟨Nat.le_trans (yU xs lo hi) hz,_,0,(r.drop (HT.sIx xs.length 0 lo)).take (HT.sIx xs.length xs.length hi-HT.sIx xs.length 0 lo),Heap.get?_push_size _ rfl⟩
theorem wZ:qj X (.builtin "len") (λxs H Q=>∃p ys,xs=[.ref p]/\(SqL X.K H p ys\/SqT X.K H p ys)/\Q (.int ys.length) H):=by
 intro pins s σ H xs us Q I r h
 obtain ⟨p,ys,rfl,hq,q⟩:=h
 obtain ⟨u,rfl,rx⟩:=vals1 r
 cases rx
 have hn:=yO
 rcases hq with hq | hq
 ·obtain ⟨its,r',pl,hz⟩:=I.list hq
  have hlen:=r'.length
  exact Calls.call_len_list pl.isList (by simp only [List.size_toArray]<;>omega) ⟨.int ys.length,H,I.tok _,⟨s.toks+1,by rw [List.size_toArray,hlen]⟩,q⟩
 ·obtain ⟨its,r',pl,hz⟩:=I.tuple hq
  have hlen:=r'.length
  exact len_tuple pl (by simp only [List.size_toArray]<;>omega) ⟨.int ys.length,H,I.tok _,⟨s.toks+1,by rw [List.size_toArray,hlen]⟩,q⟩
theorem GQ:qj X (.builtin "len") (λxs H Q=>∃z,xs=[.str z]/\z.length<=sizeLine/\Q (.int z.length) H):=by
 intro pins s σ H xs us Q I r h
 obtain ⟨z,rfl,hz,q⟩:=h
 obtain ⟨u,rfl,t,rfl⟩:=vals1 r
 have hn:=yO
 exact len_str (by omega) ⟨.int z.length,H,I.tok _,⟨_,rfl⟩,q⟩
theorem Gy:qj X (.type "list") (λxs H Q=>∃p ys,xs=[.ref p]/\(SqL X.K H p ys\/SqT X.K H p ys)/\∀l,H l=none->Q (.ref l) (upd H l (.lst ys))):=by
 intro pins s σ H xs us Q I r h
 obtain ⟨p,ys,rfl,hq,q⟩:=h
 obtain ⟨u,rfl,rx⟩:=vals1 r
 cases rx
 have fin:∀(its:List Value),Vals ys its->ys.length<=sizeLine->∀(h':Heap) (c':Nat),(∀b o',s.heap.get? b=some o'->h'.get? b=some o')->
   h'.get? s.heap.objs.size=some { cls:=.type "list",dict:=none,data:=.seq its.toArray c',slots:=#[] }->EP X pins σ Q (.ref s.heap.objs.size) { s with heap:=h' }:=λits r' hz h' c' kp e=>
  ⟨.ref s.heap.objs.size,_,I.laid (t':=s.toks) kp (Nat.le_refl _) (show ie X.prog X.w _ h' _ (.lst ys) from ⟨hz,its,c',r',e⟩),rfl,q _ (I.hok.fresh (Nat.le_refl _))⟩
 rcases hq with hq | hq
 ·obtain ⟨its,r',pl,hz⟩:=I.list hq
  have hlen:=r'.length
  obtain ⟨o,ho,hc,n,hd⟩:=pl.isList
  exact call_list_seq p (.inl rfl) ho hc hd (λh' c' kp e=>fin its r' hz h' c' kp e) (by simp only [List.size_toArray]<;>omega)
 ·obtain ⟨its,r',pl,hz⟩:=I.tuple hq
  have hlen:=r'.length
  obtain ⟨o,ho,hc,n,hd⟩:=pl
  exact call_list_seq p (.inr rfl) ho hc hd (λh' c' kp e=>fin its r' hz h' c' kp e) (by simp only [List.size_toArray]<;>omega)
def tyV (K:W.Frag)(T:String)(x:V)(H:Hp):Prop:=match x with
 | .str _=>T = "str"
 | .int _=>T = "int"
 | .ref p=>(T = "list"/\∃xs,SqL K H p xs)\/(T = "tuple"/\∃o,K.lookup p=some o/\o.cls=.type "tuple"/\o.dict=none) ∨
   (T = "dict"/\((∃kvs,H p=some (.dK kvs))\/∃T kvs,Rd H p (.dT T kvs)))\/(T = "set"/\∃S n,H p=some (.set S n))
 |_=>False
theorem RJ {pins:List (Addr×Obj)}{σ:St}{H:Hp}{s:Shared}{T:String}{x:V}{v:Value}(I:Inv X pins σ H s)(r:RelV x v)(ty:tyV X.K T x H):
  s.TypeIs v T/\∀a,v=.ref a->∃ob,s.heap.get? a=some ob/\ob.dict=none:=by
 cases x with
 |str z=>
  obtain ⟨t,rfl⟩:=r
  cases (show T = "str" from ty)
  exact ⟨typeIs_str s z t,λ_ e=>nomatch e⟩
 |int i=>
  obtain ⟨t,rfl⟩:=r
  cases (show T = "int" from ty)
  exact ⟨typeIs_int s i t,λ_ e=>nomatch e⟩
 |ref p=>
  cases r
  rcases ty with ⟨rfl,xs,hq⟩ | ⟨rfl,o,hk,hc,hd⟩ | ⟨rfl,hk⟩ | ⟨rfl,S,n,hk⟩
  ·obtain ⟨its,_,pl,_⟩:=I.list hq
   refine ⟨pl.isList.typeIs,λa e=>?_⟩
   cases e
   obtain ⟨o,n,e,c,hd,_⟩:=pl
   exact ⟨o,e,hd⟩
  ·refine ⟨⟨o,I.kIn p o hk,hc⟩,λa e=>?_⟩
   cases e
   exact ⟨o,I.kIn _ o hk,hd⟩
  ·have z:∃o,s.heap.get? p=some o/\o.ExactDict:=by
    rcases hk with ⟨kvs,hk⟩ | ⟨_,kvs,hk⟩
    ·obtain ⟨_,_,_,_,o,_,_,e,ex,_⟩:=I.hok p _ hk
     exact ⟨o,e,ex⟩
    ·obtain ⟨_,_,_,_,o,_,_,e,ex,_⟩:=(show ie X.prog X.w H s.heap p (.dT _ kvs) from hk.ok I.hok)
     exact ⟨o,e,ex⟩
   obtain ⟨o,e,ex⟩:=z
   refine ⟨⟨o,e,ex.1⟩,λa e2=>?_⟩
   cases e2
   exact ⟨o,e,ex.2.1⟩
  ·obtain ⟨o,_,_,_,e,ex,_⟩:=I.hok p _ hk
   refine ⟨⟨o,e,ex.1⟩,λa e2=>?_⟩
   cases e2
   exact ⟨o,e,ex.2.1⟩
 |_=>exact False.elim ty
def aaB (K:W.Frag)(T:String)(r:V->List V->Hp->VK->Prop)(to:TE):TE:=λσ H Q=>to σ H λx H1=>tyV K T x H1/\r x [] H1 Q
def tBM (K:W.Frag)(T:String)(r:V->List V->Hp->VK->Prop)(to:TE)(t:TA):TE:=λσ H Q=>to σ H λx H1=>tyV K T x H1/\t σ H1 λxs H2=>r x xs H2 Q
variable {o e:Expr}{es:List Expr}{to:TE}{t:TA}{name:Str}{apos cpos:Pos}{T id:String}{r:V->List V->Hp->VK->Prop}
theorem W6 (pa:PlainAttrs T)(slot:Slot T name id)(hty:typeOf (.builtin id)=pure (.type "method_descriptor"))(hm:MtR X id r)(ho:PE X o to)
  (hbase:attributeBase o name X.env (eval o X.env)=eval o X.env:=by rfl) (hline:(apos.endLine == cpos.line)=true:=by rfl):PE X (.Call (.Attribute o name apos) [] [] cpos) (aaB X.K T r to):=by
 intro pins s σ H Q I h
 refine wpAny_Call_method0_late hbase hline (thn (ho pins s σ H _ I h) λv s1 ⟨x,H1,I1,r1,ty,q1⟩=>?_)
 obtain ⟨h1,h2⟩:=RJ I1 r1 ty
 exact ⟨T,id,pa,slot,hty,h1,h2,Calls.callWith_builtin rfl (PySem.evalArgs_none (hm pins s1 σ H1 x [] v [] Q I1 r1 .nil q1))⟩
theorem V4 (pa:PlainAttrs T)(slot:Slot T name id)(hty:typeOf (.builtin id)=pure (.type "method_descriptor"))(hm:MtR X id r)(ho:PE X o to)(ha:PA X (e::es) t)
  (hbase:attributeBase o name X.env (eval o X.env)=eval o X.env:=by rfl)
  (hfew:((backTo cpos (starEach (e::es) X.env)).all (λx=>!x.1) && (backToKw cpos (keywordEach [] X.env)).all (λx=>x.1.isSome)
   && decide ((e::es).length+([]:List Keyword).length+(if ([]:List Keyword).isEmpty then 0 else 1)<30))=true:=by rfl)
  (hline:(apos.endLine == cpos.line)=true:=by rfl) (hs:starEach (e::es) X.env=(false,eval e X.env)::starEach es X.env:=by rfl) (hplain:(backTo cpos (starEach es X.env)).any (·.1)=false:=by rfl):
  PE X (.Call (.Attribute o name apos) (e::es) [] cpos) (tBM X.K T r to t):=by
 intro pins s σ H Q I h
 refine wpAny_Call_method_late hbase hfew hline rfl (thn (ho pins s σ H _ I h) λv s1 ⟨x,H1,I1,r1,ty,q1⟩=>?_)
 obtain ⟨h1,h2⟩:=RJ I1 r1 ty
 refine ⟨T,id,pa,slot,hty,h1,h2,?_⟩
 have hA:=ha cpos pins s1 σ H1 _ I1 q1
 rw [hs] at hA ⊢
 refine Calls.callWith_builtin (by show (false || (backTo cpos (starEach es X.env)).any (·.1))=false;rw [hplain]<;>rfl) (Calls.evalArgs_plain ?_)
 exact thn hA λus s2 hE=>xq2 hE λvs H2 I2 r2 q2=>hm pins s2 σ H2 x vs v us Q I2 r1 r2 q2
end
def MtM (X:Cx)(id:String)(r:V->List V->Hp->VK->Prop):Prop:=
 ∀(pins:List (Addr×Obj)) (s:Shared) (σ:St) (H:Hp) (x:V) (xs:List V) (v:Value) (us:List Value) (Q:VK),Inv X pins σ H s->RelV x v->Vals xs us->r x xs H Q->
  wpAny (model X.prog X.w) X.A (call (.builtin id) (v::us)) (EP X pins σ Q) X.xe s
theorem Vals.one:∀{x:V} {us:List Value},Vals [x] us->∃u,us=[u]/\RelV x u
 |_,_,.cons r .nil=>⟨_,rfl,r⟩
theorem Vals.zero:∀{us:List Value},Vals [] us->us=[]
 |_,.nil=>rfl
theorem Vals.dropLast {xs:List V}{us:List Value}(h:Vals xs us):Vals xs.dropLast us.dropLast:=by
 induction h with
 |nil=>exact .nil
 |cons r t ih=>
  cases t with
  |nil=>exact .nil
  |cons q t'=>exact .cons r ih
theorem Vals.eraseIdx:∀{xs:List V} {us:List Value} (i:Nat),Vals xs us->Vals (xs.eraseIdx i) (us.eraseIdx i)
 |_,_,_,.nil=>.nil
 |_,_,0,.cons _ t=>t
 |_,_,i+1,.cons r t=>.cons r (Vals.eraseIdx i t)
theorem Vals.reverse {xs:List V}{us:List Value}(h:Vals xs us):Vals xs.reverse us.reverse:=by
 induction h with
 |nil=>exact .nil
 |cons r t ih=>rw [List.reverse_cons,List.reverse_cons];exact Vals.append ih (.cons r .nil)
theorem Vals.rep {xs:List V}{us:List Value}(h:Vals xs us):∀k:Nat,Vals (List.replicate k xs).flatten (List.replicate k us).flatten
 |0=>.nil
 |k+1=>by
  rw [List.replicate_succ,List.replicate_succ,List.flatten_cons,List.flatten_cons]
  exact Vals.append h (Vals.rep h k)
theorem JV {α:Type}(l:List α):l.eraseIdx (l.length - 1)=l.dropLast:=by
 induction l with
 |nil=>rfl
 |cons a r ih=>
  cases r with
  |nil=>rfl
  |cons b r=>
   have e:(a::b::r).length - 1=((b::r).length - 1)+1:=by
    have h1:(a::b::r).length=r.length+2:=rfl
    have h2:(b::r).length=r.length+1:=rfl
    omega
   rw [e,List.eraseIdx_cons_succ,ih]
   all_goals rfl
theorem foldl_rep (its:List Value):∀(k:Nat) (acc:List Value),
  List.foldl (λx1 x2=>x1++x2) acc.toArray (List.replicate k its.toArray)=(acc++(List.replicate k its).flatten).toArray
 |0,acc=>by simp
 |k+1,acc=>by
  have e:acc.toArray++its.toArray=(acc++its).toArray:=by simp
  have e2:(acc++its)++(List.replicate k its).flatten=acc++(List.replicate (k+1) its).flatten:=by
   rw [List.replicate_succ,List.flatten_cons,List.append_assoc]
  rw [← e2,← foldl_rep its k (acc++its),← e,List.replicate_succ,List.foldl_cons]
section
variable {X:Cx}{pins:List (Addr×Obj)}{σ:St}{H:Hp}{s:Shared}{l b:Addr}{xs ys zs:List V}
theorem Inv.Ys {its its':List Value}{n:Nat}{f:Array Value->Array Value}{t':Nat}(I:Inv X pins σ H s)(hH:H l=some (.lst xs))
  (e:s.heap.get? l=some { cls:=.type "list",data:=.seq its.toArray n }) (hf:f its.toArray=its'.toArray) (hv:Vals ys its') (hz:ys.length<=sizeLine):
  Inv X pins σ (upd H l (.lst ys)) { s with heap:=s.heap.update l (Obj.mapSeq f),toks:=t' }:=by
 have q:=PySem.IsL.update e f
 rw [hf] at q
 refine I.write (x:=l) (e:=l) (by rw [hH];exact trivial) (.inl rfl) (λb' u hb hu=>(Heap.get?_update_other s.heap (Obj.mapSeq f) (Ne.symm hb)).trans hu) ⟨_,q⟩ ?_
 exact ⟨hz,its',_,hv,q⟩
theorem Inv.Wn (I:Inv X pins σ H s)(hH:H l=some (.lst xs)):xs.length<=sizeLine/\∃(its:List Value) (n:Nat),Vals xs its/\xs.length=its.length/\s.heap.get? l=some { cls:=.type "list",data:=.seq its.toArray n }:=by
 obtain ⟨z,its,n,r,e⟩:=I.hok l _ hH
 exact ⟨z,its,n,r,r.length,e⟩
theorem RP {n:Nat}(h:n<=sizeLine):Builtin.List.listTooLong n=false:=by
 unfold Builtin.List.listTooLong
 exact decide_eq_false (by omega)
end
section
variable {X:Cx}
def U9:V->List V->Hp->VK->Prop:=λx vs H Q=>∃l xs y,x=.ref l/\vs=[y]/\H l=some (.lst xs)/\xs.length<sizeLine/\Q .non (upd H l (.lst (xs++[y])))
theorem yG:MtM X "list.append" U9:=by
 intro pins s σ H x vs v us Q I rx rv h
 obtain ⟨l,xs,y,rfl,rfl,hH,hz,q⟩:=h
 cases rx
 obtain ⟨u,rfl,ru⟩:=rv.one
 obtain ⟨z,its,n,r,hl,e⟩:=I.Wn hH
 refine call_meets F.slot_list_append ⟨_,e,rfl⟩ F.entry_list_append (F.args_list_append_2 _ _) (PySem.list_append l its.toArray n u (by rw [List.size_toArray];omega)) ⟨e,?_⟩
 refine ⟨.non,_,I.Ys (its':=its++[u]) hH e (by simp) (r.append (.cons ru .nil)) ?_,rfl,q⟩
 rw [List.length_append,List.length_singleton]
 omega
def aax:V->List V->Hp->VK->Prop:=λx vs H Q=>∃l xs y,x=.ref l/\vs=[]/\H l=some (.lst xs)/\xs[xs.length - 1]? = some y/\Q y (upd H l (.lst xs.dropLast))
theorem aaO:MtM X "list.pop" aax:=by
 intro pins s σ H x vs v us Q I rx rv h
 obtain ⟨l,xs,y,rfl,rfl,hH,hy,q⟩:=h
 cases rx
 have hus:=rv.zero
 subst hus
 obtain ⟨z,its,n,r,hl,e⟩:=I.Wn hH
 obtain ⟨u,hu,ru⟩:=r.get hy
 have hy':its.toArray[its.toArray.size - 1]? = some u:=by
  show its.toArray[its.length - 1]? = some u
  rw [← Array.getElem?_toList,← hl]
  exact hu
 refine call_meets F.slot_list_pop ⟨_,e,rfl⟩ F.entry_list_pop (F.args_list_pop_1 _) (MeetsSeq.list_pop_last l its.toArray n u hy' (by rw [List.size_toArray];omega)) ⟨e,?_⟩
 refine ⟨y,_,I.Ys (its':=its.dropLast) hH e ?_ r.dropLast ?_,ru,q⟩
 ·show its.toArray.eraseIdxIfInBounds (its.toArray.size - 1)=its.dropLast.toArray
  rw [List.size_toArray,List.eraseIdxIfInBounds_toArray,JV]
 ·rw [List.length_dropLast]
  omega
def Rz:V->List V->Hp->VK->Prop:=λx vs H Q=>∃l xs,x=.ref l/\vs=[]/\H l=some (.lst xs)/\Q .non (upd H l (.lst xs.reverse))
theorem Jh:MtM X "list.reverse" Rz:=by
 intro pins s σ H x vs v us Q I rx rv h
 obtain ⟨l,xs,rfl,rfl,hH,q⟩:=h
 cases rx
 have hus:=rv.zero
 subst hus
 obtain ⟨z,its,n,r,hl,e⟩:=I.Wn hH
 refine call_meets F.slot_list_reverse ⟨_,e,rfl⟩ F.entry_list_reverse (F.args_list_reverse_1 _) (AutoSeq1.list_reverse_list_0 l its.toArray n (by rw [List.size_toArray];omega)) ⟨e,?_⟩
 refine ⟨.non,_,I.Ys (its':=its.reverse) hH e (by simp) r.reverse ?_,rfl,q⟩
 rw [List.length_reverse]
 omega
theorem len_rep {α:Type}(xs:List α)(k:Nat):(List.replicate k xs).flatten.length=k*xs.length:=by
 induction k with
 |zero=>simp
 |succ k ih=>rw [List.replicate_succ,List.flatten_cons,List.length_append,ih,Nat.succ_mul,Nat.add_comm]
end
section
variable {prog:Program}{w:World}{A:Around}{E:Value->Shared->Prop}{s:Shared}
end
section
variable {X:Cx}
end
end L2
namespace Att
open PySem PySem.W PySem.Calls PyProof.Rows
theorem zp {P:Params}{h:Heap}:∀(ns:List Int) (vs:List Value),WellAll P h vs (ns.map WData.int)->IntsAre vs ns:=by
 intro ns
 induction ns with
 |nil=>
  intro vs w
  rw [List.map_nil] at w
  cases w
  exact .nil
 |cons n ns ih=>
  intro vs w
  rw [List.map_cons] at w
  cases w with
  |cons a b=>
   cases a
   exact .cons _ _ (ih _ b)
theorem Nk {l:OpenLaw}{n:Nat}(hn:l.most=some n){P:Params}{h:Heap}{args:List WData}{vals:List Value}
  (hpre:l.row.toRowW.claim.pre args=true) (hwl:WellAll P h vals args):
  ∃a vs ns,vals=[Value.ref a]/\args=[WData.list (ns.map WData.int)]/\h.get? a=some { cls:=.type "list",data:=.seq vs.toArray }/\IntsAre vs ns/\ns.length<=n:=by
 have hsh:WShape.hasAll [] args [.list .int]=true:=(pre_splitW hpre).1
 have hc:l.pre.holds [] { args:=args }=true:=(pre_splitW hpre).2
 obtain ⟨d,r,rfl,h1,h2⟩:=hasAllW_cons hsh
 obtain rfl:=hasAllW_nil h2
 obtain ⟨xs,rfl,h3⟩:=hasW_list h1
 obtain ⟨ns,rfl⟩:=items_int h3
 have hlen:ns.length<=n:=by
  unfold OpenLaw.pre at hc
  have h4:(WTm.not (.lt (.lit (.int (n:Int))) (.len (.arg 0)))).holds [] { args:=[.list (ns.map .int)] }=true:=by
   have h4:=(holds_andW hc).1
   rw [hn] at h4
   exact h4
  have h5:=condW_of h4 (w_not (w_lt w_lit (w_len_list (w_arg rfl))))
  rw [List.length_map] at h5
  refine Nat.le_of_not_lt λq=>?_
  have q':(n:Int)<((ns.length:Nat):Int):=by omega
  first
   |(rw [decide_eq_true q'] at h5;exact absurd h5 (by decide))
   |(simp at h5;omega)
 cases hwl with
 |cons w1 w2=>
  cases w2
  cases w1 with
  |list ho hall=>exact ⟨_,_,ns,rfl,rfl,ho,zp ns _ hall,hlen⟩
theorem Nm (l:OpenLaw)(args:List WData):l.row.toRowW.claim.post args (.bool true) args=true:=
 postW_of (r:=l.row.toRowW) (X:=(true == true))
  (show WShape.has [] (.bool true) .bool=true by first | rfl | decide | simp [WShape.has,WShape.arms,WShape.armsAll])
  (show (WTm.eq .res (.lit (.bool true))).value [] { args:=args,res:=some (.bool true),after:=args }=some (.bool (true == true)) from w_eq_bool (w_res rfl) w_lit) rfl
theorem Hv {l:OpenLaw}{n:Nat}{q:Program}{loose:List Str}{XP:(Str->Option Value)->Heap->Prop}{YP:World->Heap->Prop}{d:DefRec}
  (hn:l.most=some n) (hdf:d.params.defaults=[])
  (call:∀(w:World) (s₀ s₁:Shared) (mg mb:Str->Option Value) (fa:Addr) (o:Obj) (pm cd doc:Value) (a:Addr) (vs:List Value) (ns:List Int),
   Ground q loose [] XP w s₀ mg mb s₁.heap->YP w s₁.heap->
   s₁.heap.get? fa=some o->o.data=.func (docDef d.name d.params d.body d.scope pm cd doc)->s₁.heap.CodeRec cd d.name->mg d.name=some (.ref fa)->
   s₁.heap.get? a=some { cls:=.type "list",data:=.seq vs.toArray }->IntsAre vs ns->ns.length<=n->s₁.gens=#[]->
   codeAny (model l.prog w) callerA (.call (.ref fa) ⟨[.ref a],[]⟩) (λr s'=>r=.ok (.ret (.bool true))/\OldK s₁.heap s'.heap/\s'.os=s₁.os/\AllBare s'.gens) s₁):
  WalkO q loose XP YP l.row.toRowW d [] (λf vs=>PySem.call f vs):=by
 intro w s₀ s₁ mg mb G Y fa o pm cd doc dV kV ho hd hcd hD hmg hg args vals as hpre hlay hrd hwl hlo
 obtain rfl:dV=.none:=Dflts.none hD hdf
 obtain rfl:kV=.none:=Dflts.noKw hD
 obtain ⟨a,vs,ns,rfl,rfl,hobj,hints,hlen⟩:=Nk hn hpre hwl
 refine enter_call (codeAny_mono (call w s₀ s₁ mg mb fa o pm cd doc a vs ns G Y ho (fd_plain hd) hcd hmg hobj hints hlen hg) λr s' hq=>?_)
 obtain ⟨rfl,h2,h3,h4⟩:=hq
 exact ⟨.inl ⟨.bool true,.bool true,[],rfl,λ_=>rfl,.bool true,Nm l _,λ_=>⟨List.Pairwise.nil,λ_ hm=>(nomatch hm)⟩⟩,h2,h3,h4⟩
section
variable {prog:Program}{w:World}{A:Around}{E:Value->Shared->Prop}{s:Shared}{K:Frag}
end
end Att
namespace L2
open PySem PySem.Spec PyProof.Rows
theorem DG:∀{vs:List Value} {ns:List Int},IntsAre vs ns->Vals (ns.map V.int) vs
 |_,_,.nil=>.nil
 |_,_,.cons n t h=>.cons ⟨t,rfl⟩ (DG h)
def Only (H:Hp):Prop:=∀b,H b=none\/∃o xs,H b=some (.frz o (.lst xs))
theorem QV {P:Program}{w:World}{K:W.Frag}{mg mb:Str->Option Value}{CX:CXT}{k:Nat}{fa a:Addr}{fd:FuncData}{x:Str}{sp:Sp}{s₁:Shared}{vs:List Value}{ns:List Int}
  (KX:K.In s₁.heap) (hns:s₁.heap.Ns mainGlobals mg) (hb:s₁.heap.Ns builtinsNs mb) (hbb:∀x:Str,x≠"__name__"->mb x=bootBuiltins x) (hlim:s₁.heap.NoLimit) (hg:s₁.gens=#[])
  (ha:s₁.heap.get? a=some { cls:=.type "list",data:=.seq vs.toArray }) (hi:IntsAre vs ns) (hl:ns.length<=sizeLine) (hr:gw k callerA)
  (F:∀base:Heap,K.In base->base.Ns mainGlobals mg->dm P w K mg base CX k fa fd [x] sp) (hbind:∀(s:Shared) (u:Value),BindsTo s fd ⟨[u],[]⟩ [(x,u)])
  (hsp:∀H:Hp,Only H->SqL K H a (ns.map V.int)->sp [.ref a] H (λv _=>v=.bl true) λ_ _ _=>False)
  (hCX:∀H e s',CX [] H s₁ (λ_ _ _=>False) e s'->False):
  codeAny (model P w) callerA (.call (.ref fa) ⟨[.ref a],[]⟩) (λr s'=>r=.ok (.ret (.bool true))/\OldK s₁.heap s'.heap/\s'.os=s₁.os/\AllBare s'.gens) s₁:=by
 have rv:=DG hi
 have lenV:=hi.length
 have core:∀H:Hp,Only H->SqL K H a (ns.map V.int)->HOk P w H s₁.heap->(∀b,H b≠none->b=a)->(H a≠none->K.lookup a=none)->
   codeAny (model P w) callerA (.call (.ref fa) ⟨[.ref a],[]⟩) (λr s'=>r=.ok (.ret (.bool true))/\OldK s₁.heap s'.heap/\s'.os=s₁.os/\AllBare s'.gens) s₁:=by
  intro H hO hS hok hA hK
  have base_of:∀{b:Addr} {o:Obj},s₁.heap.get? b=some o->H b=none->(Gu s₁.heap H).get? b=some o:=λe n=>P0 e n
  have noA:∀{b:Addr} {o:Obj} {es:Array DictEntry} {ep:Nat},s₁.heap.get? b=some o->o.data=.dict es ep->H b=none:=λ{b o es ep} e d=>by
   cases q:H b with
   |none=>rfl
   |some u=>
    have e':b=a:=hA b (by rw [q];simp)
    subst e'
    rw [ha] at e;cases e
    have d':Data.seq vs.toArray _=Data.dict es ep:=d
    cases d'
  have nsK:∀{b:Addr} {m:Str->Option Value},s₁.heap.Ns b m->(Gu s₁.heap H).Ns b m:=λ{b m} ⟨o,es,ep,e,d,r⟩=>⟨o,es,ep,base_of e (noA e d),d,r⟩
  have hKb:K.In (Gu s₁.heap H):=λb o e=>base_of (KX b o e) (by
   cases q:H b with
   |none=>rfl
   |some u=>
    have e':b=a:=hA b (by rw [q];simp)
    subst e'
    rw [hK (by rw [q];simp)] at e;cases e)
  have hM:Mod K mg (Gu s₁.heap H):=⟨hKb,nsK hns,⟨mb,nsK hb,hbb⟩,let ⟨mc,h1,h2⟩:=hlim;⟨mc,nsK h1,h2⟩⟩
  have e0:CP P w K mg (Gu s₁.heap H) callerA [] s₁ H:=⟨rfl,hM,λb o e=>Vl e,Nat.le_of_eq (Oc _ _),trivial,λb hb=>absurd (show b∈([]:List Addr) from hb) (by simp),hok,.of_eq hg⟩
  refine codeAny_mono ((F _ hKb (nsK hns)).run callerA [] s₁ H ⟨[.ref a],[]⟩ [.ref a] [.ref a] _ _ hr e0 (hbind s₁ (.ref a)) (.cons rfl .nil) (hsp H hO hS)) λr s' h=>?_
  cases r with
  |error e=>exact (hCX H e s' h).elim
  |ok fl=>
   cases fl with
   |next=>exact False.elim h
   |brk=>exact False.elim h
   |cont=>exact False.elim h
   |ret u=>
    obtain ⟨v,H',os,bare,un,hok',r',q⟩:=h
    have q':v=.bl true:=q
    subst q'
    obtain rfl:u=Value.bool true:=r'
    refine ⟨rfl,OldK.of_keep λb o e=>?_,os,bare⟩
    cases q:H b with
    |none=>exact un.keep b o e q (by intro z;exact absurd (show b∈([]:List Addr) from z) (by simp)) (by simp)
    |some u=>
     rcases hO b with z | ⟨ob,xs,z⟩
     ·rw [q] at z;cases z
     ·have z2:=un.frzs b ob _ z
      obtain ⟨e1,_⟩:=hok b _ z
      obtain ⟨e2,_⟩:=hok' b _ z2
      rw [e] at e1;cases e1
      exact e2
 cases hk:K.lookup a with
 |some o=>
  have e:=KX a o hk
  rw [ha] at e
  cases e
  refine core (λ_=>none) (λ_=>.inl rfl) (.inr ⟨_,vs.toArray,_,hk,rfl,rfl,rfl,by rw [List.size_toArray,lenV];exact hl,by simpa using rv⟩) (λb u z=>by have z':(none:Option HO)=some u:=z;cases z') (λb z=>absurd rfl z) λz=>absurd rfl z
 |none=>
  refine core (λb=>if b=a then some (.frz { cls:=.type "list",data:=.seq vs.toArray } (.lst (ns.map V.int))) else none) (λb=>?_) (.inl (.inr ⟨{ cls:=.type "list",data:=.seq vs.toArray },if_pos rfl⟩)) (λb u z=>?_) (λb z=>?_) λ_=>hk
  ·by_cases hb:b=a
   ·exact .inr ⟨_,_,if_pos hb⟩
   ·exact .inl (if_neg hb)
  ·by_cases hb:b=a
   ·have z':=(if_pos hb).symm.trans z
    cases z'
    subst hb
    exact ⟨ha,by rw [List.length_map];exact hl,vs,_,rv,ha⟩
   ·have z':=(if_neg hb).symm.trans z
    cases z'
  ·by_cases hb:b=a
   ·exact hb
   ·exact absurd (if_neg hb) z
theorem Tw {l:W.OpenLaw}{n k:Nat}{q:Program}{loose:List Str}{XP:(Str->Option Value)->Heap->Prop}{YP:World->Heap->Prop}{d:DefRec}{K:Params->W.Frag}{CX:World->CXT}{sp:World->Sp}{x:Str}
  (hn:l.most=some n) (hn2:n<=sizeLine) (hdf:d.params.defaults=[]) (hr:gw k callerA)
  (hY:∀(w:World) (h:Heap),YP w h->(K w.params).In h)
  (F:∀(w:World) (mg:Str->Option Value) (fa:Addr) (h:Heap),(K w.params).In h->h.Ns mainGlobals mg->mg d.name=some (.ref fa)->
   ∃fd:FuncData,(∀(s:Shared) (u:Value),BindsTo s fd ⟨[u],[]⟩ [(x,u)])/\
    ∀base:Heap,(K w.params).In base->base.Ns mainGlobals mg->dm l.prog w (K w.params) mg base (CX w) k fa fd [x] (sp w))
  (hsp:∀(w:World) (H:Hp) (a:Addr) (ns:List Int),ns.length<=n->Only H->SqL (K w.params) H a (ns.map V.int)->sp w [.ref a] H (λv _=>v=.bl true) λ_ _ _=>False)
  (hCX:∀(w:World) (H:Hp) (s:Shared) (e:Value) (s':Shared),CX w [] H s (λ_ _ _=>False) e s'->False):
  W.WalkO q loose XP YP l.row.toRowW d [] (λf vs=>PySem.call f vs):=by
 refine Att.Hv hn hdf λw s₀ s₁ mg mb fa o pm cd doc a vs ns G Y ho hd hcd hmg hobj hints hlen hg=>?_
 have KX:=hY w _ Y
 obtain ⟨fd,hb,hF⟩:=F w mg fa _ KX G.T.g hmg
 exact QV KX G.T.g G.T.b G.T.builtins G.T.nolimit hg hobj hints (Nat.le_trans hlen hn2) hr hF hb (λH hO hS=>hsp w H a ns hlen hO hS) λH e s'=>hCX w H s₁ e s'
def nH (s:Stmt):Arguments:=match s with
 | .FunctionDef _ a _ _ _ _ _ _ _ _=>a
 |_=>{ posonlyargs:=[],args:=[],vararg:=none,kwonlyargs:=[],kw_defaults:=[],kwarg:=none,defaults:=[] }
def jc (s:Stmt):List Stmt:=match s with
 | .FunctionDef _ _ b _ _ _ _ _ _ _=>b
 |_=>[]
def aG (s:Stmt):Scope:=match s with
 | .FunctionDef _ _ _ _ _ _ sc _ _ _=>sc
 |_=>{ kind:=.function,names:=[],isGenerator:=false,isCoroutine:=false }
abbrev E0:XK:=λ_ _ _=>False
structure Fun (K:W.Frag)(x qual:Str)(st:Stmt)(f:Addr)(fd:FuncData):Prop where
 ex:∃(oc:Value) (od:Option Addr) (kV doc pm:Value) (an:Option Addr) (cdv ct:Value) (osl:Array (Option Value)),
  fd=W.fnOf x qual (nH st) (jc st) (aG st) .none kV doc pm an cdv ct/\K.lookup f=some ⟨oc,od,.func fd,osl⟩/\W.codeIn K cdv qual=true
 kp:W.keepIn K (.ref f)=true
section
variable {P:Program}{w:World}{K:W.Frag}{mg:Str->Option Value}{base:Heap}
theorem Fun.binds {x qual:Str}{st:Stmt}{f:Addr}{fd:FuncData}{ps:List Str}(F:Fun K x qual st f fd)
  (h:∀(kV doc pm:Value) (an:Option Addr) (cdv ct:Value) (us:List Value),us.length=ps.length->bindArgs (W.fnOf x qual (nH st) (jc st) (aG st) .none kV doc pm an cdv ct) ⟨us,[]⟩=pure (ps.zip us)):Binds K fd ps []:=by
 obtain ⟨oc,od,kV,doc,pm,an,cdv,ct,osl,rfl,lk,hcd⟩:=F.ex
 exact .all (h kV doc pm an cdv ct)
theorem O3 {x qual:Str}{st:Stmt}{f:Addr}{oc:Value}{od an:Option Addr}{osl:Array (Option Value)}{kV doc pm cdv ct:Value}(l:K.lookup f=some ⟨oc,od,.func (W.fnOf x qual (nH st) (jc st) (aG st) .none kV doc pm an cdv ct),osl⟩)
  (c:W.codeIn K cdv qual=true) (k:W.keepIn K (.ref f)=true):Fun K x qual st f (W.fnOf x qual (nH st) (jc st) (aG st) .none kV doc pm an cdv ct):=⟨⟨oc,od,kV,doc,pm,an,cdv,ct,osl,rfl,l,c⟩,k⟩
end
section
variable {X:Cx}
theorem pv (i:Nat){x:Str}{pos:Pos}(hN:X.N[i]? = some x:=by rfl)(hv:Vis X.env.scope x:=by first | exact Or.inl rfl | exact Or.inr (Or.inl rfl) | exact Or.inr (Or.inr rfl))(hd:(x == ("__debug__" : Str))=false:=by decide)
  (hcd:(x == ("__classdict__" : Str))=false:=by decide):PE X (.Name x pos) (YL i):=jP hN hv hd hcd
end
def aL (H H':Hp):Prop:=∀b o,H b=some o->H' b=some o
theorem aL.refl (H:Hp):aL H H:=λ_ _ h=>h
theorem aL.trans {H H1 H2:Hp}(a:aL H H1)(b:aL H1 H2):aL H H2:=λc o h=>b c o (a c o h)
theorem aL.free {H H':Hp}(e:aL H H'){l:Addr}(h:H' l=Option.none):H l=Option.none:=by
 cases q:H l with
 |none=>rfl
 |some o=>
  rw [e l o q] at h
  cases h
theorem aL.seq {K:W.Frag}{H H':Hp}{a:Addr}{xs:List V}(e:aL H H')(h:SqL K H a xs):SqL K H' a xs:=by
 rcases h with (h | ⟨o,h⟩) | h
 ·exact .inl (.inl (e _ _ h))
 ·exact .inl (.inr ⟨o,e _ _ h⟩)
 ·exact .inr h
end L2
set_option maxHeartbeats 4000000
namespace Hd
open PySem PySem.Spec PyProof.Rows L2
abbrev St:=L2.St
theorem J6 {n k:Nat}(h:n<2 ^ k)(hk:0<k):n.log2<k:=by
 by_cases z:n=0
 ·rw [z]
  exact hk
 ·exact (Nat.log2_lt z).mpr h
@[irreducible] def lmM:Nat:=2 ^ 60000
@[irreducible] def lmD:Nat:=2 ^ 8900
theorem Ru:lmM=2 ^ 60000:=by unfold lmM;rfl
theorem JL:lmD=2 ^ 8900:=by unfold lmD;rfl
theorem bits_le {i:Int}(h:i.natAbs<lmM):Builtin.Int.intBits i<=60000:=by
 unfold Builtin.Int.intBits
 split
 ·exact Nat.zero_le _
 ·rw [Ru] at h;exact J6 (k:=60000) h (by decide)
def Z4 (_ j:Int):Prop:=j≠0/\j.natAbs<lmD
def RD (i j:Int):Prop:=i.natAbs<lmM/\j.natAbs<lmM
theorem RD.ok {i j:Int}(h:RD i j):IntMulOk i j:=by
 have h1:=bits_le h.1
 have h2:=bits_le h.2
 have hb:bitsLine=134217728:=rfl
 have z:Builtin.Int.intTooBig (Builtin.Int.intBits i+Builtin.Int.intBits j)=false:=by
  unfold Builtin.Int.intTooBig
  refine decide_eq_false ?_
  omega
 unfold IntMulOk
 rw [z]
 simp
section
variable {X:Cx}
theorem R0:OpR X (binaryOp .FloorDiv) (rI Z4 λi j=>.int (i.fdiv j)):=
 opI λ_ _ _ _ _ _ _ hc q=>floordiv_int hc.1 q (.inl (PyProof.noPylong_of_log2 (Nat.lt_of_lt_of_le (J6 (k:=8900) (JL ▸ hc.2) (by decide)) (by decide))))
theorem Ul:OpR X (binaryOp .Mult) (rI RD λi j=>.int (i*j)):=opI λ_ _ _ _ _ _ _ hc q=>mul_int q hc.ok
theorem Yo:OpR X (compareOp .Is) (λx y H Q=>∃i j,x=.bl i/\y=.bl j/\Q (.bl (decide (i=j))) H):=by
 intro pins s σ H x y v u Q I rx ry h
 obtain ⟨i,j,rfl,rfl,q⟩:=h
 cases rx
 cases ry
 cases i<;>cases j<;>exact wpAny_pure (cT I q rfl)
theorem O1:OpR X (compareOp .IsNot) (λx y H Q=>∃i j,x=.bl i/\y=.bl j/\Q (.bl (!decide (i=j))) H):=by
 intro pins s σ H x y v u Q I rx ry h
 obtain ⟨i,j,rfl,rfl,q⟩:=h
 cases rx
 cases ry
 cases i<;>cases j<;>exact wpAny_pure (cT I q rfl)
end
mutual
inductive DV (K:W.Frag)(H:Hp):V->PyData->Prop where
 |non:DV K H .non .none
 |bl (b:Bool):DV K H (.bl b) (.bool b)
 |int (i:Int):DV K H (.int i) (.int i)
 |str (x:Str):DV K H (.str x) (.str x)
 |tup {a:Addr} {xs:List V} {ds:List PyData}:SqT K H a xs->DVs K H xs ds->DV K H (.ref a) (.tuple ds)
 |lst {a:Addr} {xs:List V} {ds:List PyData}:SqL K H a xs->DVs K H xs ds->DV K H (.ref a) (.list ds)
inductive DVs (K:W.Frag)(H:Hp):List V->List PyData->Prop where
 |nil:DVs K H [] []
 |cons {v:V} {vs:List V} {d:PyData} {ds:List PyData}:DV K H v d->DVs K H vs ds->DVs K H (v::vs) (d::ds)
end
section
variable {X:Cx}{pins:List (Addr×Obj)}{σ:St}{H:Hp}{s:Shared}
mutual
theorem DV.reads (I:Inv X pins σ H s):∀{v:V} {d:PyData} {u:Value},DV X.K H v d->RelV v u->∃as,Reads s.heap u d as
 |_,_,u,.non,r=>by cases (show u=Value.none from r);exact ⟨_,.none⟩
 |_,_,u,.bl b,r=>by cases (show u=Value.bool b from r);exact ⟨_,.bool b⟩
 |_,_,u,.int i,r=>by obtain ⟨t,e⟩:=(show ∃t,u=Value.int i t from r);subst e;exact ⟨_,.int i t⟩
 |_,_,u,.str x,r=>by obtain ⟨t,e⟩:=(show ∃t,u=Value.str x t from r);subst e;exact ⟨_,.str x t⟩
 |_,_,u,.tup (a:=a) h hs,r=>by
  cases (show u=Value.ref a from r)
  obtain ⟨its,rv,⟨o,ho,hc,n,hd⟩,_⟩:=I.tuple h
  obtain ⟨as,ra⟩:=DVs.reads I hs rv
  exact ⟨as,.tuple ho hc hd (by simpa using ra)⟩
 |_,_,u,.lst (a:=a) h hs,r=>by
  cases (show u=Value.ref a from r)
  obtain ⟨its,rv,⟨o,n,ho,hc,_,hd⟩,_⟩:=I.list h
  obtain ⟨as,ra⟩:=DVs.reads I hs rv
  exact ⟨a::as,.list ho hc hd (by simpa using ra)⟩
theorem DVs.reads (I:Inv X pins σ H s):∀{vs:List V} {ds:List PyData} {us:List Value},DVs X.K H vs ds->Vals vs us->∃as,ReadsAll s.heap us ds as
 |_,_,_,.nil,.nil=>⟨[],.nil⟩
 |_,_,_,.cons h hs,.cons r rs=>by
  obtain ⟨as,ra⟩:=DV.reads I h r
  obtain ⟨bs,rb⟩:=DVs.reads I hs rs
  exact ⟨as++bs,.cons ra rb⟩
end
end
section
variable {X:Cx}
def aaL (K:W.Frag):R2:=λx y H Q=>∃d e,DV K H x d/\DV K H y e/\SeqAt.shaped d=true/\SeqAt.shaped e=true/\Q (.bl (PyData.eqv d e)) H
def aaM (K:W.Frag):R2:=λx y H Q=>∃d e,DV K H x d/\DV K H y e/\SeqAt.shaped d=true/\SeqAt.shaped e=true/\Q (.bl (!PyData.eqv d e)) H
theorem W4 (hu:X.A.units+64<cLine):OpR X (compareOp .Eq) (aaL X.K):=by
 intro pins s σ H x y v u Q I rx ry h
 obtain ⟨d,e,hd,he,sd,se,q⟩:=h
 obtain ⟨as,ra⟩:=hd.reads I rx
 obtain ⟨bs,rb⟩:=he.reads I ry
 exact eq_dataH ra rb sd se hu (cT I q rfl)
theorem Yk (hu:X.A.units+64<cLine):OpR X (compareOp .NotEq) (aaM X.K):=by
 intro pins s σ H x y v u Q I rx ry h
 obtain ⟨d,e,hd,he,sd,se,q⟩:=h
 obtain ⟨as,ra⟩:=hd.reads I rx
 obtain ⟨bs,rb⟩:=he.reads I ry
 exact ne_dataH ra rb sd se hu (cT I q rfl)
end
section
variable {X:Cx}
def YQ:V->Option Value
 | .ty n=>some (.type n)
 | .ref a=>some (.ref a)
 |_=>none
theorem QC {c:V}{cv u:Value}(e:YQ c=some cv)(r:RelV c u):u=cv:=by
 cases c with
 |ty n=>cases e;exact r
 |ref a=>cases e;exact r
 |_=>cases e
end
section
variable {X:Cx}{t u:TS}{pos:Pos}
end
theorem ie.at' {P:Program}{w:World}{H:Hp}{h:Heap}{a:Addr}{o:HO}(x:ie P w H h a o):∃u,h.get? a=some u:=by
 cases o with
 |lst xs=>obtain ⟨_,_,_,_,e⟩:=x;exact ⟨_,e⟩
 |tup xs=>obtain ⟨_,_,_,o,e,_⟩:=x;exact ⟨_,e⟩
 |dK kvs=>obtain ⟨_,_,_,_,o,_,_,e,_⟩:=x;exact ⟨_,e⟩
 |dT kvs=>obtain ⟨_,_,_,_,o,_,_,e,_⟩:=x;exact ⟨_,e⟩
 |set S n=>obtain ⟨o,_,_,_,e,_⟩:=x;exact ⟨_,e⟩
 |ins C dx fs=>obtain ⟨_,_,_,e,_⟩:=x;exact ⟨_,e⟩
 |own y=>exact x
 |xd fs=>obtain ⟨_,⟨_,_,_,e,_⟩,_⟩:=x;exact ⟨_,e⟩
 |rng lo hi=>obtain ⟨_,_,_,e⟩:=x;exact ⟨_,e⟩
 |frz ob u=>obtain ⟨e,_⟩:=x;exact ⟨_,e⟩
 |tbl ps=>exact ⟨_,(show h.get? a=some _ from x)⟩
 |met f y=>exact ⟨_,(show h.get? a=some _ from x)⟩
 |ext φ=>obtain ⟨_,e,_⟩:=x;exact e
structure Fly (P:Program)(w:World)(outer:List Env)(H:Hp)(s:Shared)(e:Value)(s':Shared)(ea t:Addr)(cls:Value)(B:Heap)(H':Hp):Prop where
 is:e=.ref ea
 os:s'.os=s.os
 bare:AllBare s'.gens
 fly:Heap.FlyingW B outer ea cls (.ref t) s'.heap
 keep:∀b o,s.heap.get? b=some o->H b=none->b∉frs outer->B.get? b=some o
 slot:∀b o,s.heap.get? b=some o->b∈frs outer->∃sl,s'.heap.get? b=some { o with slots:=sl }
 free:∀b o,s.heap.get? b=some o->H b=none->H' b=none
 there:∀b o,s.heap.get? b=some o->b∉frs outer->∃o',B.get? b=some o'
 tups:∀b xs,H b=some (.tup xs)->H' b=some (.tup xs)
 frzs:∀b o u,H b=some (.frz o u)->H' b=some (.frz o u)
 tbls:∀b ps,H b=some (.tbl ps)->∃more,H' b=some (.tbl (ps++more))
 hok:HOk P w H' B
 new:s.heap.get? ea=none
 nin:H' ea=none
def CX1 (P:Program)(w:World):CXT:=λouter H s E e s'=>∃ea t cls B H',Fly P w outer H s e s' ea t cls B H'/\E cls none H'
theorem Q9 {env:Env}{l:List Env}{L b:Addr}(hf:env.frame=some L)(h:b∈frs (env::l)):b=L\/b∈frs l:=by
 unfold frs at h
 rw [List.filterMap_cons,hf] at h
 rcases List.mem_cons.mp h with z | z
 ·exact .inl z
 ·exact .inr z
theorem Sg {env:Env}{l:List Env}{b:Addr}(h:b∈frs l):b∈frs (env::l):=by
 unfold frs at h ⊢
 obtain ⟨e,he,hf⟩:=List.mem_filterMap.mp h
 exact List.mem_filterMap.mpr ⟨e,List.mem_cons_of_mem _ he,hf⟩
section
variable {P:Program}{w:World}{K:W.Frag}{mg:Str->Option Value}{base:Heap}{N:List Str}{qual:Str}{scope:Scope}{f:Addr}{cd:Value}{A:Around}{outer:List Env}{s:Shared}{H:Hp}{E:XK}
theorem aP:Passes (CX1 P w) (zx (CX1 P w) P w K mg base N qual scope f cd A outer s H E) E:=by
 intro pins σ H1 s1 e s' I h
 obtain ⟨ea,t,cls,B,H',F,hw⟩:=h
 obtain rfl:=F.is
 have nfr:∀b o,s.heap.get? b=some o->b∉frs outer->b∉frs (zx (CX1 P w) P w K mg base N qual scope f cd A outer s H E).stack:=λb o q nb hb=>by
  rcases Q9 (L:=s.heap.objs.size) rfl hb with z | z
  ·exact absurd (Heap.lt_size q) (by rw [z];exact Nat.lt_irrefl _)
  ·exact nb z
 have nx:∀b:Addr,b∉(zx (CX1 P w) P w K mg base N qual scope f cd A outer s H E).ex:=λb z=>absurd (show b∈([]:List Addr) from z) (by simp)
 refine wpAny_leaves_onW (base:=B) (outer:=outer) (L:=s.heap.objs.size) I.ok.frames rfl F.fly λh2 x1 x2=>?_
 refine ⟨ea,t,cls,B,H',⟨rfl,F.os.trans I.os,F.bare,x1,λb o q n nb=>?_,λb o q hb=>?_,λb o q n=>?_,λb o q nb=>?_,λb xs q=>F.tups b xs (I.base.tups b xs q),λb o u q=>F.frzs b o u (I.base.frzs b o u q),λb ps q=>?_,F.hok,?_,F.nin⟩,hw⟩
 ·exact F.keep b o (I.base.keep b o q n nb (nx b)) (I.base.free b o q n (nx b)) (nfr b o q nb)
 ·obtain ⟨sl,e1⟩:=I.base.slot b o q (I.ok.frf b hb) hb (nx b)
  obtain ⟨_,o',ho',hnf⟩:=I.ok.wX.mem hb
  have eo:o=o':=Option.some.inj (q.symm.trans ho')
  obtain ⟨sl1,e2⟩:=F.slot b _ e1 (Sg hb)
  obtain ⟨sl2,e3⟩:=x2 b _ e2 (λv z=>hnf v (by rw [← eo];exact z))
  exact ⟨sl2,e3⟩
 ·obtain ⟨o',e1⟩:=I.base.there b o q (nx b)
  exact F.free b o' e1 (I.base.free b o q n (nx b))
 ·obtain ⟨o',e1⟩:=I.base.there b o q (nx b)
  exact F.there b o' e1 (nfr b o q nb)
 ·obtain ⟨m1,e1⟩:=I.base.tbls b ps q
  obtain ⟨m2,e2⟩:=F.tbls b _ e1
  exact ⟨m1++m2,by rw [e2,Array.append_assoc]⟩
 ·cases q:s.heap.get? ea with
  |none=>rfl
  |some o=>
   obtain ⟨o',e1⟩:=I.base.there ea o q (nx ea)
   rw [F.new] at e1;cases e1
end
theorem nQ {P:Program}{w:World}{X:Cx}:Passes (CX1 P w) X E0:=λ_ _ _ _ _ _ _ ⟨_,_,_,_,_,_,z⟩=>z.elim
def Z8 (ea:Addr)(cls:Value)(h:Heap):Prop:=∃o,h.get? ea=some o/\o.cls=cls/\∃vs,o.data=.fields vs
section
variable {X:Cx}{pins:List (Addr×Obj)}{σ:St}{H H':Hp}{s s':Shared}{e:Value}{ea t:Addr}{cls:Value}{B:Heap}
theorem Fly.inv (F:Fly X.prog X.w X.stack H s e s' ea t cls B H')(I:Inv X pins σ H s){h2:Heap}{tk:Nat}(k1:B.StaysIn h2)(k2:s'.heap.UpToSlots h2):Inv X pins σ H' { s' with heap:=h2,toks:=tk }:=by
 have nf:∀b∈frs X.stack,∀o,s.heap.get? b=some o->∀vs,o.data≠.fields vs:=λb hb o q=>by
  obtain ⟨_,o',ho',hnf⟩:=I.stack.mem hb
  have eo:o=o':=Option.some.inj (q.symm.trans ho')
  rw [eo];exact hnf
 refine I.call' (s':={ s' with heap:=h2,toks:=tk }) (ch:=[]) F.os ⟨λb o q n hb _=>k1 b o (F.keep b o q n hb),λb o q n hb _=>?_,λb o q n _=>F.free b o q n,λb o q _=>?_,F.tups,F.frzs,F.tbls⟩ (F.hok.kept k1) F.bare (λb z=>nomatch z)
 ·obtain ⟨sl,e1⟩:=F.slot b o q hb
  obtain ⟨sl2,e2⟩:=k2 b _ e1 (nf b hb o q)
  exact ⟨sl2,e2⟩
 ·by_cases hb:b∈frs X.stack
  ·obtain ⟨sl,e1⟩:=F.slot b o q hb
   obtain ⟨sl2,e2⟩:=k2 b _ e1 (nf b hb o q)
   exact ⟨_,e2⟩
  ·obtain ⟨o',e1⟩:=F.there b o q hb
   exact ⟨o',k1 b o' e1⟩
end
section
variable {X:Cx}{pins:List (Addr×Obj)}{σ:St}{H H':Hp}{s s':Shared}{e:Value}{ea t:Addr}{cls:Value}{B:Heap}
end
section
variable {X:Cx}{k:Nat}{f:Addr}{fd:FuncData}{ps:List Str}{sp:Sp}{x:Str}{p pos pos':Pos}{e:Expr}{es:List Expr}{t:TA}
end
section
variable {X:Cx}{x:Str}{e₀:Expr}{np cpos pos:Pos}{te:TE}{C:Addr}{bmB:List Value}{B newId initId:String}
end
structure Fn (P:Program)(w:World)(K:W.Frag)(mg:Str->Option Value)(base:Heap)(k:Nat)(x:Str)(ps:List Str)(sp:Sp):Prop where
 ex:∃f fd,dm P w K mg base (CX1 P w) k f fd ps sp/\Binds K fd ps []/\W.keepIn K (.ref f)=true/\mg x=some (.ref f)
section
variable {X:Cx}{j k:Nat}{x:Str}{ps:List Str}{sp:Sp}{p pos:Pos}{e:Expr}{es:List Expr}{t:TA}
end
section
variable {P:Program}{w:World}{K:W.Frag}{mg:Str->Option Value}{base:Heap}
theorem Es {x qual:Str}{st:Stmt}{f:Addr}{fd:FuncData}{N ps:List Str}{k:Nat}{sp:Sp}(F:Fun K x qual st f fd)(S:bI N ps (aG st))(len:∀vs H Q E,sp vs H Q E->vs.length=ps.length)
  (hbody:∀(cdv:Value) (A:Around) (outer:List Env) (s:Shared) (H:Hp) (vs:List V) (Q:VK) (E:XK),gw k (A.deeper (envOfC qual (aG st) s.heap.objs.size f cdv))->sp vs H Q E->
   ∃t,PSs (zx (CX1 P w) P w K mg base N qual (aG st) f cdv A outer s H E) (jc st) t/\t { nx:=λ_ H'=>Q .non H',rt:=Q } (start N vs) H):dm P w K mg base (CX1 P w) (k+1) f fd ps sp:=by
 obtain ⟨oc,od,kV,doc,pm,an,cdv,ct,osl,rfl,lk,hcd⟩:=F.ex
 refine YW lk hcd S len λA outer s H vs Q E hr hsp=>?_
 obtain ⟨t,h,q⟩:=hbody cdv A outer s H vs Q E hr hsp
 exact ⟨t,h,q⟩
end
structure Df (K:W.Frag)(mg:Str->Option Value)(x:Str)(st:Stmt)(ps:List Str):Prop where
 ex:∃f fd,Fun K x x st f fd/\Binds K fd ps []/\mg x=some (.ref f)
theorem Df.fn {P:Program}{w:World}{K:W.Frag}{mg:Str->Option Value}{base:Heap}{x:Str}{st:Stmt}{ps:List Str}{k:Nat}{sp:Sp}(D:Df K mg x st ps)
  (h:∀f fd,Fun K x x st f fd->dm P w K mg base (CX1 P w) k f fd ps sp):Fn P w K mg base k x ps sp:=by
 obtain ⟨f,fd,F,b,m⟩:=D.ex
 exact ⟨f,fd,h f fd F,b,F.kp,m⟩
section
variable {prog:Program}{w:World}{A:Around}{E:Value->Shared->Prop}{h:Heap}{g:Array GenState}{d:Drawn}{t:Nat}{os:OsState}{a C:Addr}{o:Obj}{K:W.Frag}
end
section
variable {X:Cx}
end
end Hd
namespace L2
open PySem PySem.Spec PyProof.Rows
section
variable {κ:Type}[DecidableEq κ]
def S6 (kvs:List (κ×V))(k:κ):Option V:=(kvs.find? λkv=>decide (kv.1=k)).map (·.2)
def putK (kvs:List (κ×V))(k:κ)(v:V):List (κ×V):=
 if (kvs.any λkv=>decide (kv.1=k))=true then kvs.map (λkv=>if kv.1=k then (kv.1,v) else kv) else kvs++[(k,v)]
theorem zz.getD {o:Option V}{u:Option Value}{d:V}{d':Value}(r:zz o u)(rd:RelV d d'):RelV (o.getD d) (u.getD d'):=by
 cases o with
 |none=>cases u with
  |none=>exact rd
  |some _=>exact (show False from r).elim
 |some _=>cases u with
  |none=>exact (show False from r).elim
  |some _=>exact r
theorem KV.length {kvs:List (κ×V)}{vs:List (κ×Value)}(r:KV kvs vs):kvs.length=vs.length:=Paired.length r
end
abbrev KT (T:Addr->List V->Prop)(H:Hp):List (List Kt×V)->List (List Kt×Addr×Value)->Prop:=Paired λp q=>p.1=q.1/\TrT T H q.2.1 p.1/\RelV p.2 q.2.2
theorem KT.keeps {T:Addr->List V->Prop}{H H':Hp}{kvs:List (List Kt×V)}{xs:List (List Kt×Addr×Value)}(r:KT T H kvs xs)(ht:∀b ys,H b=some (.tup ys)->H' b=some (.tup ys)):KT T H' kvs xs:=
 Paired.XR r λ_ _ z=>⟨z.1,z.2.1.imp ht,z.2.2⟩
section
variable {P:Program}{w:World}{H:Hp}{h:Heap}{a:Addr}
theorem ZP {u:HO}(ok:HOk P w H h)(e:Rd H a u):ie P w H h a u:=e.ok ok
theorem Zi {kvs:List (Key×V)}(ok:HOk P w H h)(e:Rd H a (.dK kvs)):kvs.length<=sizeLine/\(a == sysModules)=false/\∃vs,KV kvs vs/\h.DictOf (xO P w) a vs:=
 show ie P w H h a (.dK kvs) from ZP ok e
end
def Uw (K:W.Frag)(H:Hp)(a:Addr)(y:V)(r:Option V):Prop:=
 (∃kvs k,Rd H a (.dK kvs)/\y=kV k/\r=S6 kvs k)\/∃kvs k b,Rd H a (.dT (KTp K) kvs)/\y=.ref b/\TrT (KTp K) H b k/\r=S6 kvs k
def Vm (K:W.Frag)(H:Hp)(a:Addr)(y v:V)(H':Hp):Prop:=
 (∃kvs k,H a=some (.dK kvs)/\y=kV k/\kvs.length<sizeLine/\H'=upd H a (.dK (putK kvs k v))) ∨
 ∃kvs k b,H a=some (.dT (KTp K) kvs)/\y=.ref b/\TrT (KTp K) H b k/\kvs.length<sizeLine/\H'=upd H a (.dT (KTp K) (putK kvs k v))
theorem Uw.k {K:W.Frag}{H:Hp}{a:Addr}{kvs:List (Key×V)}{k:Key}(e:H a=some (.dK kvs)):Uw K H a (kV k) (S6 kvs k):=.inl ⟨kvs,k,.inl e,rfl,rfl⟩
theorem Uw.t {K:W.Frag}{H:Hp}{a b:Addr}{kvs:List (List Kt×V)}{k:List Kt}(e:H a=some (.dT (KTp K) kvs))(eb:TrT (KTp K) H b k):Uw K H a (.ref b) (S6 kvs k):=.inr ⟨kvs,k,b,.inl e,rfl,eb,rfl⟩
theorem Vm.k {K:W.Frag}{H:Hp}{a:Addr}{kvs:List (Key×V)}{k:Key}{v:V}(e:H a=some (.dK kvs))(hl:kvs.length<sizeLine):Vm K H a (kV k) v (upd H a (.dK (putK kvs k v))):=.inl ⟨kvs,k,e,rfl,hl,rfl⟩
theorem Vm.t {K:W.Frag}{H:Hp}{a b:Addr}{kvs:List (List Kt×V)}{k:List Kt}{v:V}(e:H a=some (.dT (KTp K) kvs))(eb:TrT (KTp K) H b k)(hl:kvs.length<sizeLine):
  Vm K H a (.ref b) v (upd H a (.dT (KTp K) (putK kvs k v))):=.inr ⟨kvs,k,b,e,rfl,eb,hl,rfl⟩
section
variable {X:Cx}{pins:List (Addr×Obj)}{σ:St}{H:Hp}{s:Shared}{a:Addr}{y v:V}{u r:Value}{o:Option V}{A:Around}{E:Value->Shared->Prop}
end
section
variable {X:Cx}{pins:List (Addr×Obj)}{σ:St}{H:Hp}{s:Shared}{a:Addr}{kvs:List (Key×V)}{k:Key}{u:Value}{A:Around}{E:Value->Shared->Prop}
theorem ZS {Q:Value->Shared->Prop}(I:Inv X pins σ H s)(e:Rd H a (.dK kvs))(h:∀t s',Inv X pins σ H s'->Q (.int kvs.length t) s'):wpAny (model X.prog X.w) A (call (.builtin "len") [.ref a]) Q E s:=by
 obtain ⟨z,hd,vs,rel,dd⟩:=Zi I.hok e
 refine call_len_dict hd dd (by rw [← rel.length];rw [sizeLine_eq] at z;omega) ?_
 rw [← rel.length]
 exact h _ _ (I.tok _)
end
section
variable {X:Cx}{o i e value:Expr}{pos pos' tpos:Pos}{td ty tv:TE}
end
section
variable {X:Cx}{pos:Pos}
end
section
variable {X:Cx}{pins:List (Addr×Obj)}{σ:St}{H:Hp}{s:Shared}{a:Addr}{y d:V}{u r:Value}{o:Option V}{A:Around}{E:Value->Shared->Prop}
end
section
variable {X:Cx}{o e f:Expr}{apos cpos:Pos}{td ty tx:TE}
end
section
variable {X:Cx}{pins:List (Addr×Obj)}{σ:St}{H:Hp}{s:Shared}{a:Addr}{kvs:List (Key×V)}{A:Around}{E:Value->Shared->Prop}
end
section
variable {X:Cx}{pins:List (Addr×Obj)}{σ:St}{H:Hp}{s:Shared}{a:Addr}{y:V}{u:Value}{A:Around}{E:Value->Shared->Prop}
end
section
variable {X:Cx}
theorem Nx:qj X (.builtin "len") (λxs H Q=>∃a kvs,xs=[V.ref a]/\H a=some (.dK kvs)/\Q (.int kvs.length) H):=by
 intro pins s σ H xs us Q I r h
 obtain ⟨a,kvs,rfl,ha,q⟩:=h
 obtain ⟨u,rfl,ru⟩:=vals1 r
 cases ru
 exact ZS I (.inl ha) λt s' I'=>⟨.int kvs.length,H,I',⟨t,rfl⟩,q⟩
end
section
variable {κ:Type}[DecidableEq κ]
end
end L2
namespace Hd
open PySem PySem.Spec PyProof.Rows L2
theorem dG {H:Hp}{p:Addr}(h:H p=none)(o:HO):aL H (upd H p o):=λb u q=>by
 rw [bj (mG q h)]
 exact q
section
variable {X:Cx}{e:Expr}{es:List Expr}{pos:Pos}
theorem cF {T T':TE}(h:PE X e T)(k:∀σ H Q,T' σ H Q->T σ H Q):PE X e T':=λpins s σ H Q I q=>h pins s σ H Q I (k σ H Q q)
def clA (t:TA):TA:=λσ H Q=>∃R,t σ H R/\∀xs H1,R xs H1->Q xs H1
theorem VP {t:TA}(h:PA X es t):PA X es (clA t):=λpos pins s σ H Q I ⟨R,hR,k⟩=>thn (h pos pins s σ H R I hR) λ_ _ hE=>xq2 hE λvs H1 I1 r q=>⟨vs,H1,I1,r,k _ _ q⟩
def Y0 (t:TA):TE:=λσ H Q=>t σ H λxs H1=>xs.length<=sizeLine/\∀p H',aL H1 H'->H' p=some (.tup xs)->Q (.ref p) H'
theorem K7 {x1}{t:TA}(h:PA X es t):PE X (.Tuple es x1 pos) (Y0 t):=
 cF (XQ (VP h)) λ_ _ _ q=>⟨_,q,λ_ _ ⟨z,k⟩=>⟨z,λp hp=>k p _ (dG hp _) bY⟩⟩
end
abbrev dJ (X:Cx)(N':List Str)(scope:Scope)(cl:List (Str×Addr))(C:Addr)(sE:Shared)(HE:Hp)(fp:List Addr)(pins:List (Addr×Obj)):Cx:=
 { X with N:=N',s₀:=sE,H₀:=HE,env:=compEnvC scope cl C X.env,outer:=X.stack,ex:=fp,fn:=λ_=>false,pn:=X.pn++pins,xe:=λ_ _=>False }
structure CSc (sc scope:Scope)(caps:List Str):Prop where
 kind:scope.kind=.function
 nocell:∀y∈scope.names,y.2≠.cell
 loc:∀y∈scope.names,y.2=.local->scope.names.lookup y.1=some .local
 free:∀y∈scope.names,y.2=.free->sc.names.lookup y.1=some .cell\/sc.names.lookup y.1=some .free
 caps:∀x∈caps,scope.names.lookup x=some .free/\(sc.names.lookup x=some .cell\/sc.names.lookup x=some .free)
theorem mem_of_lookup {β:Type}:∀{l:List (Str×β)} {x:Str} {k:β},l.lookup x=some k->(x,k)∈l
 |[],_,_,h=>by simp at h
 |(n,k')::r,x,k,h=>by
  rw [List.lookup_cons] at h
  split at h
  ·rename_i e
   have e':x=n:=by simpa using e
   cases h
   rw [e']
   exact List.mem_cons_self
  ·exact List.mem_cons_of_mem _ (mem_of_lookup h)
theorem yg {env:Env}:∀{names:List (Str×NameKind)} {x:Str},names.lookup x=some .free->
  (names.map λ(n,k)=>if (k == NameKind.free && env.scope.kind == .function && env.kindOf n == some .cell) then (n,NameKind.cell) else (n,k)).lookup x=some .cell ∨
  (names.map λ(n,k)=>if (k == NameKind.free && env.scope.kind == .function && env.kindOf n == some .cell) then (n,NameKind.cell) else (n,k)).lookup x=some .free
 |[],_,h=>by simp at h
 |(n,k)::r,x,h=>by
  have ih:=@yg env r x
  show List.lookup x ((if (k == NameKind.free && env.scope.kind == .function && env.kindOf n == some .cell)=true then (n,NameKind.cell) else (n,k))::_)=_\/List.lookup x ((if (k == NameKind.free && env.scope.kind == .function && env.kindOf n == some .cell)=true then (n,NameKind.cell) else (n,k))::_)=_
  cases hx:x == n with
  |true=>
   simp only [List.lookup_cons,hx] at h
   cases h
   by_cases hc:(NameKind.free == NameKind.free && env.scope.kind == .function && env.kindOf n == some .cell)=true
   ·rw [if_pos hc];simp only [List.lookup_cons,hx];exact .inl trivial
   ·rw [if_neg hc];simp only [List.lookup_cons,hx];exact .inr trivial
  |false=>
   simp only [List.lookup_cons,hx] at h
   by_cases hc:(k == NameKind.free && env.scope.kind == .function && env.kindOf n == some .cell)=true
   ·rw [if_pos hc];simp only [List.lookup_cons,hx];exact ih h
   ·rw [if_neg hc];simp only [List.lookup_cons,hx];exact ih h
theorem Cd {env:Env}:∀{names:List (Str×NameKind)} {x:Str},(∀y∈names,y.2≠.cell)->
  ((names.map λ(n,k)=>if (k == NameKind.free && env.scope.kind == .function && env.kindOf n == some .cell) then (n,NameKind.cell) else (n,k)).lookup x=some .cell ∨
  (names.map λ(n,k)=>if (k == NameKind.free && env.scope.kind == .function && env.kindOf n == some .cell) then (n,NameKind.cell) else (n,k)).lookup x=some .free)->names.lookup x=some .free
 |[],_,_,h=>by simp at h
 |(n,k)::r,x,hn,h=>by
  have ih:=@Cd env r x (λy hy=>hn y (List.mem_cons_of_mem _ hy))
  have h':List.lookup x ((if (k == NameKind.free && env.scope.kind == .function && env.kindOf n == some .cell)=true then (n,NameKind.cell) else (n,k))::_)=some .cell\/List.lookup x ((if (k == NameKind.free && env.scope.kind == .function && env.kindOf n == some .cell)=true then (n,NameKind.cell) else (n,k))::_)=some .free:=h
  have hk:k≠.cell:=hn (n,k) List.mem_cons_self
  by_cases hc:(k == NameKind.free && env.scope.kind == .function && env.kindOf n == some .cell)=true
  ·rw [if_pos hc] at h'
   have kf:k=.free:=by
    simp only [Bool.and_eq_true,beq_iff_eq] at hc
    exact hc.1.1
   subst kf
   cases hx:x == n with
   |true=>simp only [List.lookup_cons,hx]
   |false=>
    simp only [List.lookup_cons,hx] at h' ⊢
    exact ih h'
  ·rw [if_neg hc] at h'
   cases hx:x == n with
   |true=>
    simp only [List.lookup_cons,hx] at h' ⊢
    rcases h' with z | z
    ·exact absurd (Option.some.inj z) hk
    ·exact z
   |false=>
    simp only [List.lookup_cons,hx] at h' ⊢
    exact ih h'
theorem wH {env:Env}:∀(names:List (Str×NameKind)) (acc:List (Str×Addr)),(∀y∈names,y.2=.free->∃c,env.cells.lookup y.1=some c)->
  ∃cl,(forIn names acc λ(y:Str×NameKind) (cs:List (Str×Addr))=>(if y.2 == .free then do let c ← cellOf env y.1;pure (ForInStep.yield ((y.1,c)::cs)) else pure (ForInStep.yield cs):Sem (ForInStep (List (Str×Addr)))))=pure cl/\
   (∀x c,cl.lookup x=some c->acc.lookup x=some c\/env.cells.lookup x=some c)/\(∀x c,acc.lookup x=some c->∃c',cl.lookup x=some c')/\∀y∈names,y.2=.free->∃c,cl.lookup y.1=some c
 |[],acc,_=>⟨acc,rfl,λ_ _ e=>.inl e,λ_ c e=>⟨c,e⟩,λ_ z=>nomatch z⟩
 |(n,k)::r,acc,h=>by
  have hr:∀y∈r,y.2=.free->∃c,env.cells.lookup y.1=some c:=λy hy=>h y (List.mem_cons_of_mem _ hy)
  by_cases hk:(k == NameKind.free)=true
  ·obtain ⟨c,hc⟩:=h (n,k) List.mem_cons_self (by simpa using hk)
   obtain ⟨cl,e,h1,h2,h3⟩:=wH r ((n,c)::acc) hr
   refine ⟨cl,?_,λx d q=>?_,λx d q=>?_,λy hy q=>?_⟩
   ·have ec:cellOf env n=pure c:=by unfold cellOf;rw [show env.cells.lookup n=some c from hc]
    rw [List.forIn_cons]
    simp only [hk,if_true,ec,pure_bind]
    exact e
   ·rcases h1 x d q with z | z
    ·rw [List.lookup_cons] at z
     split at z
     ·rename_i e1
      have e1':x=n:=by simpa using e1
      cases z
      rw [e1']
      exact .inr hc
     ·exact .inl z
    ·exact .inr z
   ·by_cases e1:(x == n)=true
    ·exact h2 x c (by rw [List.lookup_cons,e1])
    ·exact h2 x d (by rw [List.lookup_cons];simp only [Bool.not_eq_true] at e1;rw [e1];exact q)
   ·rcases List.mem_cons.mp hy with z | z
    ·subst z
     exact h2 n c (by rw [List.lookup_cons];simp)
    ·exact h3 y z q
  ·obtain ⟨cl,e,h1,h2,h3⟩:=wH r acc hr
   refine ⟨cl,?_,h1,h2,λy hy q=>?_⟩
   ·rw [List.forIn_cons]
    simp only [hk,if_false,pure_bind,Bool.false_eq_true]
    exact e
   ·rcases List.mem_cons.mp hy with z | z
    ·subst z
     exact absurd (show (k == NameKind.free)=true by simpa using q) hk
    ·exact h3 y z q
theorem yV {scope:Scope}{env:Env}(h:∀y∈scope.names,y.2=.free->∃c,env.cells.lookup y.1=some c):
  ∃cl,closureFor scope env=pure cl/\(∀x c,cl.lookup x=some c->env.cells.lookup x=some c)/\∀y∈scope.names,y.2=.free->∃c,cl.lookup y.1=some c:=by
 obtain ⟨cl,e,h1,_,h3⟩:=wH scope.names [] h
 refine ⟨cl,?_,λx c q=>(h1 x c q).elim (λz=>by simp at z) id,h3⟩
 unfold closureFor
 simp only [bind_pure]
 refine Eq.trans ?_ e
 rfl
section
variable {X:Cx}{pins:List (Addr×Obj)}{σ:St}{HE:Hp}{sE:Shared}{N':List Str}{scope sc:Scope}{cl:List (Str×Addr)}{fp:List Addr}{caps:List Str}
theorem T7 (I:Inv X pins σ HE sE)(S:CSc sc scope caps)(hfp:∀b∈fp,wJ X pins HE b/\b<sE.heap.objs.size)
  (hc1:∀x c,cl.lookup x=some c->X.env.cells.lookup x=some c) (hc2:∀y∈scope.names,y.2=.free->∃c,cl.lookup y.1=some c):
  (dJ X N' scope cl sE.heap.objs.size sE HE fp pins).Ok where
 mod:=I.ok.mod
 kind:=S.kind
 glob:=I.ok.glob
 blt:=I.ok.blt
 above:=Nat.le_refl _
 inj:=λx y c h1 h2=>I.ok.inj x y c (hc1 x c h1) (hc1 y c h2)
 has:=λx h=>hc2 (x,.free) (mem_of_lookup (Cd S.nocell h)) rfl
 cab:=λx c h=>nomatch h
 hd:=I.ok.hd
 frames:=I.ok.frames
 stk:=.inl rfl
 exf:=λb hb=>⟨Nat.ne_of_lt (hfp b hb).2,λx c h=>(hfp b hb).1.2.2.2.2.1 x c (hc1 x c h)⟩
 bs:=I.bs
 bsz:=Nat.le_trans I.ok.bsz I.sz
 noex:=λb o e hb=>by
  rcases (hfp b hb).1.2.2.2.1 with z | z
  ·exact I.ok.noex b o e z
  ·exact absurd (Nat.lt_of_lt_of_le (Heap.lt_size e) (Nat.le_trans I.ok.bsz z)) (Nat.lt_irrefl _)
 exfs:=λb hb hz=>by
  rcases List.mem_cons.mp (I.Fi b hz) with z | z
  ·exact (hfp b hb).1.2.1 z
  ·exact (hfp b hb).1.2.2.1 z
 wX:=I.stack
 frf:=I.KJ
theorem Q0 {k:Nat}{cap:List Nat}{h':Heap}(I:Inv X pins σ HE sE)(S:CSc sc scope caps)(hsc:X.env.scope=sc)(hfp:∀b∈fp,wJ X pins HE b/\b<sE.heap.objs.size)
  (hc1:∀x c,cl.lookup x=some c->X.env.cells.lookup x=some c) (hc2:∀y∈scope.names,y.2=.free->∃c,cl.lookup y.1=some c)
  (hN:N'.drop k=caps) (hk:k<=N'.length) (hcap:Paired (λj x=>X.N[j]? = some x) cap caps) {m:Str->Option Value}
  (kp:∀b o,sE.heap.get? b=some o->h'.get? b=some o) (hns:h'.Ns sE.heap.objs.size m) (tk:Nat):
  Inv (dJ X N' scope cl sE.heap.objs.size sE HE fp pins) [] (List.replicate k none++cap.map λj=>(σ[j]?).join) HE { sE with heap:=h',toks:=tk } where
 ok:=T7 I S hfp hc1 hc2
 os:=rfl
 bare:=I.bare
 base:=Un.kept kp
 loc:=by
  refine ⟨m,hns,λi x v e1 e2 e3=>?_⟩
  have hik:k<=i:=by
   by_cases z:k<=i
   ·exact z
   ·rw [List.getElem?_append_left (by simp;omega),List.getElem?_replicate] at e2
    rw [if_pos (by omega)] at e2
    cases e2
  obtain ⟨j',rfl⟩:∃j',i=k+j':=⟨i-k,by omega⟩
  rw [List.getElem?_append_right (by simp),List.length_replicate,Nat.add_sub_cancel_left,List.getElem?_map] at e2
  have hx:caps[j']? = some x:=by rw [← hN,List.getElem?_drop];exact e1
  have:∀{l:List Nat} {l':List Str} {i:Nat},Paired (λj x=>X.N[j]? = some x) l l'->l'[i]? = some x->∃j,l[i]? = some j/\X.N[j]? = some x:=by
   intro l l' i p
   induction p generalizing i with
   |nil=>intro z;simp at z
   |cons a _ ih=>
    intro z
    cases i with
    |zero=>simp at z;subst z;exact ⟨_,rfl,a⟩
    |succ i=>exact ih (by simpa using z)
  obtain ⟨j,hj,hNj⟩:=this hcap hx
  rw [hj] at e2
  have e2':σ[j]? = some (some v):=by
   cases q:σ[j]? with
   |none=>rw [Option.map_some,q] at e2;cases e2
   |some o=>
    rw [Option.map_some,q] at e2
    have:o=some v:=Option.some.inj e2
    rw [this]
  obtain ⟨hxf,hxo⟩:=S.caps x (List.mem_of_getElem? hx)
  rw [← hsc] at hxo
  obtain ⟨m0,_,hl⟩:=I.loc
  obtain ⟨u,r,L⟩:=hl j x v hNj e2' (hxo.elim (λz=>.inr (.inl z)) λz=>.inr (.inr z))
  refine ⟨u,r,.inr ⟨yg hxf,?_⟩⟩
  rcases L with ⟨z,_⟩ | ⟨_,c,hc,hcell⟩
  ·have z':X.env.scope.names.lookup x=some .local:=z
   rcases hxo with q | q<;>rw [z'] at q<;>cases q
  ·obtain ⟨c',hc'⟩:=hc2 (x,.free) (mem_of_lookup hxf) rfl
   have e:=hc1 x c' hc'
   rw [hc] at e
   cases e
   obtain ⟨o,ho,hd⟩:=hcell
   exact ⟨c,hc',o,kp c o ho,hd⟩
 cell:=λx c e=>by
  obtain ⟨v,o,ho,hd⟩:=I.cell x c (hc1 x c e)
  exact ⟨v,o,kp c o ho,hd⟩
 free:=I.hok.fresh (Nat.le_refl _)
 freeC:=λx c e=>I.freeC x c (hc1 x c e)
 pin:=λp hp=>by
  rw [List.append_nil] at hp
  obtain ⟨e,n,ne,nf,d⟩:=I.pin p hp
  refine ⟨kp _ _ e,n,Nat.ne_of_lt (Heap.lt_size e),λz=>?_,d⟩
  rcases List.mem_cons.mp (I.Fi p.1 z) with q | q
  ·exact ne q
  ·exact nf q
 hok:=I.hok.kept kp
 len:=by
  show (List.replicate k none++cap.map λj=>(σ[j]?).join).length=N'.length
  have:=hcap.length
  rw [← hN,List.length_drop] at this
  simp
  omega
theorem comp_back {σ':St}{H':Hp}{s':Shared}{p':List (Addr×Obj)}(I:Inv X pins σ HE sE)(hfp:∀b∈fp,wJ X pins HE b/\b<sE.heap.objs.size)
  (I':Inv (dJ X N' scope cl sE.heap.objs.size sE HE fp pins) p' σ' H' s'):Inv X pins σ H' s':=
 I.call' (ch:=fp) I'.os I'.base I'.hok I'.bare λb hb=>⟨(hfp b hb).1.2.2.2.1,(hfp b hb).1.2.1,(hfp b hb).1.2.2.2.2.1,(hfp b hb).1.2.2.2.2.2⟩
end
theorem HB {X:Cx}{pins:List (Addr×Obj)}{σ σ':St}{HE H':Hp}{sE s':Shared}{h':Heap}(I:Inv X pins σ HE sE)(I':Inv X pins σ' H' s')(hn:H' sE.heap.objs.size=none)
  (hs:Heap.SameBut sE.heap.objs.size s'.heap h'):Inv X pins σ' H' { s' with heap:=h' }:=by
 refine I'.turned (t':=s'.toks) (λb o hb e=>(hs.2 b hb).trans e) hn (Nat.ne_of_gt I.lt) (.inr I.sz) (λx c e z=>?_) (λp hp z=>?_)
 ·obtain ⟨v,q⟩:=I.cell x c e
  exact absurd q.lt (by rw [z];exact Nat.lt_irrefl _)
 ·exact absurd (Heap.lt_size (I.pin p hp).1) (by rw [z];exact Nat.lt_irrefl _)
def QG (X:Cx)(ifs:List Expr)(t:TT):Prop:=
 ∀(pins:List (Addr×Obj)) (s:Shared) (σ:St) (H:Hp) (Q:Bool->Hp->Prop),Inv X pins σ H s->t σ H Q->
  wpAny (model X.prog X.w) X.A (forIn ifs true λc r=>if r=true then do let ok ← isTrue c X.env (eval c X.env);pure (ForInStep.yield ok) else pure (ForInStep.yield r)) (TP X pins σ Q) X.xe s
def aaW:TT:=λ_ H Q=>Q true H
theorem Uo {X:Cx}:QG X [] aaW:=λ_ _ _ H _ I q=>wpAny_tests_nil ⟨H,I,q⟩
def cSt (k:Nat)(cap:List Nat)(σ:St):St:=List.replicate k none++cap.map λj=>(σ[j]?).join
def ZR (J:It)(k:Nat)(cap:List Nat)(g:TG)(tt:TT)(te:TE)(σ:St)(H1:Hp)(l:Addr)(Q:VK):Prop:=
 ∃W:Nat->Nat->List V->Hp->Prop,(∃m,W 0 m [] (upd H1 l (.lst [])))/\∀i m ys H,W i m ys H->
  (J.stop i H/\Q (.ref l) H)\/(J.go i H/\∀x H',J.yld i H x H'->g x (cSt k cap σ) H' λσ2 H3=>σ2.drop k=(cSt k cap σ).drop k/\tt σ2 H3 λb H4=>
   if b=true then te σ2 H4 λy H5=>H5 l=some (.lst ys)/\ys.length<sizeLine/\∃m',m'<m/\W (i+1) m' (ys++[y]) (upd H5 l (.lst (ys++[y])))
   else ∃m',m'<m/\W (i+1) m' ys H4)
def Ly (k:Nat)(cap:List Nat)(wi:TI)(g:TG)(tt:TT)(te:TE):TE:=λσ H Q=>wi σ H λJ H1=>∀l,H1 l=none->ZR J k cap g tt te σ H1 l Q
section
variable {X:Cx}{tg iter elt:Expr}{ifs:List Expr}{sc scope:Scope}{caps N':List Str}{cap:List Nat}{k:Nat}{wi:TI}{g:TG}{tt:TT}{te:TE}{pos:Pos}
theorem Hn {pins:List (Addr×Obj)}{s:Shared}{σ:St}{H:Hp}{Q:VK}(hcalm:X.calm=true)(S:CSc sc scope caps)(hsc:X.env.scope=sc)(hN:N'.drop k=caps)(hk:k<=N'.length)(hcap:Paired (λj x=>X.N[j]? = some x) cap caps)
  (hi:PI X tg iter wi) (hg:∀cl C sE HE fp pins,PG (dJ X N' scope cl C sE HE fp pins) tg g) (ht:∀cl C sE HE fp pins,QG (dJ X N' scope cl C sE HE fp pins) ifs tt) (he:∀cl C sE HE fp pins,PE (dJ X N' scope cl C sE HE fp pins) elt te)
  (I:Inv X pins σ H s) (h:Ly k cap wi g tt te σ H Q) {cl:List (Str×Addr)} (hc1:∀x c,cl.lookup x=some c->X.env.cells.lookup x=some c) (hc2:∀y∈scope.names,y.2=.free->∃c,cl.lookup y.1=some c)
  {RR:Value->Addr->Result->Shared->Prop}
  (hRR:∀l sE HE H' s' m,Inv X pins σ HE sE->Inv X pins σ H' s'->H' sE.heap.objs.size=none->s'.heap.Ns sE.heap.objs.size m->Q (.ref l) H'->RR (.ref l) sE.heap.objs.size (.ok .next) s'):
  wpAny (model X.prog X.w) X.A (eval iter X.env) (λxv s₁=>wpAny (model X.prog X.w) X.A (pyIter xv) (λit s₂=>wpAny (model X.prog X.w) X.A (newList []) (λacc s₃=>
   wpAny (model X.prog X.w) X.A (newFunctionEnv scope X.env.globals cl [] X.env.qual none .none (some X.env)) (λcenv s₄=>
    codeAny (model X.prog X.w) X.A (.compStart (.ListComp elt [⟨tg,iter,ifs,0⟩] scope pos) 0 it acc { cenv with scope:=relabel scope X.env }) (RR acc cenv.locals) s₄) X.xe s₃) X.xe s₂) X.xe s₁) X.xe s:=by
 refine thn (hi pins s σ H _ I h) λv s1 h1=>thn h1 λitv s2 h2=>?_
 obtain ⟨it,fp,tn,J,H1,e,I1,T,st1,f1,q1⟩:=h2
 subst e
 refine wpAny_newList ?_
 have hfree:H1 s2.heap.objs.size=none:=I1.hok.fresh (Nat.le_refl _)
 have fpl:∀b∈fp,b<s2.heap.objs.size:=λb hb=>by
  obtain ⟨o,e,_⟩:=T.obj _ _ st1 b hb
  exact Heap.lt_size e
 generalize hE:({ s2 with heap:=s2.heap.push { cls:=.type "list",data:=.seq ([]:List Value).toArray } }:Shared)=sE
 have k2:∀b o,s2.heap.get? b=some o->sE.heap.get? b=some o:=λb o e=>by rw [← hE];exact Heap.get?_push_of_some _ e
 have szE:s2.heap.objs.size<sE.heap.objs.size:=by rw [← hE];show _<(s2.heap.push _).objs.size;rw [Heap.size_push];exact Nat.lt_succ_self _
 have IE:Inv X pins σ (upd H1 s2.heap.objs.size (.lst [])) sE:=by
  rw [← hE]
  refine I1.laid (t':=s2.toks) (λb o e=>Heap.get?_push_of_some _ e) (Nat.le_refl _) ?_
  exact ⟨Nat.zero_le _,[],0,.nil,Heap.get?_push_size _ rfl⟩
 have fE:∀b∈fp,wJ X pins (upd H1 s2.heap.objs.size (.lst [])) b/\b<sE.heap.objs.size:=λb hb=>
  ⟨⟨by rw [bj (Nat.ne_of_lt (fpl b hb))];exact (f1 b hb).1,(f1 b hb).2⟩,Nat.lt_trans (fpl b hb) szE⟩
 obtain ⟨W,⟨m0,w0⟩,turn⟩:=q1 _ hfree
 generalize hl:s2.heap.objs.size=l at *
 clear hl
 generalize hHE:upd H1 l (.lst [])=HE at *
 refine wpAny_newFunctionEnv S.nocell (by intro y hy;simp at hy) (λh₁ hns₁ hsb₁=>?_) S.kind
 have kE:∀b o,sE.heap.get? b=some o->h₁.get? b=some o:=λb o e=>(hsb₁.2 b (Nat.ne_of_lt (Heap.lt_size e))).trans (Heap.get?_push_of_some _ e)
 have I0:=Q0 (k:=k) (cap:=cap) (N':=N') IE S hsc fE hc1 hc2 hN hk hcap kE hns₁ (sE.toks+([]:List (Str×Value)).length)
 have st0:tn 0 h₁:=T.keep _ _ _ st1 λb hb o e=>kE b o (k2 b o e)
 have hX:∀{H':Hp},(∀b∈fp,H' b=none)->∀b∈fp,wJ (dJ X N' scope cl sE.heap.objs.size sE HE fp pins) [] H' b:=λhn b hb=>
  ⟨hn b hb,(I0.ok.exf b hb).1,I0.ok.exfs b hb,.inl hb,(I0.ok.exf b hb).2,λp hp=>by
   rw [List.append_nil] at hp
   exact (fE b hb).1.2.2.2.2.2 p hp⟩
 have loop:∀s₃:Shared,s₃={ sE with heap:=h₁,toks:=sE.toks+([]:List (Str×Value)).length }->
   codeAny (model X.prog X.w) X.A (.compLoop (.ListComp elt [⟨tg,iter,ifs,0⟩] scope pos) 0 (.ref it) (.ref l) (compEnvC scope cl sE.heap.objs.size X.env)) (RR (.ref l) sE.heap.objs.size) s₃:=by
  rintro s₃ rfl
  refine codeAny_loop rfl (λn s'=>∃i ys H',Inv (dJ X N' scope cl sE.heap.objs.size sE HE fp pins) [] (cSt k cap σ) H' s'/\tn i s'.heap/\(∀b∈fp,H' b=none)/\W i n ys H') (λn s3 hI=>?_) m0
   ⟨0,[],HE,I0,st0,λb hb=>(fE b hb).1.1,w0⟩
  obtain ⟨i,ys,H3,I3,st3,fr3,w3⟩:=hI
  show wpAny _ X.A ((compTurn (.ListComp elt [⟨tg,iter,ifs,0⟩] scope pos) 0 (.ref it) (.ref l) (compEnvC scope cl sE.heap.objs.size X.env)).onRaise (λx=>do noteFrame x (compEnvC scope cl sE.heap.objs.size X.env);theTreesLotGoes x)) _ _ s3
  refine wpAny_noted ?_
  rw [compTurn_list]
  refine wpAny_bind (wpAny_standAt (wpAny_bind ?_))
  rcases turn i n ys H3 w3 with ⟨stop,qn⟩ | ⟨go,step⟩
  ·refine wpAny_mono (T.done (dJ X N' scope cl sE.heap.objs.size sE HE fp pins) rfl rfl rfl hcalm i [] s3 _ H3 (λ_ _=>False) I3 (hX fr3) st3 stop) (λr s4 ⟨hr,I4⟩=>?_) λ_ _ z=>z.elim
   subst hr
   obtain ⟨m4,hn4,_⟩:=I4.loc
   exact wpAny_pure (hRR l sE HE H3 s4 m4 IE (comp_back IE fE I4) I4.free hn4 qn)
  ·refine wpAny_mono (T.item (dJ X N' scope cl sE.heap.objs.size sE HE fp pins) rfl rfl rfl hcalm i [] s3 _ H3 (λ_ _=>False) I3 (hX fr3) st3 go) (λr s4 ⟨u,hr,h4⟩=>?_) λ_ _ z=>z.elim
   subst hr
   refine wpAny_bind (wpAny_mono h4 (λ_ s5 ⟨x,H5,I5,r5,y5,st5,fr5⟩=>?_) λ_ _ z=>z.elim)
   have I5':=I5.pinned (hX fr5) (T.obj _ _ st5)
   refine wpAny_bind (wpAny_mono (hg _ _ _ _ _ _ _ s5 _ H5 x u _ I5' r5 (step x H5 y5)) (λ_ s6 ⟨σ6,H6,I6,q6⟩=>?_) λ_ _ z=>z.elim)
   obtain ⟨d6,q6⟩:=q6
   have weak:∀{H7 s7},Inv (dJ X N' scope cl sE.heap.objs.size sE HE fp pins) ([]++wR fp s5.heap) σ6 H7 s7->Inv (dJ X N' scope cl sE.heap.objs.size sE HE fp pins) ([]++wR fp s5.heap) (cSt k cap σ) H7 s7:=λ{H7 s7} I7=>by
    refine I7.weak (I0.len.trans I7.len.symm) λj v e=>?_
    by_cases z:k<=j
    ·obtain ⟨j',rfl⟩:∃j',j=k+j':=⟨j-k,by omega⟩
     rw [← List.getElem?_drop] at e ⊢
     rw [d6]
     exact e
    ·unfold cSt at e
     rw [List.getElem?_append_left (by simp;omega),List.getElem?_replicate,if_pos (by omega)] at e
     cases e
   have again:∀{H7:Hp} {s7:Shared} {zs:List V},Inv (dJ X N' scope cl sE.heap.objs.size sE HE fp pins) ([]++wR fp s5.heap) σ6 H7 s7->(∃m',m'<n/\W (i+1) m' zs H7)->
     ∃m,m<n/\∃i ys H',Inv (dJ X N' scope cl sE.heap.objs.size sE HE fp pins) [] (cSt k cap σ) H' s7/\tn i s7.heap/\(∀b∈fp,H' b=none)/\W i m ys H':=λ{H7 s7 zs} I7 ⟨m',hm,w7⟩=>by
    refine ⟨m',hm,i+1,zs,H7,(weak I7).xx,T.keep _ _ _ st5 λb hb o e=>(I7.pin (b,o) (List.mem_append_right _ (List.mem_append_right _ (tQ hb e)))).1,λb hb=>?_,w7⟩
    obtain ⟨o,e,d⟩:=T.obj _ _ st5 b hb
    exact (I7.pin (b,o) (List.mem_append_right _ (List.mem_append_right _ (tQ hb e)))).2.1
   refine wpAny_bind (wpAny_mono (ht _ _ _ _ _ _ _ s6 σ6 H6 _ I6 q6) (λb s7 ⟨H7,I7,q7⟩=>?_) λ_ _ z=>z.elim)
   cases b with
   |false=>
    rw [if_neg Bool.false_ne_true] at q7
    exact wpAny_pure ⟨rfl,again I7 q7⟩
   |true=>
    rw [if_pos rfl] at q7
    refine wpAny_bind (wpAny_bind (wpAny_mono (he _ _ _ _ _ _ _ s7 σ6 H7 _ I7 q7) (λyv s8 ⟨y,H8,I8,r8,hl8,hz8,q8⟩=>?_) λ_ _ z=>z.elim))
    refine wpAny_bind (wpAny_mono (yG (X:=dJ X N' scope cl sE.heap.objs.size sE HE fp pins) _ s8 σ6 H8 (.ref l) [y] (.ref l) [yv] (λ_ H9=>H9=upd H8 l (.lst (ys++[y]))) I8 rfl (.cons r8 .nil) ⟨l,ys,y,rfl,rfl,hl8,hz8,rfl⟩)
     (λ_ s9 ⟨_,H9,I9,_,e9⟩=>?_) λ_ _ z=>z.elim)
    subst e9
    exact wpAny_pure (wpAny_pure ⟨rfl,again I9 q8⟩)
 exact codeAny_compStart_list (loop _ rfl) (T.self _ 0 _ _ _ st0 (loop _ rfl))
theorem U4 (sc:Scope)(N' caps:List Str)(k:Nat)(cap:List Nat)(hcalm:X.calm=true)(S:CSc sc scope caps)(hcap:Paired (λj x=>X.N[j]? = some x) cap caps)
  (hi:PI X tg iter wi) (hg:∀cl C sE HE fp pins,PG (dJ X N' scope cl C sE HE fp pins) tg g) (ht:∀cl C sE HE fp pins,QG (dJ X N' scope cl C sE HE fp pins) ifs tt) (he:∀cl C sE HE fp pins,PE (dJ X N' scope cl C sE HE fp pins) elt te)
  (hsc:X.env.scope=sc:=by rfl) (hN:N'.drop k=caps:=by rfl) (hk:k<=N'.length:=by decide) (hs:∀x,foldedSetIterable iter X.env x=pure x:=by intro _;rfl):
  PE X (.ListComp elt [⟨tg,iter,ifs,0⟩] scope pos) (Ly k cap wi g tt te):=by
 intro pins s σ H Q I h
 obtain ⟨cl,hcl,hc1,hc2⟩:=yV (scope:=scope) (env:=X.env) λy hy e=>I.ok.has y.1 (by
  have z:=S.free y hy e
  rw [← hsc] at z
  exact z)
 rw [eval_ListComp]
 refine wpAny_comprehension_free (use:=none) rfl hs hcl S.kind S.loc (Hn (RR:=λacc C=>compPost (model X.prog X.w) X.A X.xe none (EP X pins σ Q) acc C) hcalm S hsc hN hk hcap hi hg ht he I h hc1 hc2 ?_)
 intro l sE HE H' s' m IE I' hn hns q
 exact ⟨m,hns,λh' hs'=>⟨.ref l,H',HB IE I' hn hs',rfl,q⟩⟩
theorem Bw {i:Nat}{y:Str}{py spos:Pos}(sc:Scope)(N' caps:List Str)(k:Nat)(cap:List Nat)(hnd:X.N.Nodup)(hi':X.N[i]? = some y)(hy:Loc X.env.scope y)(hcalm:X.calm=true)(S:CSc sc scope caps)(hcap:Paired (λj x=>X.N[j]? = some x) cap caps)
  (hi:PI X tg iter wi) (hg:∀cl C sE HE fp pins,PG (dJ X N' scope cl C sE HE fp pins) tg g) (ht:∀cl C sE HE fp pins,QG (dJ X N' scope cl C sE HE fp pins) ifs tt) (he:∀cl C sE HE fp pins,PE (dJ X N' scope cl C sE HE fp pins) elt te)
  (hsw:swapsWith (.ListComp elt [⟨tg,iter,ifs,0⟩] scope pos) (some (.Name y py)) spos.line X.env=pure true:=by rfl)
  (hsc:X.env.scope=sc:=by rfl) (hN:N'.drop k=caps:=by rfl) (hk:k<=N'.length:=by decide) (hs:∀x,foldedSetIterable iter X.env x=pure x:=by intro _;rfl)
  (hf:X.fn y=true\/X.env.scope.names.lookup y=some .local:=by first | exact .inl rfl | exact .inr rfl | assumption):
  PS X (.Assign [.Name y py] (.ListComp elt [⟨tg,iter,ifs,0⟩] scope pos) spos) (Pb (Ly k cap wi g tt te) (Ax i)):=by
 intro pins s σ H D I h
 obtain ⟨cl,hcl,hc1,hc2⟩:=yV (scope:=scope) (env:=X.env) λy hy e=>I.ok.has y.1 (by
  have z:=S.free y hy e
  rw [← hsc] at z
  exact z)
 rw [exec_Assign_Name_used _ _ _ _ hsw]
 refine wpAny_bind (wpAny_standAt (wpAny_bind ?_))
 show wpAny _ X.A (do let _ ← comprehension (.ListComp elt [⟨tg,iter,ifs,0⟩] scope pos) scope X.env _ (newList []) false (eval iter X.env) (some (assign (.Name y py) X.env))) _ _ s
 refine wpAny_bind (wpAny_mono (wpAny_comprehension_free (use:=some (assign (.Name y py) X.env)) (Q:=λ_ s'=>SP X pins D .next s') rfl hs hcl S.kind S.loc
  (Hn (RR:=λacc C=>compPost (model X.prog X.w) X.A X.xe (some (assign (.Name y py) X.env)) (λ_ s'=>SP X pins D .next s') acc C) hcalm S hsc hN hk hcap hi hg ht he I h hc1 hc2 ?_)) (λ_ s' hq=>wpAny_pure (wpAny_pure hq)) λ_ _ e=>e)
 intro l sE HE H' s' m IE I' hn hns q
 show wpAny _ X.A (assign (.Name y py) X.env (.ref l)) _ _ _
 refine wpAny_assign_Name (DN I' hnd hi' hy (v:=.ref l) rfl (λs2 I2 hb=>?_) hf)
 obtain ⟨a,hsb,ha⟩:=hb
 have hne:sE.heap.objs.size≠a:=λz=>by
  rcases ha with e | e
  ·exact absurd IE.lt (by rw [← e,← z];exact Nat.lt_irrefl _)
  ·obtain ⟨v,q⟩:=IE.cell y a e
   exact absurd q.lt (by rw [z];exact Nat.lt_irrefl _)
 exact ⟨m,hns.sameBut hsb hne,λh' hs'=>⟨_,H',HB IE I2 hn hs',q⟩⟩
end
inductive TyK (K:W.Frag)(H:Hp):V->Value->Prop where
 |of {v:V} {t:Value}:yJ K H v t->TyK K H v t
 |tup {a:Addr} {xs:List V}:SqT K H a xs->TyK K H (.ref a) (.type "tuple")
 |lst {a:Addr} {xs:List V}:SqL K H a xs->TyK K H (.ref a) (.type "list")
section
variable {X:Cx}
def YB (K:W.Frag):List V->Hp->VK->Prop:=λxs H Q=>∃x c t cv b,xs=[x,c]/\YQ c=some cv/\TyK K H x t/\W.kitOne K t cv=some b/\Q (.bl b) H
theorem Oe:qj X (.builtin "isinstance") (YB X.K):=by
 intro pins s σ H xs us Q I r h
 obtain ⟨x,c,t,cv,b,rfl,rc,ty,e,q⟩:=h
 obtain ⟨u,w',rfl,ru,rw'⟩:=vals2 r
 have z:=QC rc rw'
 subst z
 cases ty with
 |of ty=>exact M7 I ru ty e λtk=>⟨.bl b,H,I.tok _,rfl,q⟩
 | @tup a xs hs=>
  cases (show u=Value.ref a from ru)
  obtain ⟨its,_,⟨o,h1,h2,_⟩,_⟩:=I.tuple hs
  exact W.kia_one W.kitx_tuple I.kIn ⟨o,h1,h2⟩ e (λz=>nomatch z) λtk=>⟨.bl b,H,I.tok _,rfl,q⟩
 | @lst a xs hs=>
  cases (show u=Value.ref a from ru)
  obtain ⟨its,_,⟨o,n,h1,h2,_⟩,_⟩:=I.list hs
  exact W.kia_one W.kitx_list I.kIn ⟨o,h1,h2⟩ e (λz=>nomatch z) λtk=>⟨.bl b,H,I.tok _,rfl,q⟩
end
theorem Rd.mono {H H':Hp}{a:Addr}{u:HO}(h:Rd H a u)(g:aL H H'):Rd H' a u:=h.elim (λe=>.inl (g _ _ e)) λ⟨o,e⟩=>.inr ⟨o,g _ _ e⟩
theorem xn {K:W.Frag}{H H':Hp}{a:Addr}{xs:List V}(h:SqL K H a xs)(g:aL H H'):SqL K H' a xs:=h.elim (λe=>.inl (Rd.mono e g)) .inr
def SameBut (l:Addr)(H H':Hp):Prop:=∀b u,b≠l->H b=some u->H' b=some u
theorem VF {l:Addr}{H H':Hp}(g:aL H H'):SameBut l H H':=λb u _ e=>g b u e
theorem Sv {l:Addr}{H:Hp}{o:HO}:SameBut l H (upd H l o):=λb u n e=>by rw [bj n];exact e
theorem SameBut.trans {l:Addr}{H H1 H2:Hp}(a:SameBut l H H1)(b:SameBut l H1 H2):SameBut l H H2:=λc u n e=>b c u n (a c u n e)
theorem Mh {l:Addr}{H H':Hp}(g:SameBut l H H')(n:H l=none):aL H H':=λb u e=>g b u (λz=>by rw [z,n] at e;cases e) e
def CW (n:Nat)(l:Addr)(H1:Hp)(R:Nat->List V->Hp->Prop):Nat->Nat->List V->Hp->Prop:=λi m ys H=>m=n-i/\i<=n/\ys.length=i/\aL H1 H/\H l=some (.lst ys)/\R i ys H
def CN (n:Nat)(l:Addr)(H1:Hp)(R:Nat->List V->Hp->Prop)(i:Nat)(ys:List V):VK:=λy H5=>H5 l=some (.lst ys)/\ys.length<sizeLine/\∃m',m'<n-i/\CW n l H1 R (i+1) m' (ys++[y]) (upd H5 l (.lst (ys++[y])))
theorem CN.mk {n:Nat}{l:Addr}{H1 H H5:Hp}{R:Nat->List V->Hp->Prop}{i:Nat}{ys:List V}{y:V}(hn:n<=sizeLine)(hl1:H1 l=none)(hi:i<n)(hlen:ys.length=i)(s1:aL H1 H)(hl:H l=some (.lst ys))(g:aL H H5)
  (r:R (i+1) (ys++[y]) (upd H5 l (.lst (ys++[y])))):CN n l H1 R i ys y H5:=
 ⟨g _ _ hl,by omega,n-(i+1),by omega,rfl,hi,by rw [List.length_append,List.length_singleton,hlen],Mh ((VF (λb u e=>g b u (s1 b u e))).trans Sv) hl1,bY,r⟩
section
variable {k:Nat}{cap:List Nat}{g:TG}{te:TE}{σ:St}{H1:Hp}{Q:VK}{l:Addr}
end
section
variable {X:Cx}{tg:Expr}
end
section
variable {X:Cx}
end
end Hd
namespace F
open PySem PySem.Spec PyProof.Rows L2 Hd
inductive D where
 |non | bl (b:Bool) | int (i:Int) | str (x:Str) | exc (c:Str)
 |tup (xs:List D) | lst (xs:List D)
 |dct (ks:List Key) (vs:List D) | dcu (ks:List (List Kt)) (vs:List D)
  |dcf (ks:List (List Kt)) (vs:List D)
  |adr (a:Addr)
  |ins (c:Str) (ns:List Str) (vs:List D)
inductive Res (α:Type) where
 |ok (a:α) | exc (c:Str) | stuck
def Res.bind {α β:Type}(r:Res α)(f:α->Res β):Res β:=match r with
 | .ok a=>f a
 | .exc c=>.exc c
 | .stuck=>.stuck
@[simp] theorem Res.bh {α β:Type}(a:α)(f:α->Res β):(Res.ok a).bind f=f a:=rfl
@[simp] theorem Res.YZ {α β:Type}(c:Str)(f:α->Res β):(Res.exc c:Res α).bind f=.exc c:=rfl
@[simp] theorem Res.Yl {α β:Type}(f:α->Res β):(Res.stuck:Res α).bind f=.stuck:=rfl
def ofO {α:Type}:Option α->Res α
 |some a=>.ok a
 |none=>.stuck
@[simp] theorem nY {α:Type}(a:α):ofO (some a)=.ok a:=rfl
@[simp] theorem Zt {α:Type}:ofO (none:Option α)=.stuck:=rfl
structure Gx where
 K:W.Frag
 mg:Str->Option Value
abbrev gx (X:Cx):Gx:=⟨X.K,X.mg⟩
def aaU (K:W.Frag)(a:Addr)(xs:List V):Prop:=
 ∃(o:Obj) (its:Array Value) (n:Nat),K.lookup a=some o/\o.cls=.type "list"/\o.dict=none/\o.data=.seq its n/\its.size<=sizeLine/\Vals xs its.toList
def LstAt (K:W.Frag)(O:Addr->Prop)(H:Hp)(a:Addr)(xs:List V):Prop:=(¬O a/\Rd H a (.lst xs))\/aaU K a xs
mutual
inductive DV (G:Gx)(O:Addr->Prop)(H:Hp):V->D->Prop where
 |non:DV G O H .non .non
 |bl (b:Bool):DV G O H (.bl b) (.bl b)
 |int (i:Int):DV G O H (.int i) (.int i)
 |str (x:Str):DV G O H (.str x) (.str x)
 |adr (a:Addr):DV G O H (.ref a) (.adr a)
 |ins {a C dx:Addr} {c:Str} {kvs:List (Str×V)} {ns:List Str} {vs:List V} {ds:List D}:¬O a->G.mg c=some (.ref C)->H a=some (.ins C dx kvs)->kvs.map (·.1)=ns->kvs.map (·.2)=vs->DVs G O H vs ds->DV G O H (.ref a) (.ins c ns ds)
 |exc {a C:Addr} {c:Str}:G.mg c=some (.ref C)->H a=some (.ext (Z8 a (.ref C)))->DV G O H (.ref a) (.exc c)
 |tup {a:Addr} {xs:List V} {ds:List D}:SqU G.K H a xs->DVs G O H xs ds->DV G O H (.ref a) (.tup ds)
 |lst {a:Addr} {xs:List V} {ds:List D}:LstAt G.K O H a xs->DVs G O H xs ds->DV G O H (.ref a) (.lst ds)
 |dct {a:Addr} {kvs:List (Key×V)} {ks:List Key} {vs:List V} {ds:List D}:¬O a->H a=some (.dK kvs)->kvs.map (·.1)=ks->kvs.map (·.2)=vs->DVs G O H vs ds->DV G O H (.ref a) (.dct ks ds)
 |dcu {a:Addr} {kvs:List (List Kt×V)} {ks:List (List Kt)} {vs:List V} {ds:List D}:¬O a->H a=some (.dT (KTp G.K) kvs)->kvs.map (·.1)=ks->kvs.map (·.2)=vs->DVs G O H vs ds->DV G O H (.ref a) (.dcu ks ds)
 |dcf {a:Addr} {o:Obj} {kvs:List (List Kt×V)} {ks:List (List Kt)} {vs:List V} {ds:List D}:H a=some (.frz o (.dT (KTp G.K) kvs))->kvs.map (·.1)=ks->kvs.map (·.2)=vs->DVs G O H vs ds->DV G O H (.ref a) (.dcf ks ds)
inductive DVs (G:Gx)(O:Addr->Prop)(H:Hp):List V->List D->Prop where
 |nil:DVs G O H [] []
 |cons {v:V} {vs:List V} {d:D} {ds:List D}:DV G O H v d->DVs G O H vs ds->DVs G O H (v::vs) (d::ds)
end
def OV (G:Gx)(O:Addr->Prop)(H:Hp)(a:Addr):D->Prop
 | .lst ds=>∃xs,H a=some (.lst xs)/\DVs G O H xs ds
 | .dct ks ds=>∃kvs vs,H a=some (.dK kvs)/\kvs.map (·.1)=ks/\kvs.map (·.2)=vs/\DVs G O H vs ds
 | .dcu ks ds=>∃kvs vs,H a=some (.dT (KTp G.K) kvs)/\kvs.map (·.1)=ks/\kvs.map (·.2)=vs/\DVs G O H vs ds
 | .ins c ns ds=>∃C dx kvs vs,G.mg c=some (.ref C)/\H a=some (.ins C dx kvs)/\kvs.map (·.1)=ns/\kvs.map (·.2)=vs/\DVs G O H vs ds
 |_=>False
def DW (G:Gx)(O:Addr->Prop)(H:Hp)(v:V)(d:D):Prop:=DV G O H v d\/∃a,v=.ref a/\O a/\OV G O H a d
inductive DWs (G:Gx)(O:Addr->Prop)(H:Hp):List V->List D->Prop where
 |nil:DWs G O H [] []
 |cons {v:V} {vs:List V} {d:D} {ds:List D}:DW G O H v d->DWs G O H vs ds->DWs G O H (v::vs) (d::ds)
def fP (o:Option HO):Prop:=(∃xs,o=some (.lst xs))\/(∃k,o=some (.dK k))\/(∃k:(Addr->List V->Prop)×List (List Kt×V),o=some (.dT k.1 k.2))\/∃k:Addr×Addr×List (Str×V),o=some (.ins k.1 k.2.1 k.2.2)
def Kp (O:Addr->Prop)(H H':Hp):Prop:=∀b o,H b=some o->¬O b->H' b=some o
theorem Kp.of {O:Addr->Prop}{H H':Hp}(g:aL H H'):Kp O H H':=λb o e _=>g b o e
theorem tu {O:Addr->Prop}{H:Hp}(m:∀b,O b->fP (H b)){a:Addr}{o:HO}(e:H a=some o)(n:¬fP (some o)):¬O a:=λz=>n (e ▸ m a z)
theorem KC {xs:List V}:¬fP (some (.tup xs)):=by rintro (⟨_,e⟩ | ⟨_,e⟩ | ⟨_,e⟩ | ⟨_,e⟩)<;>cases e
theorem Fd {o:Obj}{u:HO}:¬fP (some (.frz o u)):=by rintro (⟨_,e⟩ | ⟨_,e⟩ | ⟨_,e⟩ | ⟨_,e⟩)<;>cases e
theorem MT {φ:Heap->Prop}:¬fP (some (.ext φ)):=by rintro (⟨_,e⟩ | ⟨_,e⟩ | ⟨_,e⟩ | ⟨_,e⟩)<;>cases e
theorem W8 {K:W.Frag}{O:Addr->Prop}{H H':Hp}{a:Addr}{xs:List V}(m:∀b,O b->fP (H b))(g:Kp O H H')(h:SqT K H a xs):SqT K H' a xs:=by
 rcases h with (e | ⟨o,e⟩) | h
 ·exact .inl (.inl (g a _ e (tu m e KC)))
 ·exact .inl (.inr ⟨o,g a _ e (tu m e Fd)⟩)
 ·exact .inr h
theorem R7 {K:W.Frag}{O:Addr->Prop}{H H':Hp}{a:Addr}{xs:List V}(m:∀b,O b->fP (H b))(g:Kp O H H')(h:SqU K H a xs):SqU K H' a xs:=by
 rcases h with e | h
 ·exact .inl (g a _ e (tu m e KC))
 ·exact .inr h
theorem RQ {K:W.Frag}{H H':Hp}{a:Addr}{xs:List V}(h:SqU K H a xs)(g:aL H H'):SqU K H' a xs:=h.imp (g _ _) id
theorem qx {K:W.Frag}{O:Addr->Prop}{H H':Hp}{a:Addr}{xs:List V}(g:Kp O H H')(h:LstAt K O H a xs):LstAt K O H' a xs:=by
 rcases h with ⟨n,e | ⟨o,e⟩⟩ | h
 ·exact .inl ⟨n,.inl (g a _ e n)⟩
 ·exact .inl ⟨n,.inr ⟨o,g a _ e n⟩⟩
 ·exact .inr h
theorem LstAt.sq {K:W.Frag}{O:Addr->Prop}{H:Hp}{a:Addr}{xs:List V}(h:LstAt K O H a xs):SqL K H a xs:=h.elim (λz=>.inl z.2) .inr
section
variable {G:Gx}{O O':Addr->Prop}{H H':Hp}
mutual
theorem DV.kp (m:∀b,O b->fP (H b))(g:Kp O H H'):∀{v:V} {d:D},DV G O H v d->DV G O H' v d
 |_,_,.non=>.non
 |_,_,.bl b=>.bl b
 |_,_,.int i=>.int i
 |_,_,.str x=>.str x
 |_,_,.adr a=>.adr a
 |_,_,.exc h e=>.exc h (g _ _ e (tu m e MT))
 |_,_,.tup h hs=>.tup (R7 m g h) (DVs.kp m g hs)
 |_,_,.lst h hs=>.lst (qx g h) (DVs.kp m g hs)
 |_,_,.dct n e a b hs=>.dct n (g _ _ e n) a b (DVs.kp m g hs)
 |_,_,.dcu n e a b hs=>.dcu n (g _ _ e n) a b (DVs.kp m g hs)
 |_,_,.dcf e a b hs=>.dcf (g _ _ e (tu m e Fd)) a b (DVs.kp m g hs)
 |_,_,.ins n c e a b hs=>.ins n c (g _ _ e n) a b (DVs.kp m g hs)
theorem DVs.kp (m:∀b,O b->fP (H b))(g:Kp O H H'):∀{vs:List V} {ds:List D},DVs G O H vs ds->DVs G O H' vs ds
 |_,_,.nil=>.nil
 |_,_,.cons h hs=>.cons (DV.kp m g h) (DVs.kp m g hs)
end
mutual
theorem DV.mono (g:aL H H'):∀{v:V} {d:D},DV G O H v d->DV G O H' v d
 |_,_,.non=>.non
 |_,_,.bl b=>.bl b
 |_,_,.int i=>.int i
 |_,_,.str x=>.str x
 |_,_,.adr a=>.adr a
 |_,_,.exc h e=>.exc h (g _ _ e)
 |_,_,.tup h hs=>.tup (RQ h g) (DVs.mono g hs)
 |_,_,.lst h hs=>.lst (qx (.of g) h) (DVs.mono g hs)
 |_,_,.dct n e a b hs=>.dct n (g _ _ e) a b (DVs.mono g hs)
 |_,_,.dcu n e a b hs=>.dcu n (g _ _ e) a b (DVs.mono g hs)
 |_,_,.dcf e a b hs=>.dcf (g _ _ e) a b (DVs.mono g hs)
 |_,_,.ins n c e a b hs=>.ins n c (g _ _ e) a b (DVs.mono g hs)
theorem DVs.mono (g:aL H H'):∀{vs:List V} {ds:List D},DVs G O H vs ds->DVs G O H' vs ds
 |_,_,.nil=>.nil
 |_,_,.cons h hs=>.cons (DV.mono g h) (DVs.mono g hs)
end
mutual
theorem DV.cJ (s:∀b,O' b->O b\/H b=none):∀{v:V} {d:D},DV G O H v d->DV G O' H v d
 |_,_,.non=>.non
 |_,_,.bl b=>.bl b
 |_,_,.int i=>.int i
 |_,_,.str x=>.str x
 |_,_,.adr a=>.adr a
 |_,_,.exc h e=>.exc h e
 |_,_,.tup h hs=>.tup h (DVs.cJ s hs)
 |_,_,.lst h hs=>.lst (h.elim (λz=>.inl ⟨λo=>(s _ o).elim z.1 λn=>by rcases z.2 with e | ⟨_,e⟩<;>(rw [n] at e;cases e),z.2⟩) .inr) (DVs.cJ s hs)
 |_,_,.dct n e a b hs=>.dct (λo=>(s _ o).elim n λz=>by rw [z] at e;cases e) e a b (DVs.cJ s hs)
 |_,_,.dcu n e a b hs=>.dcu (λo=>(s _ o).elim n λz=>by rw [z] at e;cases e) e a b (DVs.cJ s hs)
 |_,_,.dcf e a b hs=>.dcf e a b (DVs.cJ s hs)
 |_,_,.ins n c e a b hs=>.ins (λo=>(s _ o).elim n λz=>by rw [z] at e;cases e) c e a b (DVs.cJ s hs)
theorem DVs.cJ (s:∀b,O' b->O b\/H b=none):∀{vs:List V} {ds:List D},DVs G O H vs ds->DVs G O' H vs ds
 |_,_,.nil=>.nil
 |_,_,.cons h hs=>.cons (DV.cJ s h) (DVs.cJ s hs)
end
def Ev (O:Addr->Prop)(H:Hp)(O':Addr->Prop)(H':Hp):Prop:=(∀b,O' b->O b\/H b=none)/\Kp O H H'
mutual
theorem DV.go (m:∀b,O b->fP (H b))(g:Ev O H O' H'):∀{v:V} {d:D},DV G O H v d->DV G O' H' v d
 |_,_,.non=>.non
 |_,_,.bl b=>.bl b
 |_,_,.int i=>.int i
 |_,_,.str x=>.str x
 |_,_,.adr a=>.adr a
 |_,_,.exc h e=>.exc h (g.2 _ _ e (tu m e MT))
 |_,_,.tup h hs=>.tup (R7 m g.2 h) (DVs.go m g hs)
 |_,_,.lst h hs=>.lst (h.elim (λz=>.inl ⟨λo=>(g.1 _ o).elim z.1 λn=>by rcases z.2 with e | ⟨_,e⟩<;>(rw [n] at e;cases e),(qx g.2 (.inl z):LstAt G.K O H' _ _).elim (λy=>y.2) λy=>z.2.elim (λe=>.inl (g.2 _ _ e z.1)) λ⟨o,e⟩=>.inr ⟨o,g.2 _ _ e z.1⟩⟩) .inr) (DVs.go m g hs)
 |_,_,.dct n e a b hs=>.dct (λo=>(g.1 _ o).elim n λz=>by rw [z] at e;cases e) (g.2 _ _ e n) a b (DVs.go m g hs)
 |_,_,.dcu n e a b hs=>.dcu (λo=>(g.1 _ o).elim n λz=>by rw [z] at e;cases e) (g.2 _ _ e n) a b (DVs.go m g hs)
 |_,_,.dcf e a b hs=>.dcf (g.2 _ _ e (tu m e Fd)) a b (DVs.go m g hs)
 |_,_,.ins n c e a b hs=>.ins (λo=>(g.1 _ o).elim n λz=>by rw [z] at e;cases e) c (g.2 _ _ e n) a b (DVs.go m g hs)
theorem DVs.go (m:∀b,O b->fP (H b))(g:Ev O H O' H'):∀{vs:List V} {ds:List D},DVs G O H vs ds->DVs G O' H' vs ds
 |_,_,.nil=>.nil
 |_,_,.cons h hs=>.cons (DV.go m g h) (DVs.go m g hs)
end
theorem OV.cJ {a:Addr}{d:D}(s:∀b,O' b->O b\/H b=none)(h:OV G O H a d):OV G O' H a d:=by
 cases d with
 |lst ds=>obtain ⟨xs,e,hs⟩:=h;exact ⟨xs,e,hs.cJ s⟩
 |dct ks ds=>obtain ⟨k,v,e,a1,a2,hs⟩:=h;exact ⟨k,v,e,a1,a2,hs.cJ s⟩
 |dcu ks ds=>obtain ⟨k,v,e,a1,a2,hs⟩:=h;exact ⟨k,v,e,a1,a2,hs.cJ s⟩
 |ins c ns ds=>obtain ⟨C,dx,k,v,ec,e,a1,a2,hs⟩:=h;exact ⟨C,dx,k,v,ec,e,a1,a2,hs.cJ s⟩
 |_=>exact h.elim
theorem OV.mono {a:Addr}{d:D}(g:aL H H')(h:OV G O H a d):OV G O H' a d:=by
 cases d with
 |lst ds=>obtain ⟨xs,e,hs⟩:=h;exact ⟨xs,g _ _ e,hs.mono g⟩
 |dct ks ds=>obtain ⟨k,v,e,a1,a2,hs⟩:=h;exact ⟨k,v,g _ _ e,a1,a2,hs.mono g⟩
 |dcu ks ds=>obtain ⟨k,v,e,a1,a2,hs⟩:=h;exact ⟨k,v,g _ _ e,a1,a2,hs.mono g⟩
 |ins c ns ds=>obtain ⟨C,dx,k,v,ec,e,a1,a2,hs⟩:=h;exact ⟨C,dx,k,v,ec,g _ _ e,a1,a2,hs.mono g⟩
 |_=>exact h.elim
theorem OV.kp {a:Addr}{d:D}(m:∀b,O b->fP (H b))(g:Kp O H H')(e':H' a=H a)(h:OV G O H a d):OV G O H' a d:=by
 cases d with
 |lst ds=>obtain ⟨xs,e,hs⟩:=h;exact ⟨xs,e'.trans e,hs.kp m g⟩
 |dct ks ds=>obtain ⟨k,v,e,a1,a2,hs⟩:=h;exact ⟨k,v,e'.trans e,a1,a2,hs.kp m g⟩
 |dcu ks ds=>obtain ⟨k,v,e,a1,a2,hs⟩:=h;exact ⟨k,v,e'.trans e,a1,a2,hs.kp m g⟩
 |ins c ns ds=>obtain ⟨C,dx,k,v,ec,e,a1,a2,hs⟩:=h;exact ⟨C,dx,k,v,ec,e'.trans e,a1,a2,hs.kp m g⟩
 |_=>exact h.elim
theorem OV.mut {a:Addr}{d:D}(h:OV G O H a d):fP (H a):=by
 cases d with
 |lst ds=>obtain ⟨xs,e,hs⟩:=h;exact .inl ⟨xs,e⟩
 |dct ks ds=>obtain ⟨k,v,e,_⟩:=h;exact .inr (.inl ⟨k,e⟩)
 |dcu ks ds=>obtain ⟨k,v,e,_⟩:=h;exact .inr (.inr (.inl ⟨(_,k),e⟩))
 |ins c ns ds=>obtain ⟨C,dx,k,v,_,e,_⟩:=h;exact .inr (.inr (.inr ⟨(C,dx,k),e⟩))
 |_=>exact h.elim
theorem OV.dv {a:Addr}{d:D}(n:¬O a)(h:OV G O H a d):DV G O H (.ref a) d:=by
 cases d with
 |lst ds=>obtain ⟨xs,e,hs⟩:=h;exact .lst (.inl ⟨n,.inl e⟩) hs
 |dct ks ds=>obtain ⟨k,v,e,a1,a2,hs⟩:=h;exact .dct n e a1 a2 hs
 |dcu ks ds=>obtain ⟨k,v,e,a1,a2,hs⟩:=h;exact .dcu n e a1 a2 hs
 |ins c ns ds=>obtain ⟨C,dx,k,v,ec,e,a1,a2,hs⟩:=h;exact .ins n ec e a1 a2 hs
 |_=>exact h.elim
theorem DW.mono {v:V}{d:D}(g:aL H H')(h:DW G O H v d):DW G O H' v d:=h.elim (λz=>.inl (z.mono g)) λ⟨a,e,o,z⟩=>.inr ⟨a,e,o,z.mono g⟩
theorem DWs.mono (g:aL H H'):∀{vs:List V} {ds:List D},DWs G O H vs ds->DWs G O H' vs ds
 |_,_,.nil=>.nil
 |_,_,.cons h hs=>.cons (h.mono g) (DWs.mono g hs)
theorem DW.any {v:V}{d:D}(h:DW G O H v d):DV G (λ_=>False) H v d:=by
 rcases h with h | ⟨a,e,_,h⟩
 ·exact h.cJ λ_ z=>z.elim
 ·subst e
  exact (h.cJ (O':=λ_=>False) λ_ z=>z.elim).dv id
theorem DWs.any:∀{vs:List V} {ds:List D},DWs G O H vs ds->DVs G (λ_=>False) H vs ds
 |_,_,.nil=>.nil
 |_,_,.cons h hs=>.cons h.any (DWs.any hs)
end
section
variable {G:Gx}{O:Addr->Prop}{H:Hp}{v:V}
theorem yH (h:DW G O H v .non):v=.non:=by
 rcases h with h | ⟨_,_,_,h⟩
 ·cases h;rfl
 ·exact h.elim
theorem zf {b:Bool}(h:DW G O H v (.bl b)):v=.bl b:=by
 rcases h with h | ⟨_,_,_,h⟩
 ·cases h;rfl
 ·exact h.elim
theorem dU {i:Int}(h:DW G O H v (.int i)):v=.int i:=by
 rcases h with h | ⟨_,_,_,h⟩
 ·cases h;rfl
 ·exact h.elim
theorem um {x:Str}(h:DW G O H v (.str x)):v=.str x:=by
 rcases h with h | ⟨_,_,_,h⟩
 ·cases h;rfl
 ·exact h.elim
theorem uX {ds:List D}(h:DW G O H v (.tup ds)):∃a xs,v=.ref a/\SqT G.K H a xs/\DVs G O H xs ds:=by
 rcases h with h | ⟨_,_,_,h⟩
 ·cases h with
  |tup h hs=>exact ⟨_,_,rfl,h.sq,hs⟩
 ·exact h.elim
theorem Mw {ds:List D}(h:DW G O H v (.tup ds)):∃a xs,v=.ref a/\SqU G.K H a xs/\DVs G O H xs ds:=by
 rcases h with h | ⟨_,_,_,h⟩
 ·cases h with
  |tup h hs=>exact ⟨_,_,rfl,h,hs⟩
 ·exact h.elim
theorem oF {ds:List D}(h:DW G O H v (.lst ds)):∃a xs,v=.ref a/\SqL G.K H a xs/\DVs G O H xs ds:=by
 rcases h with h | ⟨a,e,_,h⟩
 ·cases h with
  |lst h hs=>exact ⟨_,_,rfl,h.sq,hs⟩
 ·obtain ⟨xs,e',hs⟩:=h
  exact ⟨a,xs,e,.inl (.inl e'),hs⟩
theorem Xl {ks:List Key}{ds:List D}(h:DW G O H v (.dct ks ds)):∃a kvs vs,v=.ref a/\H a=some (.dK kvs)/\kvs.map (·.1)=ks/\kvs.map (·.2)=vs/\DVs G O H vs ds:=by
 rcases h with h | ⟨a,e,_,h⟩
 ·cases h with
  |dct n e a b hs=>exact ⟨_,_,_,rfl,e,a,b,hs⟩
 ·obtain ⟨k,w,e',a1,a2,hs⟩:=h
  exact ⟨a,k,w,e,e',a1,a2,hs⟩
theorem cH:∀{vs:List V} {ds:List D},DVs G O H vs ds->vs.length=ds.length
 |_,_,.nil=>rfl
 |_,_,.cons _ hs=>by rw [List.length_cons,List.length_cons,cH hs]
theorem qY:∀{vs us:List V} {ds es:List D},DVs G O H vs ds->DVs G O H us es->DVs G O H (vs++us) (ds++es)
 |_,_,_,_,.nil,h=>h
 |_,_,_,_,.cons a t,h=>.cons a (qY t h)
theorem t7:∀{vs:List V} {ds:List D} {i:Nat} {x:V},DVs G O H vs ds->vs[i]? = some x->∃d,ds[i]? = some d/\DV G O H x d
 |_,_,_,_,.nil,e=>by simp at e
 |_,_,0,_,.cons a _,e=>by simp at e;subst e;exact ⟨_,rfl,a⟩
 |_,_,i+1,x,.cons _ t,e=>by
  obtain ⟨d,h1,h2⟩:=t7 (i:=i) (x:=x) t (by simpa using e)
  exact ⟨d,by simpa using h1,h2⟩
theorem yz:∀{vs:List V} {ds:List D} {i:Nat} {d:D},DVs G O H vs ds->ds[i]? = some d->∃x,vs[i]? = some x/\DV G O H x d
 |_,_,_,_,.nil,e=>by simp at e
 |_,_,0,_,.cons a _,e=>by simp at e;subst e;exact ⟨_,rfl,a⟩
 |_,_,i+1,d,.cons _ t,e=>by
  obtain ⟨x,h1,h2⟩:=yz (i:=i) (d:=d) t (by simpa using e)
  exact ⟨x,by simpa using h1,h2⟩
theorem Ik:∀{vs:List V} {ds:List D} (n:Nat),DVs G O H vs ds->DVs G O H (vs.take n) (ds.take n)
 |_,_,0,_=>by simp only [List.take_zero];exact .nil
 |_,_,_+1,.nil=>.nil
 |_,_,n+1,.cons a t=>.cons a (Ik n t)
theorem Ij:∀{vs:List V} {ds:List D} (n:Nat),DVs G O H vs ds->DVs G O H (vs.drop n) (ds.drop n)
 |_,_,0,h=>h
 |_,_,_+1,.nil=>.nil
 |_,_,n+1,.cons _ t=>Ij n t
theorem MF:∀{vs:List V} {ds:List D},DVs G O H vs ds->DVs G O H vs.reverse ds.reverse
 |_,_,.nil=>.nil
 |_,_,.cons a t=>by rw [List.reverse_cons,List.reverse_cons];exact qY (MF t) (.cons a .nil)
def flat:D->Bool
 | .non | .bl _ | .int _ | .str _=>true
 |_=>false
theorem DV.flat {O':Addr->Prop}{H':Hp}{d:D}(f:flat d=true)(h:DV G O H v d):DV G O' H' v d:=by
 cases h with
 |non=>exact .non
 |bl b=>exact .bl b
 |int i=>exact .int i
 |str x=>exact .str x
 |_=>cases f
end
inductive Sl where
  |un | fz (d:D) | ow (d:D) | io (d:D) | bw (d:D)
  |hd (w:Bool) (a:Addr) (d:D)
abbrev Me:=List Sl
abbrev Os:=Nat->Option Addr
def Ow (O0:Addr->Prop)(ow:Os):Addr->Prop:=λb=>O0 b\/∃i,ow i=some b
def Op (O:Addr->Prop)(p:Addr):Addr->Prop:=λb=>O b\/b=p
def owS (ow:Os)(i:Nat)(x:Option Addr):Os:=λj=>if j=i then x else ow j
theorem fV {ow:Os}{i:Nat}{x:Option Addr}:owS ow i x i=x:=by unfold owS;rw [if_pos rfl]
theorem fU {ow:Os}{i j:Nat}{x:Option Addr}(h:j≠i):owS ow i x j=ow j:=by unfold owS;rw [if_neg h]
def Ie (G:Gx)(O M0:Addr->Prop)(H0:Hp)(oi:Option Addr)(v:Option (Option V))(H:Hp):Sl->Prop
 | .un=>oi=none
 | .fz d=>oi=none/\∃x,v=some (some x)/\DV G O H x d
 | .ow d=>∃a,oi=some a/\H0 a=none/\v=some (some (.ref a))/\OV G O H a d
 | .io d=>∃a,oi=some a/\M0 a/\v=some (some (.ref a))/\OV G O H a d
 | .bw d=>oi=none/\∃x,v=some (some x)/\DW G O H x d
 | .hd w a d=>oi=some a/\(w=true->H0 a=none)/\(w=false->M0 a)/\OV G O H a d
structure Rel (G:Gx)(O0 M0:Addr->Prop)(H0:Hp)(ow:Os)(σ:L2.St)(H:Hp)(m:Me):Prop where
 len:σ.length=m.length
 keep:Kp M0 H0 H
 m0:∀b,M0 b->H b≠none
 mutk:∀b,Ow O0 ow b->fP (H b)
 no0:∀i a,ow i=some a->¬O0 a
 inj:∀i j a,ow i=some a->ow j=some a->i=j
 out:∀i,m.length<=i->ow i=none
 slot:∀i s,m[i]? = some s->Ie G (Ow O0 ow) M0 H0 (ow i) (σ[i]?) H s
structure du (G:Gx)(O0 M0:Addr->Prop)(H0:Hp)(ow:Os)(σ:L2.St)(H:Hp)(m:Me):Prop extends Rel G O0 M0 H0 ow σ H m where
 nb:∀(j:Nat) (d:D),m[j]?≠some (Sl.bw d)
structure Go (O0:Addr->Prop)(ow:Os)(H:Hp)(ow':Os)(H':Hp):Prop where
 keep:Kp (Ow O0 ow) H H'
 new:∀i a,ow' i=some a->Ow O0 ow a\/H a=none
 dom:∀b,H b≠none->H' b≠none
theorem Go.refl {O0:Addr->Prop}{ow:Os}{H H':Hp}(g:aL H H'):Go O0 ow H ow H':=
 ⟨.of g,λi a e=>.inl (.inr ⟨i,e⟩),λb n z=>by
  cases q:H b with
  |none=>exact n q
  |some o=>rw [g b o q] at z;cases z⟩
theorem Go.trans {O0:Addr->Prop}{ow ow1 ow2:Os}{H H1 H2:Hp}(a:Go O0 ow H ow1 H1)(b:Go O0 ow1 H1 ow2 H2):Go O0 ow H ow2 H2 where
 keep:=λc o e n=>b.keep c o (a.keep c o e n) λz=>by
  rcases z with z | ⟨i,z⟩
  ·exact n (.inl z)
  ·rcases a.new i c z with y | y
   ·exact n y
   ·rw [y] at e;cases e
 new:=λi c e=>by
  rcases b.new i c e with (z | ⟨j,z⟩) | z
  ·exact .inl (.inl z)
  ·exact a.new j c z
  ·refine .inr ?_
   cases q:H c with
   |none=>rfl
   |some o=>exact absurd z (a.dom c (by rw [q];simp))
 dom:=λc n=>b.dom c (a.dom c n)
theorem Go.ev {O0:Addr->Prop}{ow ow':Os}{H H':Hp}(g:Go O0 ow H ow' H'):Ev (Ow O0 ow) H (Ow O0 ow') H':=
 ⟨λb z=>z.elim (λz=>.inl (.inl z)) λ⟨i,e⟩=>g.new i b e,g.keep⟩
theorem vH (O:Addr->Prop):Ow O (λ_=>none)=O:=by
 funext b
 exact propext ⟨λz=>z.elim id λ⟨_,e⟩=>(by cases e),Or.inl⟩
section
variable {G:Gx}{O0 M0:Addr->Prop}{H0 H H':Hp}{ow:Os}{σ:L2.St}{m:Me}
theorem Ie.mono {O:Addr->Prop}{oi:Option Addr}{v:Option (Option V)}{s:Sl}(g:aL H H')(h:Ie G O M0 H0 oi v H s):Ie G O M0 H0 oi v H' s:=by
 cases s with
 |un=>exact h
 |fz d=>obtain ⟨a,x,e,q⟩:=h;exact ⟨a,x,e,q.mono g⟩
 |ow d=>obtain ⟨a,x,e,f,q⟩:=h;exact ⟨a,x,e,f,q.mono g⟩
 |io d=>obtain ⟨a,x,e,f,q⟩:=h;exact ⟨a,x,e,f,q.mono g⟩
 |bw d=>obtain ⟨a,x,e,q⟩:=h;exact ⟨a,x,e,q.mono g⟩
 |hd w a d=>obtain ⟨x,e,f,q⟩:=h;exact ⟨x,e,f,q.mono g⟩
theorem kZ {b:Addr}(g:aL H H')(h:fP (H b)):fP (H' b):=by
 rcases h with ⟨x,e⟩ | ⟨x,e⟩ | ⟨x,e⟩ | ⟨x,e⟩
 ·exact .inl ⟨x,g _ _ e⟩
 ·exact .inr (.inl ⟨x,g _ _ e⟩)
 ·exact .inr (.inr (.inl ⟨x,g _ _ e⟩))
 ·exact .inr (.inr (.inr ⟨x,g _ _ e⟩))
theorem Rel.mono (R:Rel G O0 M0 H0 ow σ H m)(g:aL H H'):Rel G O0 M0 H0 ow σ H' m:=
 ⟨R.len,λb o e n=>g b o (R.keep b o e n),λb z q=>R.m0 b z (aL.free g q),λb z=>kZ g (R.mutk b z),R.no0,R.inj,R.out,λi s e=>(R.slot i s e).mono g⟩
theorem Ie.cJ {O O':Addr->Prop}{oi:Option Addr}{v:Option (Option V)}{s:Sl}(sub:∀b,O' b->O b\/H b=none)(h:Ie G O M0 H0 oi v H s)(hb:∀d,s=.bw d->∀b,O b->O' b\/¬O' b):Ie G O' M0 H0 oi v H s:=by
 cases s with
 |un=>exact h
 |fz d=>obtain ⟨a,x,e,q⟩:=h;exact ⟨a,x,e,q.cJ sub⟩
 |ow d=>obtain ⟨a,x,e,f,q⟩:=h;exact ⟨a,x,e,f,q.cJ sub⟩
 |io d=>obtain ⟨a,x,e,f,q⟩:=h;exact ⟨a,x,e,f,q.cJ sub⟩
 |bw d=>
  obtain ⟨a,x,e,q⟩:=h
  refine ⟨a,x,e,?_⟩
  rcases q with q | ⟨b,e1,o,q⟩
  ·exact .inl (q.cJ sub)
  ·rcases hb d rfl b o with w | w
   ·exact .inr ⟨b,e1,w,q.cJ sub⟩
   ·subst e1
    exact .inl ((q.cJ sub).dv w)
 |hd w a d=>obtain ⟨x,e,f,q⟩:=h;exact ⟨x,e,f,q.cJ sub⟩
theorem Ow.sub {i:Nat}{b:Addr}(z:Ow O0 (owS ow i none) b):Ow O0 ow b:=by
 rcases z with z | ⟨j,e⟩
 ·exact .inl z
 ·by_cases q:j=i
  ·subst q;rw [fV] at e;cases e
  ·rw [fU q] at e;exact .inr ⟨j,e⟩
theorem rP {α:Type}{l:List α}{i:Nat}{x:α}(e:l[i]? = some x):i<l.length:=(List.getElem?_eq_some_iff.mp e).1
theorem Rel.set {i:Nat}{v:V}{d:D}(R:Rel G O0 M0 H0 ow σ H m)(h:DV G (Ow O0 ow) H v d):
  Rel G O0 M0 H0 (owS ow i none) (σ.set i (some v)) H (m.set i (.fz d)):=by
 have sub:∀b,Ow O0 (owS ow i none) b->Ow O0 ow b\/H b=none:=λb z=>.inl z.sub
 refine ⟨by simp [R.len],R.keep,R.m0,λb z=>R.mutk b z.sub,λj a e=>?_,λj k a e1 e2=>?_,λj hj=>?_,λj s e=>?_⟩
 ·by_cases q:j=i
  ·subst q;rw [fV] at e;cases e
  ·rw [fU q] at e;exact R.no0 j a e
 ·by_cases q:j=i
  ·subst q;rw [fV] at e1;cases e1
  ·by_cases q':k=i
   ·subst q';rw [fV] at e2;cases e2
   ·rw [fU q] at e1;rw [fU q'] at e2;exact R.inj j k a e1 e2
 ·by_cases q:j=i
  ·subst q;exact fV
  ·rw [fU q];exact R.out j (by simpa using hj)
 ·by_cases q:j=i
  ·subst q
   have hj:j<m.length:=by simpa using rP e
   rw [List.getElem?_set_self hj] at e
   cases e
   rw [fV,List.getElem?_set_self (by rw [R.len];exact hj)]
   exact ⟨rfl,v,rfl,h.cJ sub⟩
  ·rw [List.getElem?_set_ne (Ne.symm q)] at e
   rw [fU q,List.getElem?_set_ne (Ne.symm q)]
   exact (R.slot j s e).cJ sub λ_ _ b _=>Classical.em _
theorem Go.set {i:Nat}:Go O0 ow H (owS ow i none) H:=
 ⟨λ_ _ e _=>e,λj a e=>.inl (by
  by_cases q:j=i
  ·subst q;rw [fV] at e;cases e
  ·rw [fU q] at e;exact .inr ⟨j,e⟩),λ_ n=>n⟩
theorem Rel.Cg (R:Rel G O0 M0 H0 ow σ H m){p:Addr}(n:H p=none):H0 p=none:=by
 cases q:H0 p with
 |none=>rfl
 |some o=>
  by_cases z:M0 p
  ·exact absurd n (R.m0 p z)
  ·rw [R.keep p o q z] at n;cases n
theorem Rel.zm (R:Rel G O0 M0 H0 ow σ H m){p:Addr}(n:H p=none):¬Ow O0 ow p:=λz=>by
 have:=R.mutk p z
 rw [n] at this
 rcases this with ⟨_,e⟩ | ⟨_,e⟩ | ⟨_,e⟩ | ⟨_,e⟩<;>cases e
theorem Ow.new {i:Nat}{b p:Addr}(z:Ow O0 (owS ow i (some p)) b):Ow O0 ow b\/b=p:=by
 rcases z with z | ⟨j,e⟩
 ·exact .inl (.inl z)
 ·by_cases q:j=i
  ·subst q;rw [fV] at e;cases e;exact .inr rfl
  ·rw [fU q] at e;exact .inl (.inr ⟨j,e⟩)
theorem Rel.own {i:Nat}{p:Addr}{d:D}(R:Rel G O0 M0 H0 ow σ H m)(g:aL H H')(n:H p=none)(n0:H0 p=none)(h:OV G (Op (Ow O0 ow) p) H' p d)(hi:i<m.length):
  Rel G O0 M0 H0 (owS ow i (some p)) (σ.set i (some (.ref p))) H' (m.set i (.ow d)):=by
 have np:=R.zm n
 have sub:∀b,Ow O0 (owS ow i (some p)) b->Ow O0 ow b\/H b=none:=λb z=>z.new.elim .inl λe=>.inr (by rw [e];exact n)
 refine ⟨by simp [R.len],(R.mono g).keep,(R.mono g).m0,λb z=>?_,λj a e=>?_,λj k a e1 e2=>?_,λj hj=>?_,λj s e=>?_⟩
 ·rcases z.new with z | z
  ·exact (R.mono g).mutk b z
  ·rw [z];exact h.mut
 ·by_cases q:j=i
  ·subst q;rw [fV] at e;cases e;exact λz=>np (.inl z)
  ·rw [fU q] at e;exact R.no0 j a e
 ·by_cases q:j=i
  ·subst q
   rw [fV] at e1
   cases e1
   by_cases q':k=j
   ·exact q'.symm
   ·rw [fU q'] at e2;exact absurd (.inr ⟨k,e2⟩) np
  ·rw [fU q] at e1
   by_cases q':k=i
   ·subst q';rw [fV] at e2;cases e2;exact absurd (.inr ⟨j,e1⟩) np
   ·rw [fU q'] at e2;exact R.inj j k a e1 e2
 ·have hj':m.length<=j:=by simpa using hj
  rw [fU (by omega)]
  exact R.out j hj'
 ·by_cases q:j=i
  ·subst q
   rw [List.getElem?_set_self hi] at e
   cases e
   rw [fV,List.getElem?_set_self (by rw [R.len];exact hi)]
   exact ⟨p,rfl,n0,rfl,h.cJ λb z=>.inl (z.new.elim .inl .inr)⟩
  ·rw [List.getElem?_set_ne (Ne.symm q)] at e
   rw [fU q,List.getElem?_set_ne (Ne.symm q)]
   exact ((R.slot j s e).cJ sub λ_ _ b _=>Classical.em _).mono g
theorem Go.own {i:Nat}{p:Addr}(g:aL H H')(n:H p=none):Go O0 ow H (owS ow i (some p)) H':=
 ⟨.of g,λj a e=>by
  by_cases q:j=i
  ·subst q;rw [fV] at e;cases e;exact .inr n
  ·rw [fU q] at e;exact .inl (.inr ⟨j,e⟩),(Go.refl (O0:=O0) (ow:=ow) g).dom⟩
theorem Br {i:Nat}{s:Sl}(nb:∀(j:Nat) (d:D),m[j]?≠some (Sl.bw d))(hs:∀d,s≠.bw d):∀(j:Nat) (d:D),(m.set i s)[j]?≠some (Sl.bw d):=λj d e=>by
 by_cases q:j=i
 ·subst q
  have hj:j<m.length:=by simpa using rP e
  rw [List.getElem?_set_self hj] at e
  exact hs d (Option.some.inj e)
 ·rw [List.getElem?_set_ne (Ne.symm q)] at e
  exact nb j d e
theorem du.mono (R:du G O0 M0 H0 ow σ H m)(g:aL H H'):du G O0 M0 H0 ow σ H' m:=⟨R.toRel.mono g,R.nb⟩
theorem du.set {i:Nat}{v:V}{d:D}(R:du G O0 M0 H0 ow σ H m)(h:DV G (Ow O0 ow) H v d):du G O0 M0 H0 (owS ow i none) (σ.set i (some v)) H (m.set i (.fz d)):=
 ⟨R.toRel.set h,Br R.nb λ_ z=>by cases z⟩
theorem du.own {i:Nat}{p:Addr}{d:D}(R:du G O0 M0 H0 ow σ H m)(g:aL H H')(n:H p=none)(n0:H0 p=none)(h:OV G (Op (Ow O0 ow) p) H' p d)(hi:i<m.length):
  du G O0 M0 H0 (owS ow i (some p)) (σ.set i (some (.ref p))) H' (m.set i (.ow d)):=⟨R.toRel.own g n n0 h hi,Br R.nb λ_ z=>by cases z⟩
def Sl.let:Sl->Sl
 | .ow d=>.fz d
 |s=>s
def Me.let (m:Me):Me:=m.map Sl.let
theorem du.let (R:du G O0 M0 H0 ow σ H m):∃ow',du G O0 M0 H0 ow' σ H m.let/\Go O0 ow H ow' H:=by
 let ow':Os:=λi=>match m[i]? with
  |some (.io _)=>ow i
  |some (.hd _ _ _)=>ow i
  |_=>none
 have le:∀i a,ow' i=some a->ow i=some a/\∀d,m[i]?≠some (.ow d):=λi a e=>by
  simp only [ow'] at e
  split at e
  ·rename_i d q;exact ⟨e,λd z=>by rw [q] at z;cases z⟩
  ·rename_i w b d q;exact ⟨e,λd z=>by rw [q] at z;cases z⟩
  ·cases e
 have sub:∀b,Ow O0 ow' b->Ow O0 ow b\/H b=none:=λb z=>.inl (z.elim .inl λ⟨i,e⟩=>.inr ⟨i,(le i b e).1⟩)
 refine ⟨ow',⟨⟨by simp [Me.let,R.len],R.keep,R.m0,λb z=>?_,λi a e=>R.no0 i a (le i a e).1,λi j a e1 e2=>R.inj i j a (le i a e1).1 (le j a e2).1,λi hi=>?_,λi s e=>?_⟩,λj d e=>?_⟩,λb o e n=>e,λi a e=>.inl (.inr ⟨i,(le i a e).1⟩),λ_ n=>n⟩
 ·exact R.mutk b (z.elim .inl λ⟨i,e⟩=>.inr ⟨i,(le i b e).1⟩)
 ·have hi':m.length<=i:=by simpa [Me.let] using hi
  simp only [ow']
  rw [List.getElem?_eq_none hi']
 ·unfold Me.let at e
  rw [List.getElem?_map] at e
  cases q:m[i]? with
  |none=>rw [q] at e;cases e
  |some s0=>
   rw [q] at e
   cases e
   have z:=R.slot i s0 q
   cases s0 with
   |un=>exact (show ow' i=none by simp only [ow',q])
   |fz d=>obtain ⟨_,x,e,h⟩:=z;exact ⟨(show ow' i=none by simp only [ow',q]),x,e,h.cJ sub⟩
   |ow d=>
    obtain ⟨a,e1,e2,e3,h⟩:=z
    refine ⟨(show ow' i=none by simp only [ow',q]),.ref a,e3,(h.cJ sub).dv λw=>?_⟩
    rcases w with w | ⟨j,w⟩
    ·exact R.no0 i a e1 w
    ·obtain ⟨w1,w2⟩:=le j a w
     have:=R.inj i j a e1 w1
     subst this
     exact w2 d q
   |io d=>
    obtain ⟨a,e1,e2,e3,h⟩:=z
    exact ⟨a,(show ow' i=some a by simp only [ow',q];exact e1),e2,e3,h.cJ sub⟩
   |bw d=>exact (R.nb i d q).elim
   |hd w a d=>
    obtain ⟨e1,e2,e3,h⟩:=z
    exact ⟨(show ow' i=some a by simp only [ow',q];exact e1),e2,e3,h.cJ sub⟩
 ·unfold Me.let at e
  rw [List.getElem?_map] at e
  cases q:m[j]? with
  |none=>rw [q] at e;cases e
  |some s0=>
   rw [q] at e
   cases s0 with
   |bw d'=>exact R.nb j d' q
   |_=>cases e
end
def Pu (G:Gx)(E:XK){α:Type}(r:Res α)(H:Hp)(k:α->Prop):Prop:=match r with
 | .ok a=>k a
 | .exc c=>∀C H',G.mg c=some (.ref C)->aL H H'->E (.ref C) none H'
 | .stuck=>False
theorem Pu.bind {G:Gx}{E:XK}{α β:Type}{r:Res α}{f:α->Res β}{H:Hp}{k:β->Prop}(h:Pu G E (r.bind f) H k):Pu G E r H λa=>Pu G E (f a) H k:=by
 cases r with
 |ok a=>exact h
 |exc c=>exact h
 |stuck=>exact h
theorem Pu.imp {G:Gx}{E:XK}{α:Type}{r:Res α}{H H':Hp}{k k':α->Prop}(h:Pu G E r H k)(g:aL H H')(hk:∀a,k a->k' a):Pu G E r H' k':=by
 cases r with
 |ok a=>exact hk a h
 |exc c=>exact λC H1 e g1=>h C H1 e (g.trans g1)
 |stuck=>exact h
theorem Pu.ofO {G:Gx}{E:XK}{α:Type}{r:Option α}{H:Hp}{k:α->Prop}(h:Pu G E (ofO r) H k):∃a,r=some a/\k a:=by
 cases r with
 |some a=>exact ⟨a,rfl,h⟩
 |none=>exact h.elim
def tE (G:Gx)(E:XK)(f:Me->Res D):TE:=λσ H Q=>∃O0 M0 H0 ow m,Rel G O0 M0 H0 ow σ H m/\Pu G E (f m) H λd=>∀v H',aL H H'->DV G (Ow O0 ow) H' v d->Q v H'
def tB (G:Gx)(E:XK)(f:Me->Res D):TE:=λσ H Q=>∃O0 M0 H0 ow m,Rel G O0 M0 H0 ow σ H m/\Pu G E (f m) H λd=>∀v H',aL H H'->DW G (Ow O0 ow) H' v d->Q v H'
def tN (G:Gx)(E:XK)(f:Me->Res D):TE:=λσ H Q=>∃O0 M0 H0 ow m,Rel G O0 M0 H0 ow σ H m/\Pu G E (f m) H λd=>∀p H',aL H H'->H p=none->OV G (Op (Ow O0 ow) p) H' p d->Q (.ref p) H'
def tT (G:Gx)(E:XK)(f:Me->Res Bool):TT:=λσ H Q=>∃O0 M0 H0 ow m,Rel G O0 M0 H0 ow σ H m/\Pu G E (f m) H λb=>∀H',aL H H'->Q b H'
def tAE (G:Gx)(E:XK)(f:Me->Res (List D)):TA:=λσ H Q=>∃O0 M0 H0 ow m,Rel G O0 M0 H0 ow σ H m/\Pu G E (f m) H λds=>∀vs H',aL H H'->DVs G (Ow O0 ow) H' vs ds->Q vs H'
def tAB (G:Gx)(E:XK)(f:Me->Res (List D)):TA:=λσ H Q=>∃O0 M0 H0 ow m,Rel G O0 M0 H0 ow σ H m/\Pu G E (f m) H λds=>∀vs H',aL H H'->DWs G (Ow O0 ow) H' vs ds->Q vs H'
abbrev FE (X:Cx)(E:XK)(e:Expr)(f:Me->Res D):Prop:=PE X e (tE (gx X) E f)
abbrev FB (X:Cx)(E:XK)(e:Expr)(f:Me->Res D):Prop:=PE X e (tB (gx X) E f)
abbrev FN (X:Cx)(E:XK)(e:Expr)(f:Me->Res D):Prop:=PE X e (tN (gx X) E f)
abbrev FT (X:Cx)(E:XK)(e:Expr)(f:Me->Res Bool):Prop:=PT X e (tT (gx X) E f)
abbrev FW (X:Cx)(E:XK)(e:Expr)(f:Me->Res Bool):Prop:=PW X e (tT (gx X) E f)
abbrev FAE (X:Cx)(E:XK)(es:List Expr)(f:Me->Res (List D)):Prop:=PA X es (tAE (gx X) E f)
abbrev FAB (X:Cx)(E:XK)(es:List Expr)(f:Me->Res (List D)):Prop:=PA X es (tAB (gx X) E f)
theorem Ep {X:Cx}{e:Expr}{T T':TT}(h:PT X e T)(k:∀σ H Q,T' σ H Q->T σ H Q):PT X e T':=λpins s σ H Q I q=>h pins s σ H Q I (k σ H Q q)
theorem Lx {X:Cx}{e:Expr}{T T':TT}(h:PW X e T)(k:∀σ H Q,T' σ H Q->T σ H Q):PW X e T':=λwh pins s σ H Q I q=>h wh pins s σ H Q I (k σ H Q q)
theorem nF {X:Cx}{es:List Expr}{T T':TA}(h:PA X es T)(k:∀σ H Q,T' σ H Q->T σ H Q):PA X es T':=λpos pins s σ H Q I q=>h pos pins s σ H Q I (k σ H Q q)
section
variable {X:Cx}{E:XK}{e a b c:Expr}{es:List Expr}{f fa fb fc:Me->Res D}{fs:Me->Res (List D)}{ft fu:Me->Res Bool}{pos:Pos}
theorem aq (h:FE X E e f):FB X E e f:=cF h λ_ _ _ hE=>xq5 hE λO0 M0 H0 ow m R q=>⟨O0,M0,H0,ow,m,R,q.imp (aL.refl _) λ_ k v H' g d=>k v H' g (.inl d)⟩
theorem d8 (h:FN X E e f):FE X E e f:=cF h λ_ _ _ hE=>xq5 hE λO0 M0 H0 ow m R q=>⟨O0,M0,H0,ow,m,R,q.imp (aL.refl _) λ_ k p H' g n o=>
 k _ H' g ((o.cJ λb z=>.inl (.inl z)).dv (R.zm n))⟩
def aD (i:Nat):Me->Res D:=λm=>match m[i]? with
 |some (.fz d)=>.ok d
 |_=>.stuck
def aj (i:Nat):Me->Res D:=λm=>match m[i]? with
 |some (.fz d)=>.ok d
 |some (.ow d)=>.ok d
 |some (.io d)=>.ok d
 |some (.bw d)=>.ok d
 |_=>.stuck
theorem aH (i:Nat){x:Str}(hN:X.N[i]? = some x:=by rfl)(hv:Vis X.env.scope x:=by first | exact Or.inl rfl | exact Or.inr (Or.inl rfl) | exact Or.inr (Or.inr rfl))(hd:(x == ("__debug__" : Str))=false:=by decide)
  (hcd:(x == ("__classdict__" : Str))=false:=by decide):FE X E (.Name x pos) (aD i):=cF (jP hN hv hd hcd) λσ H Q hE=>xq5 hE λO0 M0 H0 ow m R q=>by
 unfold aD at q
 cases e:m[i]? with
 |none=>rw [e] at q;exact q.elim
 |some s=>
  rw [e] at q
  cases s with
  |fz d=>
   obtain ⟨_,x,h1,h2⟩:=R.slot i _ e
   exact ⟨x,h1,q x H (aL.refl _) h2⟩
  |_=>exact q.elim
theorem ao (i:Nat){x:Str}(hN:X.N[i]? = some x:=by rfl)(hv:Vis X.env.scope x:=by first | exact Or.inl rfl | exact Or.inr (Or.inl rfl) | exact Or.inr (Or.inr rfl))(hd:(x == ("__debug__" : Str))=false:=by decide)
  (hcd:(x == ("__classdict__" : Str))=false:=by decide):FB X E (.Name x pos) (aj i):=cF (jP hN hv hd hcd) λσ H Q hE=>xq5 hE λO0 M0 H0 ow m R q=>by
 unfold aj at q
 cases e:m[i]? with
 |none=>rw [e] at q;exact q.elim
 |some s=>
  rw [e] at q
  cases s with
  |fz d=>
   obtain ⟨_,x,h1,h2⟩:=R.slot i _ e
   exact ⟨x,h1,q x H (aL.refl _) (.inl h2)⟩
  |bw d=>
   obtain ⟨_,x,h1,h2⟩:=R.slot i _ e
   exact ⟨x,h1,q x H (aL.refl _) h2⟩
  |ow d=>
   obtain ⟨a,h1,h2,h3,h4⟩:=R.slot i _ e
   exact ⟨_,h3,q _ H (aL.refl _) (.inr ⟨a,rfl,.inr ⟨i,h1⟩,h4⟩)⟩
  |io d=>
   obtain ⟨a,h1,h2,h3,h4⟩:=R.slot i _ e
   exact ⟨_,h3,q _ H (aL.refl _) (.inr ⟨a,rfl,.inr ⟨i,h1⟩,h4⟩)⟩
  |un=>exact q.elim
  |hd _ _ _=>exact q.elim
def fC (d:D):Me->Res D:=λ_=>.ok d
theorem Pn {d:D}{v:V}(h:PE X e (tC v))(hd:∀O H,DV (gx X) O H v d):FE X E e (fC d):=cF h λσ H Q hE=>xq5 hE λO0 M0 H0 ow m R q=>q v H (aL.refl _) (hd _ _)
theorem aB {i j pos}:FE X E (.Constant (.int i) j pos) (fC (.int i)):=Pn XC λ_ _=>.int i
theorem jG {b j pos}:FE X E (.Constant (.bool b) j pos) (fC (.bl b)):=Pn Z5 λ_ _=>.bl b
theorem rA {j pos}:FE X E (.Constant .none j pos) (fC .non):=Pn Xf λ_ _=>.non
theorem qG {x j pos}:FE X E (.Constant (.str x) j pos) (fC (.str x)):=Pn WD λ_ _=>.str x
theorem z7 {x:Str}{v:V}{u:Value}{d:D}(hg:Gl X x)(hm:X.mg x=some u)(r:RelV v u)(hd:∀O H,DV (gx X) O H v d)(hdb:(x == ("__debug__" : Str))=false:=by decide):FE X E (.Name x pos) (fC d):=Pn (Tz hg hm r hdb) hd
def rG (G:Gx)(g:D->D->Option D):R2:=λx y H Q=>∃O d e r,(∀b,O b->fP (H b))/\DW G O H x d/\DW G O H y e/\g d e=some r/\∀v H',aL H H'->DV G O H' v r->Q v H'
def rGB (G:Gx)(g:D->D->Option Bool):R2:=λx y H Q=>∃O d e r,(∀b,O b->fP (H b))/\DW G O H x d/\DW G O H y e/\g d e=some r/\Q (.bl r) H
def rG1 (G:Gx)(g:D->Option D):V->Hp->VK->Prop:=λx H Q=>∃O d r,(∀b,O b->fP (H b))/\DW G O H x d/\g d=some r/\∀v H',aL H H'->DV G O H' v r->Q v H'
def rGC (G:Gx)(g:List D->Option D):List V->Hp->VK->Prop:=λxs H Q=>∃O ds r,(∀b,O b->fP (H b))/\DWs G O H xs ds/\g ds=some r/\∀v H',aL H H'->DV G O H' v r->Q v H'
def Xo (G:Gx)(g:List D->Option D):List V->Hp->VK->Prop:=λxs H Q=>∃O ds r,(∀b,O b->fP (H b))/\DWs G O H xs ds/\g ds=some r/\∀p H',aL H H'->H p=none->OV G (Op O p) H' p r->Q (.ref p) H'
def aA (g:D->D->Option D)(fa fb:Me->Res D):Me->Res D:=λm=>(fa m).bind λx=>(fb m).bind λy=>ofO (g x y)
def iI (g:D->D->Option Bool)(fa fb:Me->Res D):Me->Res D:=λm=>(fa m).bind λx=>(fb m).bind λy=>ofO ((g x y).map D.bl)
def aQ (g:D->D->Option Bool)(fa fb:Me->Res D):Me->Res Bool:=λm=>(fa m).bind λx=>(fb m).bind λy=>ofO (g x y)
def fUn (g:D->Option D)(fa:Me->Res D):Me->Res D:=λm=>(fa m).bind λx=>ofO (g x)
theorem two {G:Gx}{σ:L2.St}{H:Hp}{Q:VK}{r:R2}{O0 M0:Addr->Prop}{H0:Hp}{ow:Os}{m:Me}{β:Type}{g:D->D->Res β}{K:β->Hp->Prop}(R:Rel G O0 M0 H0 ow σ H m)(h:Pu G E ((fa m).bind λx=>(fb m).bind λy=>g x y) H λz=>K z H)
  (hm:∀z H',K z H->aL H H'->K z H')
  (k:∀x y d e H',aL H H'->DW G (Ow O0 ow) H' x d->DW G (Ow O0 ow) H' y e->Pu G E (g d e) H' (λz=>K z H')->Rel G O0 M0 H0 ow σ H' m->r x y H' Q):tOp r (tB G E fa) (tB G E fb) σ H Q:=by
 refine ⟨O0,M0,H0,ow,m,R,h.bind.imp (aL.refl _) λd q x H1 g1 hx=>⟨O0,M0,H0,ow,m,R.mono g1,q.bind.imp g1 λe q2 y H2 g2 hy=>?_⟩⟩
 exact k x y d e H2 (g1.trans g2) (hx.mono g2) hy (q2.imp (g1.trans g2) λz kz=>hm z _ kz (g1.trans g2)) (R.mono (g1.trans g2))
theorem aV {g:D->D->Option D}{op:Operator}(ho:OpR X (binaryOp op) (rG (gx X) g))(ha:FB X E a fa)(hb:FB X E b fb):FE X E (.BinOp a op b pos) (aA g fa fb):=
 cF (VH ho ha hb) λσ H Q hE=>xq5 hE λO0 M0 H0 ow m R q=>two R (K:=λz H=>∀v H',aL H H'->DV (gx X) (Ow O0 ow) H' v z->Q v H') q (λ_ _ k g v H' g' d=>k v H' (g.trans g') d) λx y d e H' g hx hy q' R'=>by
  obtain ⟨r,hr,k⟩:=q'.ofO
  exact ⟨_,d,e,r,R'.mutk,hx,hy,hr,k⟩
theorem aR {g:D->D->Option D}(ho:IxR X (rG (gx X) g))(ha:FB X E a fa)(hb:FB X E b fb)(hs:Lr b):FE X E (.Subscript a b pos) (aA g fa fb):=
 cF (Yw ho ha hb hs) λσ H Q hE=>xq5 hE λO0 M0 H0 ow m R q=>two R (K:=λz H=>∀v H',aL H H'->DV (gx X) (Ow O0 ow) H' v z->Q v H') q (λ_ _ k g v H' g' d=>k v H' (g.trans g') d) λx y d e H' g hx hy q' R'=>by
  obtain ⟨r,hr,k⟩:=q'.ofO
  exact ⟨_,d,e,r,R'.mutk,hx,hy,hr,k⟩
theorem omap {α β:Type}{o:Option α}{f:α->β}{r:β}(h:o.map f=some r):∃a,o=some a/\f a=r:=by
 cases o with
 |none=>cases h
 |some a=>exact ⟨a,rfl,Option.some.inj h⟩
theorem lC {g:D->D->Option Bool}{op:CmpOp}(ho:OpR X (compareOp op) (rGB (gx X) g))(ha:FB X E a fa)(hb:FB X E b fb)(hm:behindInMarks op b=false):FE X E (.Compare a [op] [b] pos) (iI g fa fb):=
 cF (U6 ho ha hb hm) λσ H Q hE=>xq5 hE λO0 M0 H0 ow m R q=>two R (K:=λz H=>∀v H',aL H H'->DV (gx X) (Ow O0 ow) H' v z->Q v H') q (λ_ _ k g v H' g' d=>k v H' (g.trans g') d) λx y d e H' g hx hy q' R'=>by
  obtain ⟨r,hr,k⟩:=q'.ofO
  obtain ⟨c,hc,rfl⟩:=omap hr
  exact ⟨_,d,e,c,R'.mutk,hx,hy,hc,k _ _ (aL.refl _) (.bl c)⟩
theorem b7 {g:D->D->Option Bool}{op:CmpOp}(ho:OpR X (compareOp op) (rGB (gx X) g))(ha:FB X E a fa)(hb:FB X E b fb)(hm:behindInMarks op b=false):FT X E (.Compare a [op] [b] pos) (aQ g fa fb):=
 Ep (S8 ho ha hb hm) λσ H Q hE=>xq5 hE λO0 M0 H0 ow m R q=>two R (K:=λz H=>∀H',aL H H'->Q z H') q (λ_ _ k g H' g'=>k H' (g.trans g')) λx y d e H' g hx hy q' R'=>by
  obtain ⟨c,hc,k⟩:=q'.ofO
  exact ⟨_,d,e,c,R'.mutk,hx,hy,hc,c,rfl,k _ (aL.refl _)⟩
theorem vW {g:D->Option D}{op:UnaryOp}(ho:UnR X (unaryOp op) (rG1 (gx X) g))(ha:FB X E a fa):FE X E (.UnaryOp op a pos) (fUn g fa):=
 cF (Yz ho ha) λσ H Q hE=>xq5 hE λO0 M0 H0 ow m R q=>⟨O0,M0,H0,ow,m,R,q.bind.imp (aL.refl _) λd q x H1 g1 hx=>by
  obtain ⟨r,hr,k⟩:=q.ofO
  exact ⟨_,d,r,(R.mono g1).mutk,hx,hr,λv H' g d=>k v H' (g1.trans g) d⟩⟩
def fTv (fa:Me->Res D):Me->Res Bool:=λm=>(fa m).bind λx=>match x with
 | .bl b=>.ok b
 |_=>.stuck
theorem jf (h:FE X E e f)(he:∀whole,isTrue e X.env whole=(do let v ← whole;standAt e.pos;holding [v] (truthy v)):=by intro _;rfl):FT X E e (fTv f):=
 Ep (WX h he) λσ H Q hE=>xq5 hE λO0 M0 H0 ow m R q=>⟨O0,M0,H0,ow,m,R,q.bind.imp (aL.refl _) λd q v H' g hv=>by
  cases d with
  |bl b=>cases hv;exact ⟨b,rfl,q H' g⟩
  |_=>exact q.elim⟩
def iU (ft:Me->Res Bool):Me->Res Bool:=λm=>(ft m).bind λc=>.ok (!c)
def kW (ft fu:Me->Res Bool):Me->Res Bool:=λm=>(ft m).bind λc=>if c then fu m else .ok false
def oh (ft fu:Me->Res Bool):Me->Res Bool:=λm=>(ft m).bind λc=>if c then .ok true else fu m
theorem mF (h:FT X E a ft):FT X E (.UnaryOp .Not a pos) (iU ft):=Ep (X8 h) λσ H Q hE=>xq5 hE λO0 M0 H0 ow m R q=>⟨O0,M0,H0,ow,m,R,q.bind.imp (aL.refl _) λb q H' g=>q H' g⟩
theorem zR (h:FT X E a ft):FW X E (.BoolOp .And [a] pos) ft:=Vj h
theorem rY (h:FT X E a ft):FW X E (.BoolOp .Or [a] pos) ft:=Yr h
theorem GF (ha:FT X E a ft)(hb:FW X E (.BoolOp .And (b::es) pos) fu):FW X E (.BoolOp .And (a::b::es) pos) (kW ft fu):=
 Lx (XN ha hb) λσ H Q hE=>xq5 hE λO0 M0 H0 ow m R q=>⟨O0,M0,H0,ow,m,R,q.bind.imp (aL.refl _) λb q H' g=>by
  cases b with
  |true=>rw [if_pos rfl] at q ⊢;exact ⟨O0,M0,H0,ow,m,R.mono g,q.imp g λ_ k H1 g1=>k H1 (g.trans g1)⟩
  |false=>rw [if_neg Bool.false_ne_true] at q ⊢;exact q H' g⟩
theorem uz (ha:FT X E a ft)(hb:FW X E (.BoolOp .Or (b::es) pos) fu):FW X E (.BoolOp .Or (a::b::es) pos) (oh ft fu):=
 Lx (ZQ ha hb) λσ H Q hE=>xq5 hE λO0 M0 H0 ow m R q=>⟨O0,M0,H0,ow,m,R,q.bind.imp (aL.refl _) λb q H' g=>by
  cases b with
  |false=>rw [if_neg Bool.false_ne_true] at q ⊢;exact ⟨O0,M0,H0,ow,m,R.mono g,q.imp g λ_ k H1 g1=>k H1 (g.trans g1)⟩
  |true=>rw [if_pos rfl] at q ⊢;exact q H' g⟩
theorem yj (h:FW X E e ft):FT X E e ft:=L2.PW.pt h
def Fw (fa fb:Me->Res D):Me->Res D:=λm=>(fTv fa m).bind λc=>if c then fb m else .ok (.bl false)
def fOr (fa fb:Me->Res D):Me->Res D:=λm=>(fTv fa m).bind λc=>if c then .ok (.bl true) else fb m
theorem PN {G:Gx}{O:Addr->Prop}{m:Me}{H:Hp}{k:Bool->Prop}(h:Pu G E (fTv fa m) H k):Pu G E (fa m) H λd=>∃b,d=.bl b/\k b:=by
 refine h.bind.imp (aL.refl _) λd q=>?_
 cases d with
 |bl b=>exact ⟨b,rfl,q⟩
 |_=>exact q.elim
theorem J5 {op}(h:FE X E a fa):FE X E (.BoolOp op [a] pos) fa:=XX h
theorem Ja (ha:FE X E a fa)(hb:FE X E (.BoolOp .And (b::es) pos) fb):FE X E (.BoolOp .And (a::b::es) pos) (Fw fa fb):=
 cF (Xg ha hb) λσ H Q hE=>xq5 hE λO0 M0 H0 ow m R q=>⟨O0,M0,H0,ow,m,R,(PN (O:=O0) q.bind).imp (aL.refl _) λd ⟨b,e,q⟩ v H' g hv=>by
  subst e
  cases hv
  refine ⟨b,rfl,?_⟩
  cases b with
  |true=>rw [if_pos rfl] at q ⊢;exact ⟨O0,M0,H0,ow,m,R.mono g,q.imp g λ_ k v H1 g1=>k v H1 (g.trans g1)⟩
  |false=>rw [if_neg Bool.false_ne_true] at q ⊢;exact q _ H' g (.bl false)⟩
theorem Zy (ha:FE X E a fa)(hb:FE X E (.BoolOp .Or (b::es) pos) fb):FE X E (.BoolOp .Or (a::b::es) pos) (fOr fa fb):=
 cF (YC ha hb) λσ H Q hE=>xq5 hE λO0 M0 H0 ow m R q=>⟨O0,M0,H0,ow,m,R,(PN (O:=O0) q.bind).imp (aL.refl _) λd ⟨b,e,q⟩ v H' g hv=>by
  subst e
  cases hv
  refine ⟨b,rfl,?_⟩
  cases b with
  |false=>rw [if_neg Bool.false_ne_true] at q ⊢;exact ⟨O0,M0,H0,ow,m,R.mono g,q.imp g λ_ k v H1 g1=>k v H1 (g.trans g1)⟩
  |true=>rw [if_pos rfl] at q ⊢;exact q _ H' g (.bl true)⟩
def fIf (ft:Me->Res Bool)(fa fb:Me->Res D):Me->Res D:=λm=>(ft m).bind λc=>if c then fa m else fb m
theorem ZG (hc:FT X E c ft)(ha:FE X E a fa)(hb:FE X E b fb):FE X E (.IfExp c a b pos) (fIf ft fa fb):=
 cF (Py hc ha hb) λσ H Q hE=>xq5 hE λO0 M0 H0 ow m R q=>⟨O0,M0,H0,ow,m,R,q.bind.imp (aL.refl _) λb q H' g=>by
  cases b with
  |false=>rw [if_neg Bool.false_ne_true] at q ⊢;exact ⟨O0,M0,H0,ow,m,R.mono g,q.imp g λ_ k v H1 g1=>k v H1 (g.trans g1)⟩
  |true=>rw [if_pos rfl] at q ⊢;exact ⟨O0,M0,H0,ow,m,R.mono g,q.imp g λ_ k v H1 g1=>k v H1 (g.trans g1)⟩⟩
def az:Me->Res (List D):=λ_=>.ok []
def aa (fa:Me->Res D)(fs:Me->Res (List D)):Me->Res (List D):=λm=>(fa m).bind λx=>(fs m).bind λxs=>.ok (x::xs)
theorem aF:FAE X E [] az:=nF u5 λσ H Q hE=>xq5 hE λO0 M0 H0 ow m R q=>q [] H (aL.refl _) .nil
theorem aY:FAB X E [] az:=nF u5 λσ H Q hE=>xq5 hE λO0 M0 H0 ow m R q=>q [] H (aL.refl _) .nil
theorem ak (ha:FE X E e fa)(hr:FAE X E es fs)(hs:starEach (e::es) X.env=(false,eval e X.env)::starEach es X.env:=by rfl):FAE X E (e::es) (aa fa fs):=
 nF (lW ha hr hs) λσ H Q hE=>xq5 hE λO0 M0 H0 ow m R q=>⟨O0,M0,H0,ow,m,R,q.bind.imp (aL.refl _) λd q v H1 g1 hv=>⟨O0,M0,H0,ow,m,R.mono g1,q.bind.imp g1 λds q vs H2 g2 hvs=>q _ H2 (g1.trans g2) (.cons (hv.mono g2) hvs)⟩⟩
theorem aM (ha:FB X E e fa)(hr:FAB X E es fs)(hs:starEach (e::es) X.env=(false,eval e X.env)::starEach es X.env:=by rfl):FAB X E (e::es) (aa fa fs):=
 nF (lW ha hr hs) λσ H Q hE=>xq5 hE λO0 M0 H0 ow m R q=>⟨O0,M0,H0,ow,m,R,q.bind.imp (aL.refl _) λd q v H1 g1 hv=>⟨O0,M0,H0,ow,m,R.mono g1,q.bind.imp g1 λds q vs H2 g2 hvs=>q _ H2 (g1.trans g2) (.cons (hv.mono g2) hvs)⟩⟩
def gm (fs:Me->Res (List D)):Me->Res D:=λm=>(fs m).bind λds=>if ds.length<=sizeLine then .ok (.tup ds) else .stuck
def jr (fs:Me->Res (List D)):Me->Res D:=λm=>(fs m).bind λds=>if ds.length<=sizeLine then .ok (.lst ds) else .stuck
theorem xJ {G:Gx}{α:Type}{c:Prop}[Decidable c]{r:α}{H:Hp}{k:α->Prop}(h:Pu G E (if c then .ok r else .stuck) H k):c/\k r:=by
 by_cases z:c
 ·rw [if_pos z] at h;exact ⟨z,h⟩
 ·rw [if_neg z] at h;exact h.elim
theorem mV {x1}(h:FAE X E es fs):FE X E (.Tuple es x1 pos) (gm fs):=cF (K7 h) λσ H Q hE=>xq5 hE λO0 M0 H0 ow m R q=>⟨O0,M0,H0,ow,m,R,q.bind.imp (aL.refl _) λds q vs H1 g1 hv=>by
 obtain ⟨hz,k⟩:=xJ q
 exact ⟨by rw [cH hv];exact hz,λp H' g e=>k _ H' (g1.trans g) (.tup (SqU.of e) (hv.mono g))⟩⟩
theorem rn (h:FAE X E es fs):FN X E (.List es pos) (jr fs):=cF (XD (VP h)) λσ H Q hE=>xq5 hE λO0 M0 H0 ow m R q=>⟨λvs H1=>aL H H1/\∃ds,DVs (gx X) (Ow O0 ow) H1 vs ds/\ds.length<=sizeLine/\∀p H',aL H H'->H p=none->OV (gx X) (Op (Ow O0 ow) p) H' p (.lst ds)->Q (.ref p) H',⟨O0,M0,H0,ow,m,R,q.bind.imp (aL.refl _) λds q vs H1 g1 hv=>⟨g1,ds,hv,xJ q⟩⟩,λvs H1 ⟨g1,ds,hv,hz,k⟩=>
 ⟨by rw [cH hv];exact hz,λp hp=>k p _ (g1.trans (dG hp _)) (g1.free hp) ⟨vs,bY,(hv.cJ λb z=>z.elim .inl λe=>.inr (by rw [e];exact hp)).mono (dG hp _)⟩⟩⟩
def bJ (g:List D->Option D)(fs:Me->Res (List D)):Me->Res D:=λm=>(fs m).bind λds=>ofO (g ds)
theorem Ub {g:List D->Option D}{σ:L2.St}{H:Hp}{Q:VK}(h:tE (gx X) E (bJ g fs) σ H Q):tCB (rGC (gx X) g) (tAB (gx X) E fs) σ H Q:=by
 obtain ⟨O0,M0,H0,ow,m,R,q⟩:=h
 refine ⟨O0,M0,H0,ow,m,R,q.bind.imp (aL.refl _) λds q vs H1 g1 hv=>?_⟩
 obtain ⟨r,hr,k⟩:=q.ofO
 exact ⟨_,ds,r,(R.mono g1).mutk,hv,hr,λv H' g d=>k v H' (g1.trans g) d⟩
theorem Rq {g:List D->Option D}{σ:L2.St}{H:Hp}{Q:VK}(h:tN (gx X) E (bJ g fs) σ H Q):tCB (Xo (gx X) g) (tAB (gx X) E fs) σ H Q:=by
 obtain ⟨O0,M0,H0,ow,m,R,q⟩:=h
 refine ⟨O0,M0,H0,ow,m,R,q.bind.imp (aL.refl _) λds q vs H1 g1 hv=>?_⟩
 obtain ⟨r,hr,k⟩:=q.ofO
 exact ⟨_,ds,r,(R.mono g1).mutk,hv,hr,λp H' g n d=>k p H' (g1.trans g) (g1.free n) d⟩
section
variable {x:Str}{p:Pos}{id T:String}{g:List D->Option D}
theorem cQ (hc:qj X (.builtin id) (rGC (gx X) g))(hg:Gl X x)(hm:X.mg x=none)(hv:bootBuiltins x=some (.builtin id))(ha:FAB X E (e::es) fs)(hn:x≠"__name__":=by decide)(hdb:(x == ("__debug__" : Str))=false:=by decide)
  (he:starEach (e::es) X.env=(false,eval e X.env)::starEach es X.env:=by rfl) (hpl:(backTo pos (starEach es X.env)).any (·.1)=false:=by rfl):FE X E (.Call (.Name x p) (e::es) [] pos) (bJ g fs):=
 cF (An hc hg hm hv ha hn hdb he hpl) λ_ _ _ h=>Ub h
theorem sy (hc:qj X (.type T) (Xo (gx X) g))(hg:Gl X x)(hm:X.mg x=none)(hv:bootBuiltins x=some (.type T))(ha:FAB X E (e::es) fs)(hn:x≠"__name__":=by decide)(hdb:(x == ("__debug__" : Str))=false:=by decide)
  (he:starEach (e::es) X.env=(false,eval e X.env)::starEach es X.env:=by rfl) (hpl:(backTo pos (starEach es X.env)).any (·.1)=false:=by rfl):FN X E (.Call (.Name x p) (e::es) [] pos) (bJ g fs):=
 cF (Oh hc hg hm hv ha hn hdb he hpl) λ_ _ _ h=>Rq h
end
theorem t8 {G:Gx}{α:Type}{c:Prop}[Decidable c]{r:Res α}{H:Hp}{k:α->Prop}(h:Pu G E (if c then r else .stuck) H k):c/\Pu G E r H k:=by
 by_cases z:c
 ·rw [if_pos z] at h;exact ⟨z,h⟩
 ·rw [if_neg z] at h;exact h.elim
section
variable {o:Expr}{name:Str}{apos cpos:Pos}{T id:String}{g:D->List D->Option D}
end
end
inductive Fl where
 |nx | bk | ct | rt (fr:Bool) (d:D)
mutual
def gj:D->Bool
 | .non | .bl _ | .int _ | .str _=>true
 | .tup ds=>qJ ds
 |_=>false
def qJ:List D->Bool
 |[]=>true
 |d::ds=>gj d && qJ ds
end
section
variable {G:Gx}{O O':Addr->Prop}{H:Hp}
mutual
theorem DV.gj:∀{v:V} {d:D},DV G O H v d->gj d=true->DV G O' H v d
 |_,_,.non,_=>.non
 |_,_,.bl b,_=>.bl b
 |_,_,.int i,_=>.int i
 |_,_,.str x,_=>.str x
 |_,_,.tup h hs,e=>.tup h (DVs.gj hs e)
 |_,_,.adr _,e=>by cases e
 |_,_,.exc _ _,e=>by cases e
 |_,_,.lst _ _,e=>by cases e
 |_,_,.dct _ _ _ _ _,e=>by cases e
 |_,_,.dcu _ _ _ _ _,e=>by cases e
 |_,_,.dcf _ _ _ _,e=>by cases e
 |_,_,.ins _ _ _ _ _ _,e=>by cases e
theorem DVs.gj:∀{vs:List V} {ds:List D},DVs G O H vs ds->qJ ds=true->DVs G O' H vs ds
 |_,_,.nil,_=>.nil
 |_,_,.cons h hs,e=>by
  have e:=Bool.and_eq_true_iff.mp e
  exact .cons (DV.gj h e.1) (DVs.gj hs e.2)
end
end
inductive mj (G:Gx)(H0 H':Hp):List Addr->List V->List D->Prop where
 |nil:mj G H0 H' [] [] []
 |flat {v:V} {d:D} {vs:List V} {ds:List D} {qs:List Addr}:DV G (λ_=>False) H' v d->gj d=true->mj G H0 H' qs vs ds->mj G H0 H' qs (v::vs) (d::ds)
 |new {q:Addr} {xs:List V} {es:List D} {vs:List V} {ds:List D} {qs:List Addr}:H0 q=none->H' q=some (.lst xs)->DVs G (λ_=>False) H' xs es->qJ es=true->q∉qs->mj G H0 H' qs vs ds->mj G H0 H' (q::qs) (.ref q::vs) (.lst es::ds)
def Fr (G:Gx)(O:Addr->Prop)(H0:Hp)(v:V)(H':Hp)(d:D):Prop:=(∃p,v=.ref p/\H0 p=none/\OV G (Op O p) H' p d)\/∃p xs ds qs,d=.tup ds/\v=.ref p/\SqU G.K H' p xs/\mj G H0 H' qs xs ds
def isTup:D->Bool
 | .tup _=>true
 |_=>false
theorem Fr.lst {G:Gx}{O:Addr->Prop}{H0 H':Hp}{v:V}{d:D}(h:Fr G O H0 v H' d)(ht:isTup d=false):∃p,v=.ref p/\H0 p=none/\OV G (Op O p) H' p d:=by
 rcases h with h | ⟨p,xs,ds,qs,e,_⟩
 ·exact h
 ·rw [e] at ht;cases ht
def Ss (G:Gx)(E:XK)(O0 M0:Addr->Prop)(H0:Hp)(ow:Os)(H:Hp)(W:Ends)(r:Res (Fl×Me)):Prop:=match r with
 | .ok (.nx,m')=>∀ow' σ' H',du G O0 M0 H0 ow' σ' H' m'->Go O0 ow H ow' H'->W.nx σ' H'
 | .ok (.bk,m')=>∀ow' σ' H',du G O0 M0 H0 ow' σ' H' m'->Go O0 ow H ow' H'->W.bk σ' H'
 | .ok (.ct,m')=>∀ow' σ' H',du G O0 M0 H0 ow' σ' H' m'->Go O0 ow H ow' H'->W.ct σ' H'
 | .ok (.rt fr d,m')=>∀v ow' σ' H',du G O0 M0 H0 ow' σ' H' m'->Go O0 ow H ow' H'->DV G (Ow O0 ow') H' v d->(fr=true->Fr G (Ow O0 ow') H0 v H' d)->W.rt v H'
 | .exc c=>∀C H',G.mg c=some (.ref C)->Kp M0 H0 H'->E (.ref C) none H'
 | .stuck=>False
def tS (G:Gx)(E:XK)(g:Me->Res (Fl×Me)):TS:=λW σ H=>∃O0 M0 H0 ow m,du G O0 M0 H0 ow σ H m/\Ss G E O0 M0 H0 ow H W (g m)
abbrev FS (X:Cx)(E:XK)(st:Stmt)(g:Me->Res (Fl×Me)):Prop:=PS X st (tS (gx X) E g)
abbrev FSs (X:Cx)(E:XK)(st:List Stmt)(g:Me->Res (Fl×Me)):Prop:=PSs X st (tS (gx X) E g)
theorem eE {X:Cx}{st:Stmt}{T T':TS}(h:PS X st T)(k:∀W σ H,T' W σ H->T W σ H):PS X st T':=λpins s σ H W I q=>h pins s σ H W I (k W σ H q)
theorem oE {X:Cx}{st:List Stmt}{T T':TS}(h:PSs X st T)(k:∀W σ H,T' W σ H->T W σ H):PSs X st T':=λpins s σ H W I q=>h pins s σ H W I (k W σ H q)
section
variable {G:Gx}{E:XK}{O0 M0:Addr->Prop}{H0 H H':Hp}{ow ow':Os}{σ:L2.St}{m:Me}{W:Ends}{r:Res (Fl×Me)}
theorem Ss.pu {α:Type}{x:Res α}{k:α->Res (Fl×Me)}(R:Rel G O0 M0 H0 ow σ H m)(h:Ss G E O0 M0 H0 ow H W (x.bind k)):Pu G E x H λa=>Ss G E O0 M0 H0 ow H W (k a):=by
 cases x with
 |ok a=>exact h
 |exc c=>exact λC H' e g=>h C H' e λb o e n=>g b o (R.keep b o e n)
 |stuck=>exact h
theorem Ss.go (h:Ss G E O0 M0 H0 ow H W r)(g:Go O0 ow H ow' H'):Ss G E O0 M0 H0 ow' H' W r:=by
 cases r with
 |ok a=>
  obtain ⟨f,m'⟩:=a
  cases f with
  |nx=>exact λow1 σ1 H1 R g1=>h ow1 σ1 H1 R (g.trans g1)
  |bk=>exact λow1 σ1 H1 R g1=>h ow1 σ1 H1 R (g.trans g1)
  |ct=>exact λow1 σ1 H1 R g1=>h ow1 σ1 H1 R (g.trans g1)
  |rt fr d=>exact λv ow1 σ1 H1 R g1=>h v ow1 σ1 H1 R (g.trans g1)
 |exc c=>exact h
 |stuck=>exact h
theorem Ss.ofO {α:Type}{x:Option α}{k:α->Res (Fl×Me)}(h:Ss G E O0 M0 H0 ow H W ((ofO x).bind k)):∃a,x=some a/\Ss G E O0 M0 H0 ow H W (k a):=by
 cases x with
 |some a=>exact ⟨a,rfl,h⟩
 |none=>exact h.elim
end
def gNx:Me->Res (Fl×Me):=λm=>.ok (.nx,m)
def aU (g k:Me->Res (Fl×Me)):Me->Res (Fl×Me):=λm=>match g m with
 | .ok (.nx,m')=>k m'
 |r=>r
def bf (i:Nat)(f:Me->Res D):Me->Res (Fl×Me):=λm=>(f m).bind λd=>.ok (.nx,m.set i (.fz d))
def uc (i:Nat)(f:Me->Res D):Me->Res (Fl×Me):=λm=>(f m).bind λd=>if i<m.length then .ok (.nx,m.set i (.ow d)) else .stuck
def gEx (f:Me->Res D):Me->Res (Fl×Me):=λm=>(f m).bind λ_=>.ok (.nx,m)
def bT (f:Me->Res D):Me->Res (Fl×Me):=λm=>(f m.let).bind λd=>.ok (.rt false d,m.let)
def lF (f:Me->Res D):Me->Res (Fl×Me):=λm=>(f m.let).bind λd=>.ok (.rt true d,m.let)
def Kg (i:Nat):Me->Res (Fl×Me):=λm=>match m[i]? with
 |some (.ow d)=>.ok (.rt true d,m.let)
 |some (.fz d)=>.ok (.rt false d,m.let)
 |_=>.stuck
def gIf (t:Me->Res Bool)(g k:Me->Res (Fl×Me)):Me->Res (Fl×Me):=λm=>(t m).bind λc=>if c then g m else k m
def Xj (i:Nat)(k:Me->Res (Fl×Me)):Me->Res (Fl×Me):=λm=>match m[i]? with
 |some (.ow d)=>k (m.set i (.fz d))
 |_=>k m
section
variable {X:Cx}{E:XK}{e c:Expr}{es:List Expr}{st:Stmt}{rest sa sb:List Stmt}{f:Me->Res D}{ft:Me->Res Bool}{g k ga gb:Me->Res (Fl×Me)}{pos pos':Pos}{i:Nat}{x:Str}
theorem bO:FSs X E [] gNx:=oE Vp λW σ H hE=>xq5 hE λO0 M0 H0 ow m R q=>q ow σ H R (Go.refl (aL.refl _))
theorem QF {G:Gx}{W:Ends}{σ:L2.St}{H:Hp}(h:tS G E (aU g k) W σ H):ZV (tS G E g) (tS G E k) W σ H:=by
 obtain ⟨O0,M0,H0,ow,m,R,q⟩:=h
 refine ⟨O0,M0,H0,ow,m,R,?_⟩
 unfold aU at q
 cases z:g m with
 |ok a=>
  obtain ⟨f,m'⟩:=a
  rw [z] at q
  cases f with
  |nx=>exact λow' σ' H' R' g'=>⟨O0,M0,H0,ow',m',R',Ss.go q g'⟩
  |bk=>exact q
  |ct=>exact q
  |rt fr d=>exact q
 |exc c=>rw [z] at q;exact q
 |stuck=>rw [z] at q;exact q
theorem aC (h1:FS X E st g)(h2:FSs X E rest k):FSs X E (st::rest) (aU g k):=oE (sU h1 h2) λW σ H h=>QF h
theorem aJ (h1:FS X E st g):FSs X E [st] g:=Lk h1
theorem Uc (i:Nat)(h:FSs X E rest k):FSs X E rest (Xj i k):=oE h λW σ H hE=>xq5 hE λO0 M0 H0 ow m R q=>by
 unfold Xj at q
 cases z:m[i]? with
 |none=>rw [z] at q;exact ⟨O0,M0,H0,ow,m,R,q⟩
 |some s=>
  rw [z] at q
  cases s with
  |ow d=>
   obtain ⟨a,h1,h2,h3,h4⟩:=R.slot i _ z
   have na:¬Ow O0 (owS ow i none) a:=λw=>by
    rcases w with w | ⟨j,w⟩
    ·exact R.no0 i a h1 w
    ·by_cases e:j=i
     ·subst e;rw [fV] at w;cases w
     ·rw [fU e] at w;exact e (R.inj j i a w h1)
   have sub:∀b,Ow O0 (owS ow i none) b->Ow O0 ow b\/H b=none:=λb z=>.inl z.sub
   have hi:=rP z
   have R2:du (gx X) O0 M0 H0 (owS ow i none) σ H (m.set i (.fz d)):=by
    refine ⟨⟨by simp [R.len],R.keep,R.m0,λb z=>R.mutk b z.sub,λj b e=>?_,λj k b e1 e2=>?_,λj hj=>?_,λj s e=>?_⟩,Br R.nb λ_ z=>by cases z⟩
    ·by_cases q:j=i
     ·subst q;rw [fV] at e;cases e
     ·rw [fU q] at e;exact R.no0 j b e
    ·by_cases q:j=i
     ·subst q;rw [fV] at e1;cases e1
     ·by_cases q':k=i
      ·subst q';rw [fV] at e2;cases e2
      ·rw [fU q] at e1;rw [fU q'] at e2;exact R.inj j k b e1 e2
    ·by_cases q:j=i
     ·subst q;exact fV
     ·rw [fU q];exact R.out j (by simpa using hj)
    ·by_cases q:j=i
     ·subst q
      rw [List.getElem?_set_self hi] at e
      cases e
      rw [fV]
      exact ⟨rfl,.ref a,h3,(h4.cJ sub).dv na⟩
     ·rw [List.getElem?_set_ne (Ne.symm q)] at e
      rw [fU q]
      exact (R.slot j s e).cJ sub λ_ _ b _=>Classical.em _
   exact ⟨O0,M0,H0,_,_,R2,Ss.go q Go.set⟩
  |_=>exact ⟨O0,M0,H0,ow,m,R,q⟩
theorem QT {G:Gx}{W:Ends}{σ:L2.St}{H:Hp}(h:tS G E (bf i f) W σ H):Pb (tE G E f) (Ax i) W σ H:=by
 obtain ⟨O0,M0,H0,ow,m,R,q⟩:=h
 refine ⟨O0,M0,H0,ow,m,R.toRel,(Ss.pu R.toRel q).imp (aL.refl _) λd q v H' g' hv=>?_⟩
 exact q _ _ _ ((R.mono g').set hv) ((Go.refl g').trans Go.set)
theorem PK {G:Gx}{W:Ends}{σ:L2.St}{H:Hp}(h:tS G E (uc i f) W σ H):Pb (tN G E f) (Ax i) W σ H:=by
 obtain ⟨O0,M0,H0,ow,m,R,q⟩:=h
 refine ⟨O0,M0,H0,ow,m,R.toRel,(Ss.pu R.toRel q).imp (aL.refl _) λd q p H' g' n hv=>?_⟩
 by_cases hi:i<m.length
 ·rw [if_pos hi] at q
  exact q _ _ _ (R.own g' n (R.toRel.Cg n) hv hi) (Go.own g' n)
 ·rw [if_neg hi] at q
  exact q.elim
theorem bQ (hN:X.N.Nodup)(hi:X.N[i]? = some x)(hx:Loc X.env.scope x)(he:FE X E e f)(hs:swapsWith e (some (.Name x pos')) pos.line X.env=pure false:=by rfl)
  (hf:X.fn x=true\/X.env.scope.names.lookup x=some .local:=by first | exact .inl rfl | exact .inr rfl | assumption):FS X E (.Assign [.Name x pos'] e pos) (bf i f):=eE (Bo hN hi hx he hs hf) λ_ _ _ h=>QT h
theorem JW (hN:X.N.Nodup)(hi:X.N[i]? = some x)(hx:Loc X.env.scope x)(he:FN X E e f)(hs:swapsWith e (some (.Name x pos')) pos.line X.env=pure false:=by rfl)
  (hf:X.fn x=true\/X.env.scope.names.lookup x=some .local:=by first | exact .inl rfl | exact .inr rfl | assumption):FS X E (.Assign [.Name x pos'] e pos) (uc i f):=eE (Bo hN hi hx he hs hf) λ_ _ _ h=>PK h
theorem Ls (he:FE X E e f)(hs:swapsWith e none pos.line X.env=pure false:=by rfl):FS X E (.Expr e pos) (gEx f):=eE (w6 he hs) λW σ H hE=>xq5 hE λO0 M0 H0 ow m R q=>
 ⟨O0,M0,H0,ow,m,R.toRel,(Ss.pu R.toRel q).imp (aL.refl _) λd q v H' g' hv=>q _ _ _ (R.mono g') (Go.refl g')⟩
theorem bK (he:FE X E e f):FS X E (.Return (some e) pos) (bT f):=eE (DR he) λW σ H hE=>xq5 hE λO0 M0 H0 ow m R q=>by
 obtain ⟨ow',R',g1⟩:=R.let
 exact ⟨O0,M0,H0,ow',m.let,R'.toRel,(Ss.pu R'.toRel (Ss.go q g1)).imp (aL.refl _) λd q v H' g' hv=>q v ow' σ H' (R'.mono g') (Go.refl g') hv (λz=>by cases z)⟩
theorem qQ (he:FN X E e f):FS X E (.Return (some e) pos) (lF f):=eE (DR he) λW σ H hE=>xq5 hE λO0 M0 H0 ow m R q=>by
 obtain ⟨ow',R',g1⟩:=R.let
 exact ⟨O0,M0,H0,ow',m.let,R'.toRel,(Ss.pu R'.toRel (Ss.go q g1)).imp (aL.refl _) λd q p H' g' n hv=>
  q _ ow' σ H' (R'.mono g') (Go.refl g') ((hv.cJ λb z=>.inl (.inl z)).dv (R'.toRel.zm n)) λ_=>.inl ⟨p,rfl,R'.toRel.Cg n,hv⟩⟩
theorem KD (i:Nat)(hN:X.N[i]? = some x:=by rfl)(hv:Vis X.env.scope x:=by first | exact Or.inl rfl | exact Or.inr (Or.inl rfl) | exact Or.inr (Or.inr rfl))(hd:(x == ("__debug__" : Str))=false:=by decide)
  (hcd:(x == ("__classdict__" : Str))=false:=by decide):FS X E (.Return (some (.Name x pos')) pos) (Kg i):=eE (DR (jP hN hv hd hcd)) λW σ H hE=>xq5 hE λO0 M0 H0 ow m R q=>by
 obtain ⟨ow',R',g1⟩:=R.let
 unfold Kg at q
 cases z:m[i]? with
 |none=>rw [z] at q;exact q.elim
 |some s=>
  rw [z] at q
  have zl:m.let[i]? = some s.let:=by unfold Me.let;rw [List.getElem?_map,z];rfl
  cases s with
  |fz d=>
   obtain ⟨_,v,e,hv⟩:=R'.slot i _ zl
   exact ⟨v,e,q v ow' σ H R' g1 hv λz=>by cases z⟩
  |ow d=>
   obtain ⟨_,v,e,hv⟩:=R'.slot i _ zl
   obtain ⟨a,h1,h2,h3,h4⟩:=R.slot i _ z
   rw [h3] at e
   cases e
   refine ⟨_,h3,q _ ow' σ H R' g1 hv λ_=>.inl ⟨a,rfl,h2,h4.cJ λb w=>.inl ?_⟩⟩
   rcases w with w | w
   ·rcases w with w | ⟨j,w⟩
    ·exact .inl w
    ·rcases g1.new j b w with w' | w'
     ·exact w'
     ·have:=R'.mutk b (.inr ⟨j,w⟩)
      rw [w'] at this
      rcases this with ⟨_,e⟩ | ⟨_,e⟩ | ⟨_,e⟩ | ⟨_,e⟩<;>cases e
   ·rw [w];exact .inr ⟨i,h1⟩
  |_=>exact q.elim
theorem dF (hc:FT X E c ft)(ha:FSs X E sa ga)(hb:FSs X E sb gb):FS X E (.If c sa sb pos) (gIf ft ga gb):=eE (YT hc ha hb) λW σ H hE=>xq5 hE λO0 M0 H0 ow m R q=>
 ⟨O0,M0,H0,ow,m,R.toRel,(Ss.pu R.toRel q).imp (aL.refl _) λb q H' g'=>by
  cases b with
  |true=>rw [if_pos rfl] at q ⊢;exact ⟨O0,M0,H0,ow,m,R.mono g',Ss.go q (Go.refl g')⟩
  |false=>rw [if_neg Bool.false_ne_true] at q ⊢;exact ⟨O0,M0,H0,ow,m,R.mono g',Ss.go q (Go.refl g')⟩⟩
def wh (t:Me->Res Bool)(b:Me->Res (Fl×Me)):Nat->Me->Option (Res (Fl×Me))
 |0,_=>none
 |n+1,m=>match t m with
  | .ok true=>match b m with
   | .ok (.nx,m')=>wh t b n m'
   | .ok (.ct,m')=>wh t b n m'
   | .ok (.bk,m')=>some (.ok (.nx,m'))
   | .ok (.rt fr d,m')=>some (.ok (.rt fr d,m'))
   | .exc c=>some (.exc c)
   | .stuck=>some .stuck
  | .ok false=>some (.ok (.nx,m))
  | .exc c=>some (.exc c)
  | .stuck=>some .stuck
theorem Mq {t:Me->Res Bool}{b:Me->Res (Fl×Me)}:∀{n:Nat} {m:Me} {r:Res (Fl×Me)},wh t b n m=some r->wh t b (n+1) m=some r
 |0,_,_,h=>by cases h
 |n+1,m,r,h=>by
  have ih:=@Mq t b n
  unfold wh at h ⊢
  split
  ·rename_i e
   rw [e] at h
   split
   ·rename_i m' e2;rw [e2] at h;exact ih h
   ·rename_i m' e2;rw [e2] at h;exact ih h
   ·rename_i m' e2;rw [e2] at h;exact h
   ·rename_i fr d m' e2;rw [e2] at h;exact h
   ·rename_i c e2;rw [e2] at h;exact h
   ·rename_i e2;rw [e2] at h;exact h
  ·rename_i e;rw [e] at h;exact h
  ·rename_i e;rw [e] at h;exact h
  ·rename_i e;rw [e] at h;exact h
theorem JZ {t:Me->Res Bool}{b:Me->Res (Fl×Me)}{n:Nat}{m:Me}{r:Res (Fl×Me)}(h:wh t b n m=some r):∀k,wh t b (n+k) m=some r
 |0=>h
 |k+1=>Mq (JZ h k)
open Classical in
def rR (t:Me->Res Bool)(b:Me->Res (Fl×Me)):Me->Res (Fl×Me):=λm=>
 if h:∃n r,wh t b n m=some r then Classical.choose (Classical.choose_spec h) else .stuck
theorem NT {t:Me->Res Bool}{b:Me->Res (Fl×Me)}{m:Me}(h:rR t b m≠.stuck):∃n,wh t b n m=some (rR t b m):=by
 unfold rR at h ⊢
 split at h
 ·rename_i q
  rw [dif_pos q]
  exact ⟨_,Classical.choose_spec (Classical.choose_spec q)⟩
 ·exact absurd rfl h
theorem vP {t:Me->Res Bool}{b:Me->Res (Fl×Me)}{m:Me}{r:Res (Fl×Me)}(n:Nat)(h:wh t b n m=some r):rR t b m=r:=by
 unfold rR
 have q:∃n r,wh t b n m=some r:=⟨n,r,h⟩
 rw [dif_pos q]
 have z:=Classical.choose_spec (Classical.choose_spec q)
 have a:=JZ z n
 have b':=JZ h (Classical.choose q)
 rw [Nat.add_comm] at b'
 rw [a] at b'
 exact Option.some.inj b'
theorem Cr {body:List Stmt}(hp:PassesOwn (model X.prog X.w) X.A X.env X.xe)(hc:FT X E c ft)(hb:FSs X E body g):FS X E (.While c body [] pos) (rR ft g):=eE (O7 hp hc hb) λW σ H hE=>xq5 hE λO0 M0 H0 ow m R q=>by
 obtain ⟨n,hn⟩:=NT (t:=ft) (b:=g) (m:=m) (λz=>by rw [z] at q;exact q)
 generalize rR ft g m=r at *
 refine ⟨λn σ' H'=>∃ow' m',du (gx X) O0 M0 H0 ow' σ' H' m'/\Go O0 ow H ow' H'/\wh ft g n m'=some r,⟨n,ow,m,R,Go.refl (aL.refl _),hn⟩,?_⟩
 rintro n σ1 H1 ⟨ow1,m1,R1,g1,h1⟩
 cases n with
 |zero=>cases h1
 |succ n=>
  refine ⟨O0,M0,H0,ow1,m1,R1.toRel,?_⟩
  unfold wh at h1
  cases e:ft m1 with
  |exc c=>
   rw [e] at h1
   cases h1
   exact λC H' e g'=>q C H' e λb o e n=>g' b o (R1.keep b o e n)
  |stuck=>rw [e] at h1;cases h1;exact q.elim
  |ok t=>
   rw [e] at h1
   intro H2 g2
   have R2:=R1.mono g2
   have G2:=g1.trans (Go.refl g2)
   cases t with
   |false=>
    cases h1
    rw [if_neg Bool.false_ne_true]
    exact q _ _ _ R2 G2
   |true=>
    rw [if_pos rfl]
    have h1:(match g m1 with
     | .ok (.nx,m')=>wh ft g n m'
     | .ok (.ct,m')=>wh ft g n m'
     | .ok (.bk,m')=>some (.ok (.nx,m'))
     | .ok (.rt fr d,m')=>some (.ok (.rt fr d,m'))
     | .exc c=>some (.exc c)
     | .stuck=>some .stuck)=some r:=h1
    refine ⟨λσ' H'=>∃ow' m',du (gx X) O0 M0 H0 ow' σ' H' m'/\Go O0 ow H ow' H'/\wh ft g n m'=some r,λσ' H' z=>⟨n,Nat.lt_succ_self _,z⟩,O0,M0,H0,ow1,m1,R2,?_⟩
    cases e2:g m1 with
    |exc c=>rw [e2] at h1;cases h1;exact q
    |stuck=>rw [e2] at h1;cases h1;exact q
    |ok a=>
     obtain ⟨f2,m2⟩:=a
     rw [e2] at h1
     cases f2 with
     |nx=>exact λow' σ' H' R' g'=>⟨ow',m2,R',G2.trans g',h1⟩
     |ct=>exact λow' σ' H' R' g'=>⟨ow',m2,R',G2.trans g',h1⟩
     |bk=>cases h1;exact λow' σ' H' R' g'=>q ow' σ' H' R' (G2.trans g')
     |rt fr d=>cases h1;exact λv ow' σ' H' R' g'=>q v ow' σ' H' R' (G2.trans g')
end
def NbP (m m':Me):Prop:=(∀(j:Nat) (d:D),m[j]?≠some (Sl.bw d))->∀(j:Nat) (d:D),m'[j]?≠some (Sl.bw d)
def tG (G:Gx)(k:Nat)(h:D->Me->Option Me):TG:=λv σ H Q=>∃O0 M0 H0 ow m d m',Rel G O0 M0 H0 ow σ H m/\DV G (Ow O0 ow) H v d/\h d m=some m'/\
 ∀ow' σ',Rel G O0 M0 H0 ow' σ' H m'->Go O0 ow H ow' H->NbP m m'->σ'.drop k=σ.drop k->Q σ' H
def tGs (G:Gx)(k:Nat)(h:List D->Me->Option Me):TGs:=λvs σ H Q=>∃O0 M0 H0 ow m ds m',Rel G O0 M0 H0 ow σ H m/\DVs G (Ow O0 ow) H vs ds/\h ds m=some m'/\
 ∀ow' σ',Rel G O0 M0 H0 ow' σ' H m'->Go O0 ow H ow' H->NbP m m'->σ'.drop k=σ.drop k->Q σ' H
abbrev FG (X:Cx)(k:Nat)(tg:Expr)(h:D->Me->Option Me):Prop:=PG X tg (tG (gx X) k h)
abbrev FGs (X:Cx)(k:Nat)(tgs:List Expr)(h:List D->Me->Option Me):Prop:=PGs X tgs (tGs (gx X) k h)
theorem La {X:Cx}{e:Expr}{T T':TG}(h:PG X e T)(k:∀v σ H Q,T' v σ H Q->T v σ H Q):PG X e T':=λpins s σ H v u Q I r q=>h pins s σ H v u Q I r (k v σ H Q q)
theorem Ii {X:Cx}{es:List Expr}{T T':TGs}(h:PGs X es T)(k:∀v σ H Q,T' v σ H Q->T v σ H Q):PGs X es T':=λpins s σ H v u Q I r q=>h pins s σ H v u Q I r (k v σ H Q q)
def hName (i:Nat):D->Me->Option Me:=λd m=>some (m.set i (.fz d))
def nW:List D->Me->Option Me
 |[],m=>some m
 |_,_=>none
def cL (h:D->Me->Option Me)(hs:List D->Me->Option Me):List D->Me->Option Me
 |d::ds,m=>(h d m).bind λm'=>hs ds m'
 |_,_=>none
def nZ (n:Nat)(hs:List D->Me->Option Me):D->Me->Option Me
 | .tup ds,m=>if ds.length=n then hs ds m else none
 |_,_=>none
section
variable {X:Cx}{pos:Pos}{k:Nat}{e:Expr}{es:List Expr}{h:D->Me->Option Me}{hs:List D->Me->Option Me}
theorem bC {i:Nat}{x:Str}(hN:X.N.Nodup)(hi:X.N[i]? = some x)(hx:Loc X.env.scope x)(hk:i<k:=by decide)(hf:X.fn x=true\/X.env.scope.names.lookup x=some .local:=by first | exact .inl rfl | exact .inr rfl | assumption):FG X k (.Name x pos) (hName i):=
 La (Up hN hi hx hf) λv σ H Q hE=>xq7 hE λO0 M0 H0 ow m d m' R hv e q=>by
  cases e
  refine q _ _ (R.set hv) Go.set (λnb=>Br nb λ_ z=>by cases z) ?_
  rw [List.drop_set,if_pos (by omega)]
theorem j4:FGs X k [] nW:=Ii Tc λvs σ H Q hE=>xq7 hE λO0 M0 H0 ow m ds m' R hv e q=>by
 cases hv with
 |nil=>cases e;exact ⟨rfl,q _ _ R (Go.refl (aL.refl _)) id rfl⟩
 |cons a t=>cases e
theorem cR (h1:FG X k e h)(h2:FGs X k es hs)(hst:(assignEach (e::es) X.env).map (·.2)=assign e X.env::(assignEach es X.env).map (·.2):=by rfl):FGs X k (e::es) (cL h hs):=
 Ii (Qz h1 h2 hst) λvs σ H Q hE=>xq7 hE λO0 M0 H0 ow m ds m' R hv e q=>by
  cases hv with
  |nil=>cases e
  | @cons v vs' d ds' a t=>
   have e':(h d m).bind (λm'=>hs ds' m')=some m':=e
   cases e1:h d m with
   |none=>rw [e1] at e';cases e'
   |some m1=>
    rw [e1] at e'
    exact ⟨v,vs',rfl,O0,M0,H0,ow,m,d,m1,R,a,e1,λow' σ' R' g' nb hd=>⟨O0,M0,H0,ow',m1,ds',m',R',t.go R.mutk g'.ev,e',λow2 σ2 R2 g2 nb2 hd2=>q ow2 σ2 R2 (g'.trans g2) (λz=>nb2 (nb z)) (hd2.trans hd)⟩⟩
theorem oH {j n:Nat}(hc:X.calm=true)(h:FGs X k es hs)(hn:(assignEach es X.env).length=n:=by rfl)(hst:(assignEach es X.env).findIdx? (·.1)=none:=by rfl):FG X k (.Tuple es j pos) (nZ n hs):=
 La (Wl hc h hn hst) λv σ H Q hE=>xq7 hE λO0 M0 H0 ow m d m' R hv e q=>by
  cases d with
  |tup ds=>
   obtain ⟨a,xs,rfl,hx,hd⟩:=uX (.inl hv)
   have e':(if ds.length=n then hs ds m else none)=some m':=e
   by_cases z:ds.length=n
   ·rw [if_pos z] at e'
    exact ⟨a,xs,rfl,hx,by rw [cH hd];exact z,O0,M0,H0,ow,m,ds,m',R,hd,e',q⟩
   ·rw [if_neg z] at e';cases e'
  |_=>cases e
end
def Bj (G:Gx)(J:It)(ds:List D)(P:(Addr->Prop)->Hp->Prop):Prop:=∀O H,P O H->
 (∀i,i<ds.length->J.go i H)/\(∀i x H',i<ds.length->J.yld i H x H'->aL H H'/\∃d,ds[i]? = some d/\DV G O H' x d)/\J.stop ds.length H
def tI (G:Gx)(E:XK)(f:Me->Res (List D)):TI:=λσ H R=>∃O0 M0 H0 ow m,Rel G O0 M0 H0 ow σ H m/\Pu G E (f m) H λds=>∀J H',aL H H'->Bj G J ds (λO H2=>Ev (Ow O0 ow) H' O H2)->R J H'
def tIw (G:Gx)(E:XK)(f:Me->Res (List D)):TI:=λσ H R=>∃O0 M0 H0 ow m,Rel G O0 M0 H0 ow σ H m/\Pu G E (f m) H λds=>∀J H',aL H H'->Bj G J ds (λO H2=>(∀b,O b->Ow O0 ow b\/H' b=none)/\aL H' H2)->R J H'
abbrev FI (X:Cx)(E:XK)(tg e:Expr)(f:Me->Res (List D)):Prop:=PI X tg e (tI (gx X) E f)
abbrev FIw (X:Cx)(E:XK)(tg e:Expr)(f:Me->Res (List D)):Prop:=PI X tg e (tIw (gx X) E f)
theorem pG {X:Cx}{tg e:Expr}{T T':TI}(h:PI X tg e T)(k:∀σ H R,T' σ H R->T σ H R):PI X tg e T':=λpins s σ H R I q=>h pins s σ H R I (k σ H R q)
def lq (f:Me->Res D):Me->Res (List D):=λm=>(f m).bind λd=>match d with
 | .lst ds=>.ok ds
 |_=>.stuck
def Ji (f:Me->Res D):Me->Res (List D):=λm=>(f m).bind λd=>match d with
 | .tup ds=>.ok ds
 |_=>.stuck
def qZ (f:Me->Res (List D)):Me->Res (List D):=λm=>(f m).bind λd=>match d with
 |[.int j]=>if -(2 ^ 62)<=j/\j<2 ^ 62 then .ok ((List.range j.toNat).map λ(i:Nat)=>D.int i) else .stuck
 |_=>.stuck
theorem Uv {G:Gx}{O:Addr->Prop}{H:Hp}{a:Addr}{xs:List V}{ds:List D}(m:∀b,O b->fP (H b))(hl:LstAt G.K O H a xs)(hd:DVs G O H xs ds):Bj G (Itl G.K a) ds (λO' H2=>Ev O H O' H2):=by
 intro O' H2 ev
 have hq:SqL G.K H2 a xs:=(qx ev.2 hl).sq
 have hd2:=hd.go m ev
 have hlen:=cH hd
 refine ⟨λi hi=>⟨xs,xs[i]'(by omega),hq,by simp⟩,λi x H' hi y=>?_,xs,hq,by omega⟩
 obtain ⟨e,y⟩:=y
 subst e
 obtain ⟨d,h1,h2⟩:=t7 hd2 (y xs hq)
 exact ⟨aL.refl _,d,h1,h2⟩
theorem O5 {G:Gx}{O:Addr->Prop}{H:Hp}{a:Addr}{xs:List V}{ds:List D}(m:∀b,O b->fP (H b))(hl:SqL G.K H a xs)(hd:DVs G O H xs ds):Bj G (Itl G.K a) ds (λO' H2=>(∀b,O' b->O b\/H b=none)/\aL H H2):=by
 intro O' H2 ⟨sub,g⟩
 have hq:SqL G.K H2 a xs:=xn hl g
 have hd2:=hd.go m ⟨sub,.of g⟩
 have hlen:=cH hd
 refine ⟨λi hi=>⟨xs,xs[i]'(by omega),hq,by simp⟩,λi x H' hi y=>?_,xs,hq,by omega⟩
 obtain ⟨e,y⟩:=y
 subst e
 obtain ⟨d,h1,h2⟩:=t7 hd2 (y xs hq)
 exact ⟨aL.refl _,d,h1,h2⟩
theorem WN {G:Gx}{O:Addr->Prop}{H:Hp}{a:Addr}{xs:List V}{ds:List D}(m:∀b,O b->fP (H b))(hl:SqT G.K H a xs)(hd:DVs G O H xs ds):Bj G (Itt G.K a) ds (λO' H2=>Ev O H O' H2):=by
 intro O' H2 ev
 have hq:SqT G.K H2 a xs:=W8 m ev.2 hl
 have hd2:=hd.go m ev
 have hlen:=cH hd
 refine ⟨λi hi=>⟨xs,xs[i]'(by omega),hq,by simp⟩,λi x H' hi y=>?_,xs,hq,by omega⟩
 obtain ⟨e,y⟩:=y
 subst e
 obtain ⟨d,h1,h2⟩:=t7 hd2 (y xs hq)
 exact ⟨aL.refl _,d,h1,h2⟩
theorem Bj.weak {G:Gx}{J:It}{ds:List D}{O:Addr->Prop}{H:Hp}(h:Bj G J ds (λO' H2=>Ev O H O' H2)):Bj G J ds (λO' H2=>(∀b,O' b->O b\/H b=none)/\aL H H2):=
 λO' H2 ⟨s,g⟩=>h O' H2 ⟨s,.of g⟩
theorem Sd {G:Gx}{lo:Int}{n:Nat}{P:(Addr->Prop)->Hp->Prop}:Bj G (Itr lo n) ((List.range n).map λ(k:Nat)=>D.int (lo+k)) P:=by
 intro O H _
 refine ⟨λi hi=>(show i<n by simpa using hi),λi x H' hi y=>?_,by show n<=_;simp⟩
 obtain ⟨e,y⟩:=y
 subst e y
 have hi':i<n:=by simpa using hi
 exact ⟨aL.refl _,_,by simp [List.getElem?_map,List.getElem?_range hi'],.int _⟩
section
variable {X:Cx}{E:XK}{tg e a b:Expr}{f:Me->Res D}{fs:Me->Res (List D)}{p pos:Pos}
theorem Gp (h:FE X E e f):FI X E tg e (lq f):=pG (Li h) λσ H R hE=>xq5 hE λO0 M0 H0 ow m Re q=>⟨O0,M0,H0,ow,m,Re,q.bind.imp (aL.refl _) λd q v H' g hv=>by
 cases d with
 |lst ds=>
  cases hv with
  |lst hl hd=>exact ⟨_,rfl,⟨_,hl.sq⟩,q _ H' g (Uv (Re.mono g).mutk hl hd)⟩
 |_=>exact q.elim⟩
theorem SJ (h:FE X E e f):FI X E tg e (Ji f):=pG (XJ h) λσ H R hE=>xq5 hE λO0 M0 H0 ow m Re q=>⟨O0,M0,H0,ow,m,Re,q.bind.imp (aL.refl _) λd q v H' g hv=>by
 cases d with
 |tup ds=>
  cases hv with
  |tup hl hd=>exact ⟨_,rfl,⟨_,hl.sq⟩,q _ H' g (WN (Re.mono g).mutk hl.sq hd)⟩
 |_=>exact q.elim⟩
theorem iR (h:FB X E e f):FIw X E tg e (lq f):=pG (Li h) λσ H R hE=>xq5 hE λO0 M0 H0 ow m Re q=>⟨O0,M0,H0,ow,m,Re,q.bind.imp (aL.refl _) λd q v H' g hv=>by
 cases d with
 |lst ds=>
  obtain ⟨a,xs,rfl,hl,hd⟩:=oF hv
  exact ⟨a,rfl,⟨_,hl⟩,q _ H' g (O5 (Re.mono g).mutk hl hd)⟩
 |_=>exact q.elim⟩
theorem uZ {fl:Me->Res (List D)}(h:FI X E tg e fl):FIw X E tg e fl:=pG h λσ H R hE=>xq5 hE λO0 M0 H0 ow m Re q=>⟨O0,M0,H0,ow,m,Re,q.imp (aL.refl _) λds q J H' g hi=>q J H' g hi.weak⟩
theorem iY (hg:Gl X "range")(hm:X.mg "range" = none)(ha:FAB X E [a] fs)(hs:starEach [a] X.env=[(false,eval a X.env)]:=by rfl):FI X E tg (.Call (.Name "range" p) [a] [] pos) (qZ fs):=
 pG (Nr hg hm ha hs) λσ H R hE=>xq5 hE λO0 M0 H0 ow m Re q=>⟨O0,M0,H0,ow,m,Re,q.bind.imp (aL.refl _) λds q vs H' g hv=>by
  cases hv with
  |nil=>exact q.elim
  | @cons v vs d ds h1 h2=>
   cases h2 with
   |cons _ _=>cases d<;>exact q.elim
   |nil=>
    cases d with
    |int j=>
     cases dU h1
     obtain ⟨⟨z1,z2⟩,k⟩:=xJ q
     refine ⟨j,rfl,z1,z2,k _ H' g ?_⟩
     have:=Sd (G:=gx X) (lo:=0) (n:=j.toNat) (P:=λO H2=>Ev (Ow O0 ow) H' O H2)
     simpa using this
    |_=>exact q.elim⟩
end
def jF (h:D->Me->Option Me)(g:Me->Res (Fl×Me)):List D->Me->Res (Fl×Me)
 |[],m=>.ok (.nx,m)
 |d::ds,m=>match h d m with
  |none=>.stuck
  |some m1=>match g m1 with
   | .ok (.nx,m2)=>jF h g ds m2
   | .ok (.ct,m2)=>jF h g ds m2
   | .ok (.bk,m2)=>.ok (.nx,m2)
   | .ok (.rt fr v,m2)=>.ok (.rt fr v,m2)
   | .exc c=>.exc c
   | .stuck=>.stuck
def lZ (fi:Me->Res (List D))(h:D->Me->Option Me)(g:Me->Res (Fl×Me)):Me->Res (Fl×Me):=λm=>(fi m).bind λds=>jF h g ds m
theorem lJ {X:Cx}{E:XK}{tg iter:Expr}{body:List Stmt}{fi:Me->Res (List D)}{k:Nat}{h:D->Me->Option Me}{g:Me->Res (Fl×Me)}{pos:Pos}(hp:PassesOwn (model X.prog X.w) X.A X.env X.xe)(hc:X.calm=true)(hi:FI X E tg iter fi)(hg:FG X k tg h)(hb:FSs X E body g)
  (hs:∀x,foldedSetIterable iter X.env x=pure x:=by intro _;rfl):FS X E (.For tg iter body [] pos) (lZ fi h g):=eE (Wy hp hc hi hg hb hs) λW σ H hE=>xq5 hE λO0 M0 H0 ow m R q=>
 ⟨O0,M0,H0,ow,m,R.toRel,(Ss.pu R.toRel q).imp (aL.refl _) λds q J H1 g1 it=>by
  have R1:=R.mono g1
  have q1:=Ss.go q (Go.refl g1)
  generalize hr:jF h g ds m=r at *
  refine ⟨λi n σ' H'=>∃ow' m',du (gx X) O0 M0 H0 ow' σ' H' m'/\Go O0 ow H1 ow' H'/\n=ds.length-i/\i<=ds.length/\jF h g (ds.drop i) m'=r,⟨_,ow,m,R1,Go.refl (aL.refl _),rfl,Nat.zero_le _,hr⟩,?_⟩
  rintro i n σ2 H2 ⟨ow2,m2,R2,g2,rfl,hi,e2⟩
  obtain ⟨i1,i2,i3⟩:=it _ H2 g2.ev
  by_cases hlt:i<ds.length
  ·refine .inr ⟨i1 i hlt,λσ' H'=>∃ow' m',du (gx X) O0 M0 H0 ow' σ' H' m'/\Go O0 ow H1 ow' H'/\jF h g (ds.drop (i+1)) m'=r,λσ' H' ⟨ow',m',R',g',e'⟩=>⟨ds.length-(i+1),by omega,ow',m',R',g',rfl,hlt,e'⟩,λx H3 y=>?_⟩
   obtain ⟨s3,d,hd,dv⟩:=i2 i x H3 hlt y
   have ed:ds.drop i=d::ds.drop (i+1):=by
    rw [List.drop_eq_getElem_cons hlt]
    rw [List.getElem?_eq_getElem hlt] at hd
    cases hd
    rfl
   rw [ed] at e2
   unfold jF at e2
   cases eh:h d m2 with
   |none=>rw [eh] at e2;subst e2;exact q1.elim
   |some m3=>
    rw [eh] at e2
    refine ⟨O0,M0,H0,ow2,m2,d,m3,(R2.mono s3).toRel,dv,eh,λow' σ' R' g' nb _=>?_⟩
    have G3:=(g2.trans (Go.refl s3)).trans g'
    refine ⟨O0,M0,H0,ow',m3,⟨R',nb R2.nb⟩,?_⟩
    cases eg:g m3 with
    |exc c=>simp only [eg] at e2;subst e2;exact q1
    |stuck=>simp only [eg] at e2;subst e2;exact q1
    |ok a=>
     obtain ⟨f4,m4⟩:=a
     simp only [eg] at e2
     cases f4 with
     |nx=>exact λow4 σ4 H4 R4 g4=>⟨ow4,m4,R4,G3.trans g4,e2⟩
     |ct=>exact λow4 σ4 H4 R4 g4=>⟨ow4,m4,R4,G3.trans g4,e2⟩
     |bk=>subst e2;exact λow4 σ4 H4 R4 g4=>q1 ow4 σ4 H4 R4 (G3.trans g4)
     |rt fr v=>subst e2;exact λv ow4 σ4 H4 R4 g4=>q1 v ow4 σ4 H4 R4 (G3.trans g4)
  ·have e:i=ds.length:=by omega
   subst e
   rw [List.drop_length] at e2
   unfold jF at e2
   subst e2
   exact .inl ⟨i3,q1 ow2 σ2 H2 R2 g2⟩⟩
def Sl.bor:Sl->Sl
 | .ow d=>.bw d
 | .io d=>.bw d
 | .hd _ _ _=>.un
 |s=>s
def cMe (k:Nat)(cap:List Nat)(m:Me):Me:=List.replicate k .un++cap.map λj=>(m.getD j .un).bor
def v5 (h:D->Me->Option Me)(ft:Me->Res Bool)(fe:Me->Res D)(m0:Me):List D->Res (List D)
 |[]=>.ok []
 |d::ds=>match h d m0 with
  |none=>.stuck
  |some m1=>match ft m1 with
   | .ok true=>match fe m1 with
    | .ok y=>match v5 h ft fe m0 ds with
     | .ok ys=>.ok (y::ys)
     |_=>.stuck
    |_=>.stuck
   | .ok false=>v5 h ft fe m0 ds
   |_=>.stuck
def cG (k:Nat)(cap:List Nat)(fi:Me->Res (List D))(h:D->Me->Option Me)(ft:Me->Res Bool)(fe:Me->Res D):Me->Res D:=λm=>(fi m).bind λds=>
 if ds.length<=sizeLine then match v5 h ft fe (cMe k cap m) ds with
  | .ok ys=>.ok (.lst ys)
  |_=>.stuck
 else .stuck
abbrev Vn (X:Cx)(E:XK)(ifs:List Expr)(f:Me->Res Bool):Prop:=QG X ifs (tT (gx X) E f)
def eU:Me->Res Bool:=λ_=>.ok true
theorem cM {X:Cx}{E:XK}:Vn X E [] eU:=λpins s σ H Q I hE=>xq5 hE λO0 M0 H0 ow m R q=>Uo pins s σ H Q I (q H (aL.refl _))
section
variable {X:Cx}{E:XK}{k:Nat}{cap:List Nat}{fi:Me->Res (List D)}{h:D->Me->Option Me}{ft:Me->Res Bool}{fe:Me->Res D}
theorem Qo {G:Gx}{O0 M0:Addr->Prop}{H0 H H2:Hp}{ow:Os}{σ:L2.St}{m:Me}{l:Addr}{zs:List V}(R:Rel G O0 M0 H0 ow σ H m)(g:aL H H2)(hl:H l=none)(hz:H2 l=some (.lst zs)):
  Rel G (Op (Ow O0 ow) l) (λ_=>False) (λ_=>none) (λ_=>none) (cSt k cap σ) H2 (cMe k cap m):=by
 have sub:∀b,Ow (Op (Ow O0 ow) l) (λ_=>none) b->Ow O0 ow b\/H b=none:=λb z=>by
  rw [vH] at z
  exact z.elim .inl λe=>.inr (by rw [e];exact hl)
 have sup:∀b,Ow O0 ow b->Ow (Op (Ow O0 ow) l) (λ_=>none) b:=λb z=>.inl (.inl z)
 refine ⟨by simp [cSt,cMe],λb o e _=>(by cases e),λb z=>z.elim,λb z=>?_,λi a e=>(by cases e),λi j a e=>(by cases e),λ_ _=>rfl,λi s e=>?_⟩
 ·rw [vH] at z
  rcases z with z | z
  ·exact kZ g (R.mutk b z)
  ·rw [z,hz];exact .inl ⟨zs,rfl⟩
 ·unfold cMe at e
  by_cases hi:i<k
  ·rw [List.getElem?_append_left (by simpa using hi),List.getElem?_replicate,if_pos hi] at e
   cases e
   rfl
  ·rw [List.getElem?_append_right (by simp;omega),List.length_replicate,List.getElem?_map] at e
   have eσ:(cSt k cap σ)[i]? = (cap[i-k]?).map λj=>(σ[j]?).join:=by
    unfold cSt
    rw [List.getElem?_append_right (by simp;omega),List.length_replicate,List.getElem?_map]
   cases ec:cap[i-k]? with
   |none=>rw [ec] at e;cases e
   |some j=>
    rw [ec] at e eσ
    rw [eσ]
    cases ej:m[j]? with
    |none=>
     have:m.getD j .un=.un:=by simp [List.getD,ej]
     rw [Option.map_some,this] at e
     cases e
     rfl
    |some s0=>
     have:m.getD j .un=s0:=by simp [List.getD,ej]
     rw [Option.map_some,this] at e
     cases e
     have z:=R.slot j s0 ej
     cases s0 with
     |un=>rfl
     |fz d=>
      obtain ⟨_,x,e1,hv⟩:=z
      exact ⟨rfl,x,by rw [Option.map_some,e1];rfl,(hv.cJ sub).mono g⟩
     |ow d=>
      obtain ⟨a,h1,h2,h3,h4⟩:=z
      exact ⟨rfl,.ref a,by rw [Option.map_some,h3];rfl,.inr ⟨a,rfl,sup a (.inr ⟨j,h1⟩),(h4.cJ sub).mono g⟩⟩
     |io d=>
      obtain ⟨a,h1,h2,h3,h4⟩:=z
      exact ⟨rfl,.ref a,by rw [Option.map_some,h3];rfl,.inr ⟨a,rfl,sup a (.inr ⟨j,h1⟩),(h4.cJ sub).mono g⟩⟩
     |bw d=>
      obtain ⟨_,x,e1,hv⟩:=z
      refine ⟨rfl,x,by rw [Option.map_some,e1];rfl,?_⟩
      rcases hv with hv | ⟨a,e2,o,hv⟩
      ·exact .inl ((hv.cJ sub).mono g)
      ·exact .inr ⟨a,e2,sup a o,(hv.cJ sub).mono g⟩
     |hd w a d=>rfl
theorem Ef {σ:L2.St}{H:Hp}{Q:VK}(hq:tN (gx X) E (cG k cap fi h ft fe) σ H Q):Ly k cap (tIw (gx X) E fi) (tG (gx X) k h) (tT (gx X) E0 ft) (tE (gx X) E0 fe) σ H Q:=by
 obtain ⟨O0,M0,H0,ow,m,R,q⟩:=hq
 refine ⟨O0,M0,H0,ow,m,R,q.bind.imp (aL.refl _) λds q J H1 g1 it l hl=>?_⟩
 obtain ⟨hz,q⟩:=t8 q
 cases hc:v5 h ft fe (cMe k cap m) ds with
 |exc c=>rw [hc] at q;exact q.elim
 |stuck=>rw [hc] at q;exact q.elim
 |ok ys=>
  rw [hc] at q
  have hlH:H l=none:=g1.free hl
  have mk1:∀b,Op (Ow O0 ow) l b->Ow O0 ow b\/H1 b=none:=λb z=>z.elim .inl λe=>.inr (by rw [e];exact hl)
  refine ⟨λi n zs H'=>n=ds.length-i/\i<=ds.length/\zs.length<=i/\aL H1 H'/\H' l=some (.lst zs)/\∃es rest,DVs (gx X) (Op (Ow O0 ow) l) H' zs es/\v5 h ft fe (cMe k cap m) (ds.drop i)=.ok rest/\es++rest=ys,
   ⟨ds.length,by simp,Nat.zero_le _,Nat.le_refl _,dG hl _,bY,[],ys,.nil,hc,rfl⟩,?_⟩
  rintro i n zs H' ⟨rfl,hi,hzi,g2,hH,es,rest,hes,hcr,hys⟩
  obtain ⟨i1,i2,i3⟩:=it (Op (Ow O0 ow) l) H' ⟨mk1,g2⟩
  by_cases hlt:i<ds.length
  ·refine .inr ⟨i1 i hlt,λx H2 y=>?_⟩
   obtain ⟨g3,d,hd,dv⟩:=i2 i x H2 hlt y
   have ed:ds.drop i=d::ds.drop (i+1):=by
    rw [List.drop_eq_getElem_cons hlt]
    rw [List.getElem?_eq_getElem hlt] at hd
    cases hd
    rfl
   rw [ed] at hcr
   unfold v5 at hcr
   cases eh:h d (cMe k cap m) with
   |none=>rw [eh] at hcr;cases hcr
   |some m1=>
    rw [eh] at hcr
    have G2:aL H H2:=(g1.trans g2).trans g3
    have R2:=Qo (k:=k) (cap:=cap) (l:=l) (zs:=zs) R G2 hlH (g3 _ _ hH)
    refine ⟨_,_,_,_,_,d,m1,R2,by rw [vH];exact dv,eh,λow' σ' R' g' nb hdr=>⟨hdr,_,_,_,ow',m1,R',?_⟩⟩
    simp only [] at hcr
    cases et:ft m1 with
    |exc c=>rw [et] at hcr;cases hcr
    |stuck=>rw [et] at hcr;cases hcr
    |ok t=>
     rw [et] at hcr
     intro H3 g4
     cases t with
     |false=>
      rw [if_neg Bool.false_ne_true]
      exact ⟨ds.length-(i+1),by omega,rfl,hlt,by omega,(g2.trans g3).trans g4,g4 _ _ (g3 _ _ hH),es,rest,hes.mono (g3.trans g4),hcr,hys⟩
     |true=>
      rw [if_pos rfl]
      refine ⟨_,_,_,ow',m1,R'.mono g4,?_⟩
      simp only [] at hcr
      cases ee:fe m1 with
      |exc c=>rw [ee] at hcr;cases hcr
      |stuck=>rw [ee] at hcr;cases hcr
      |ok y'=>
       rw [ee] at hcr
       intro v H5 g5 hv
       simp only [] at hcr
       cases er:v5 h ft fe (cMe k cap m) (ds.drop (i+1)) with
       |exc c=>rw [er] at hcr;cases hcr
       |stuck=>rw [er] at hcr;cases hcr
       |ok rest'=>
        rw [er] at hcr
        cases hcr
        have G5:aL H' H5:=(g3.trans g4).trans g5
        have mk5:∀b,Op (Ow O0 ow) l b->fP (H5 b):=λb z=>by
         rcases z with z | z
         ·exact kZ (((g1.trans g2).trans G5)) (R.mutk b z)
         ·rw [z,G5 _ _ hH];exact .inl ⟨zs,rfl⟩
        have kp5:Kp (Op (Ow O0 ow) l) H5 (upd H5 l (.lst (zs++[v]))):=λb o e n=>by
         rw [bj (show b≠l from λz=>n (.inr z))]
         exact e
        refine ⟨G5 _ _ hH,by omega,ds.length-(i+1),by omega,rfl,hlt,by rw [List.length_append,List.length_singleton];omega,?_,bY,es++[y'],rest',?_,er,by rw [List.append_assoc];exact hys⟩
        ·exact Mh ((VF (g2.trans G5)).trans Sv) hl
        ·exact qY ((hes.mono G5).kp mk5 kp5) (.cons ((hv.cJ λb z=>.inl (.inl z)).kp mk5 kp5) .nil)
  ·have e:i=ds.length:=by omega
   subst e
   rw [List.drop_length] at hcr
   cases hcr
   rw [List.append_nil] at hys
   subst hys
   exact .inl ⟨i3,q l H' (g1.trans g2) hlH ⟨zs,hH,hes⟩⟩
section
variable {tg iter elt:Expr}{ifs:List Expr}{scope:Scope}{pos:Pos}
theorem fB (sc:Scope)(N' caps:List Str)(k:Nat)(cap:List Nat)(hcalm:X.calm=true)(S:CSc sc scope caps)(hcap:Paired (λj x=>X.N[j]? = some x) cap caps)
  (hi:FIw X E tg iter fi) (hg:∀cl C sE HE fp pins,FG (dJ X N' scope cl C sE HE fp pins) k tg h) (ht:∀cl C sE HE fp pins,Vn (dJ X N' scope cl C sE HE fp pins) E0 ifs ft) (he:∀cl C sE HE fp pins,FE (dJ X N' scope cl C sE HE fp pins) E0 elt fe)
  (hsc:X.env.scope=sc:=by rfl) (hN:N'.drop k=caps:=by rfl) (hk:k<=N'.length:=by decide) (hs:∀x,foldedSetIterable iter X.env x=pure x:=by intro _;rfl):
  FN X E (.ListComp elt [⟨tg,iter,ifs,0⟩] scope pos) (cG k cap fi h ft fe):=cF (U4 sc N' caps k cap hcalm S hcap hi hg ht he hsc hN hk hs) λ_ _ _ q=>Ef q
variable {i:Nat}{y:Str}{py spos:Pos}
theorem wV (sc:Scope)(N' caps:List Str)(k:Nat)(cap:List Nat)(hnd:X.N.Nodup)(hi':X.N[i]? = some y)(hy:Loc X.env.scope y)(hcalm:X.calm=true)(S:CSc sc scope caps)(hcap:Paired (λj x=>X.N[j]? = some x) cap caps)
  (hi:FIw X E tg iter fi) (hg:∀cl C sE HE fp pins,FG (dJ X N' scope cl C sE HE fp pins) k tg h) (ht:∀cl C sE HE fp pins,Vn (dJ X N' scope cl C sE HE fp pins) E0 ifs ft) (he:∀cl C sE HE fp pins,FE (dJ X N' scope cl C sE HE fp pins) E0 elt fe)
  (hsw:swapsWith (.ListComp elt [⟨tg,iter,ifs,0⟩] scope pos) (some (.Name y py)) spos.line X.env=pure true:=by rfl)
  (hsc:X.env.scope=sc:=by rfl) (hN:N'.drop k=caps:=by rfl) (hk:k<=N'.length:=by decide) (hs:∀x,foldedSetIterable iter X.env x=pure x:=by intro _;rfl)
  (hf:X.fn y=true\/X.env.scope.names.lookup y=some .local:=by first | exact .inl rfl | exact .inr rfl | assumption):
  FS X E (.Assign [.Name y py] (.ListComp elt [⟨tg,iter,ifs,0⟩] scope pos) spos) (bf i (cG k cap fi h ft fe)):=
 eE (Bw sc N' caps k cap hnd hi' hy hcalm S hcap hi hg ht he hsw hsc hN hk hs hf) λW σ H q=>by
  refine Ef (h:=h) (ft:=ft) (fe:=fe) (Q:=λx H1=>Ax i x σ H1 W.nx) ?_
  obtain ⟨O0,M0,H0,ow,m,R,q⟩:=QT q
  exact ⟨O0,M0,H0,ow,m,R,q.imp (aL.refl _) λ_ k p H' g n o=>k _ H' g ((o.cJ λb z=>.inl (.inl z)).dv (R.zm n))⟩
theorem Ai (sc:Scope)(N' caps:List Str)(k:Nat)(cap:List Nat)(hnd:X.N.Nodup)(hi':X.N[i]? = some y)(hy:Loc X.env.scope y)(hcalm:X.calm=true)(S:CSc sc scope caps)(hcap:Paired (λj x=>X.N[j]? = some x) cap caps)
  (hi:FIw X E tg iter fi) (hg:∀cl C sE HE fp pins,FG (dJ X N' scope cl C sE HE fp pins) k tg h) (ht:∀cl C sE HE fp pins,Vn (dJ X N' scope cl C sE HE fp pins) E0 ifs ft) (he:∀cl C sE HE fp pins,FE (dJ X N' scope cl C sE HE fp pins) E0 elt fe)
  (hsw:swapsWith (.ListComp elt [⟨tg,iter,ifs,0⟩] scope pos) (some (.Name y py)) spos.line X.env=pure true:=by rfl)
  (hsc:X.env.scope=sc:=by rfl) (hN:N'.drop k=caps:=by rfl) (hk:k<=N'.length:=by decide) (hs:∀x,foldedSetIterable iter X.env x=pure x:=by intro _;rfl)
  (hf:X.fn y=true\/X.env.scope.names.lookup y=some .local:=by first | exact .inl rfl | exact .inr rfl | assumption):
  FS X E (.Assign [.Name y py] (.ListComp elt [⟨tg,iter,ifs,0⟩] scope pos) spos) (uc i (cG k cap fi h ft fe)):=
 eE (Bw sc N' caps k cap hnd hi' hy hcalm S hcap hi hg ht he hsw hsc hN hk hs hf) λW σ H q=>Ef (Q:=λx H1=>Ax i x σ H1 W.nx) (PK q)
end
end
def spF (G:Gx)(Φ:List D->Res (Bool×D)):Sp:=λvs H Q E=>∃O ds,(∀b,O b->fP (H b))/\DVs G O H vs ds/\Pu G E (Φ ds) H λr=>∀v H',aL H H'->DV G O H' v r.2->(r.1=true->Fr G O H v H' r.2)->Q v H'
def c7 (N n:Nat)(g:Me->Res (Fl×Me)):List D->Res (Bool×D):=λds=>if ds.length=n then match g (ds.map Sl.fz++List.replicate (N-n) Sl.un) with
  | .ok (.rt fr d,_)=>.ok (fr,d)
  | .ok (.nx,_)=>.ok (false,.non)
  | .exc c=>.exc c
  |_=>.stuck
 else .stuck
abbrev FF (P:Program)(w:World)(K:W.Frag)(mg:Str->Option Value)(base:Heap)(k:Nat)(x:Str)(ps:List Str)(Φ:List D->Res (Bool×D)):Prop:=Hd.Fn P w K mg base k x ps (spF ⟨K,mg⟩ Φ)
theorem Oa {G:Gx}{O:Addr->Prop}{H:Hp}{N:List Str}{vs:List V}{ds:List D}{n:Nat}(hm:∀b,O b->fP (H b))(hd:DVs G O H vs ds)(hn:ds.length=n):
  du G O (λ_=>False) H (λ_=>none) (L2.start N vs) H (ds.map Sl.fz++List.replicate (N.length-n) Sl.un):=by
 have hl:=cH hd
 refine ⟨⟨by simp [L2.start,hl,hn],λb o e _=>e,λb z=>z.elim,λb z=>by rw [vH] at z;exact hm b z,λi a e=>(by cases e),λi j a e=>(by cases e),λ_ _=>rfl,λi s e=>?_⟩,λj d e=>?_⟩
 ·by_cases hi:i<ds.length
  ·rw [List.getElem?_append_left (by simpa using hi),List.getElem?_map] at e
   cases ed:ds[i]? with
   |none=>rw [ed] at e;cases e
   |some d=>
    rw [ed] at e
    cases e
    obtain ⟨x,hx,dx⟩:=yz hd ed
    refine ⟨rfl,x,?_,by rw [vH];exact dx⟩
    unfold L2.start
    rw [List.getElem?_append_left (by simpa [hl] using hi),List.getElem?_map,hx]
    rfl
  ·rw [List.getElem?_append_right (by simp;omega),List.getElem?_replicate] at e
   split at e
   ·cases e;rfl
   ·cases e
 ·by_cases hi:j<ds.length
  ·rw [List.getElem?_append_left (by simpa using hi),List.getElem?_map] at e
   cases ed:ds[j]? with
   |none=>rw [ed] at e;cases e
   |some d=>rw [ed] at e;cases e
  ·rw [List.getElem?_append_right (by simp;omega),List.getElem?_replicate] at e
   split at e<;>cases e
section
variable {P:Program}{w:World}{K:W.Frag}{mg:Str->Option Value}{base:Heap}
theorem bZ {x qual:Str}{st:Stmt}{f:Addr}{fd:FuncData}{N ps:List Str}{k:Nat}{g:Me->Res (Fl×Me)}(Fu:Fun K x qual st f fd)(S:bI N ps (aG st))
  (hbody:∀(cdv:Value) (A:Around) (outer:List Env) (s:Shared) (H:Hp) (E:XK),gw k (A.deeper (envOfC qual (aG st) s.heap.objs.size f cdv))->
   FSs (zx (CX1 P w) P w K mg base N qual (aG st) f cdv A outer s H E) E (jc st) g):dm P w K mg base (CX1 P w) (k+1) f fd ps (spF ⟨K,mg⟩ (c7 N.length ps.length g)):=by
 refine Es Fu S (λvs H Q E h=>?_) (λcdv A outer s H vs Q E hr h=>?_)
 ·obtain ⟨O,ds,_,hd,q⟩:=h
  rw [cH hd]
  unfold c7 at q
  exact (t8 q).1
 ·obtain ⟨O,ds,hm,hd,q⟩:=h
  unfold c7 at q
  obtain ⟨hn,q⟩:=t8 q
  refine ⟨_,hbody cdv A outer s H E hr,O,λ_=>False,H,λ_=>none,_,Oa hm hd hn,?_⟩
  have sm:∀{ow' σ' H' m'},du (⟨K,mg⟩:Gx) O (λ_=>False) H ow' σ' H' m'->aL H H':=λR b o e=>R.keep b o e id
  cases z:g (ds.map Sl.fz++List.replicate (N.length-ps.length) Sl.un) with
  |exc c=>rw [z] at q;exact λC H' e kp=>q C H' e λb o e=>kp b o e id
  |stuck=>rw [z] at q;exact q.elim
  |ok a=>
   obtain ⟨fl,m'⟩:=a
   rw [z] at q
   cases fl with
   |bk=>exact q.elim
   |ct=>exact q.elim
   |nx=>exact λow' σ' H' R' _=>q _ H' (sm R') .non λz=>by cases z
   |rt fr d=>
    intro v ow' σ' H' R' _ hv hf
    refine q v H' (sm R') (hv.cJ λb z=>.inl (.inl z)) λz=>?_
    rcases hf z with ⟨p,e1,e2,e3⟩ | t
    ·exact .inl ⟨p,e1,e2,e3.cJ λb z=>.inl (z.elim (λy=>.inl (.inl y)) .inr)⟩
    ·exact .inr t
end
def fFn (Φ:List D->Res (Bool×D))(fs:Me->Res (List D)):Me->Res D:=λm=>(fs m).bind λds=>(Φ ds).bind λr=>.ok r.2
section
variable {X:Cx}{E:XK}{j k:Nat}{x:Str}{ps:List Str}{Φ:List D->Res (Bool×D)}{p pos:Pos}{e:Expr}{es:List Expr}{fs:Me->Res (List D)}
theorem bR (Fh:FF X.prog X.w X.K X.mg X.base k x ps Φ)(hr:gw j X.A)(hx:Passes (CX1 X.prog X.w) X E)(ha:FAE X E (e::es) fs)(hk:k<=j:=by decide)(hg:Gl X x:=by rfl)
  (hdb:(x == ("__debug__" : Str))=false:=by decide) (he:starEach (e::es) X.env=(false,eval e X.env)::starEach es X.env:=by rfl) (hpl:(backTo pos (starEach es X.env)).any (·.1)=false:=by rfl):
  FE X E (.Call (.Name x p) (e::es) [] pos) (fFn Φ fs):=by
 obtain ⟨f,fd,G,b,kp,m⟩:=Fh.ex
 refine cF (zW G (hr.mono hk) hg m kp b .nil hx ha hdb he hpl) λσ H Q hE=>xq5 hE λO0 M0 H0 ow m R q=>⟨O0,M0,H0,ow,m,R,q.bind.imp (aL.refl _) λds q vs H1 g1 hv=>?_⟩
 show spF _ _ (vs++[]) _ _ _
 rw [List.append_nil]
 exact ⟨_,ds,(R.mono g1).mutk,hv,q.bind.imp g1 λr q v H' g2 hv' _=>q v H' (g1.trans g2) hv'⟩
end
def Bg (i:Int):Prop:=i.natAbs<lmM
instance (i:Int):Decidable (Bg i):=inferInstanceAs (Decidable (_<_))
def Bq (i:Int):Prop:=i.natAbs<lmD
instance (i:Int):Decidable (Bq i):=inferInstanceAs (Decidable (_<_))
theorem VM {i:Int}(h:i.natAbs<2 ^ 60000):Bg i:=by unfold Bg;rw [Ru];exact h
theorem Zh {i:Int}(h:i.natAbs<2 ^ 8900):Bq i:=by unfold Bq;rw [JL];exact h
@[simp] theorem aa0 {i:Int}(h:Bq i):Bg i:=by
 unfold Bq at h
 rw [JL] at h
 exact VM (Nat.lt_of_lt_of_le h (Nat.pow_le_pow_right (by decide) (by decide)))
def dvI (i j:Int):Int:=if 0<j then i / j else i.fdiv j
def mdI (i j:Int):Int:=if 0<j then i % j else i.fmod j
def eX:D->D->Option D
 | .int i,.int j=>some (.int (i+j))
 | .str a,.str b=>if a.length+b.length<=sizeLine then some (.str (a++b)) else none
 | .lst a,.lst b=>if a.length+b.length<=sizeLine then some (.lst (a++b)) else none
 | .tup a,.tup b=>if a.length+b.length<=sizeLine then some (.tup (a++b)) else none
 |_,_=>none
def yP:D->D->Option D
 | .int i,.int j=>some (.int (i-j))
 |_,_=>none
def eV:D->D->Option D
 | .int i,.int j=>if Bg i/\Bg j then some (.int (i*j)) else none
 |_,_=>none
def jL:D->D->Option D
 | .int i,.int j=>if j≠0/\Bq j then some (.int (dvI i j)) else none
 |_,_=>none
def fY:D->D->Option D
 | .int i,.int j=>if j≠0 then some (.int (mdI i j)) else none
 |_,_=>none
def Ue:D->D->Option D
 | .int i,.int j=>if 0<=j/\j<=1000000/\i.natAbs<2 ^ 64 then some (.int (i ^ j.toNat)) else none
 |_,_=>none
def rJ:D->Option D
 | .int i=>some (.int (-i))
 |_=>none
section
variable {X:Cx}
theorem oif {c:Prop}[Decidable c]{α:Type}{a r:α}(h:(if c then some a else none)=some r):c/\a=r:=by
 by_cases z:c
 ·rw [if_pos z] at h;exact ⟨z,Option.some.inj h⟩
 ·rw [if_neg z] at h;cases h
theorem Us {pins:List (Addr×Obj)}{σ:L2.St}{H:Hp}{s:Shared}{Q:VK}{O:Addr->Prop}{i:Str}{t:Tok}{tk:Nat}(I:Inv X pins σ H s)(q:∀v H',aL H H'->DV (gx X) O H' v (.str i)->Q v H'):EP X pins σ Q (.str i t) { s with toks:=tk }:=
 ⟨.str i,H,I.tok _,⟨t,rfl⟩,q _ _ (aL.refl _) (.str i)⟩
theorem Mg {pins:List (Addr×Obj)}{σ:L2.St}{H:Hp}{s:Shared}{Q:VK}{O:Addr->Prop}{xs:List V}{ds:List D}{its:List Value}{h':Heap}{tk:Nat}(I:Inv X pins σ H s)(m:∀b,O b->fP (H b))(hd:DVs (gx X) O H xs ds)(r:Vals xs its)(hz:xs.length<=sizeLine)
  (kp:∀b o,s.heap.get? b=some o->h'.get? b=some o) (e:∃n,h'.get? s.heap.objs.size=some { cls:=.type "list",data:=.seq its.toArray n }) (q:∀p H',aL H H'->H p=none->OV (gx X) (Op O p) H' p (.lst ds)->Q (.ref p) H'):EP X pins σ Q (.ref s.heap.objs.size) { s with heap:=h',toks:=tk }:=by
 have hf:H s.heap.objs.size=none:=I.hok.fresh (Nat.le_refl _)
 obtain ⟨n,e⟩:=e
 refine ⟨.ref s.heap.objs.size,upd H s.heap.objs.size (.lst xs),I.laid kp (Nat.le_refl _) ⟨hz,its,n,r,e⟩,rfl,q _ _ (dG hf _) hf ⟨xs,bY,?_⟩⟩
 exact (hd.cJ λb z=>z.elim .inl λe=>.inr (by rw [e];exact hf)).mono (dG hf _)
theorem JT {G:Gx}{O:Addr->Prop}{H:Hp}{r:D}{Q:VK}(m:∀b,O b->fP (H b))(q:∀v H',aL H H'->DV G O H' v r->Q v H'):∀p H',aL H H'->H p=none->OV G (Op O p) H' p r->Q (.ref p) H':=λp H' g n o=>
 q _ H' g ((o.cJ λb z=>.inl (.inl z)).dv λz=>by
  have:=m p z
  rw [n] at this
  rcases this with ⟨_,e⟩ | ⟨_,e⟩ | ⟨_,e⟩ | ⟨_,e⟩<;>cases e)
def ZX (G:Gx):R2:=λx y H Q=>∃O ds es,(∀b,O b->fP (H b))/\DW G O H x (.lst ds)/\DW G O H y (.lst es)/\ds.length+es.length<=sizeLine/\∀p H',aL H H'->H p=none->OV G (Op O p) H' p (.lst (ds++es))->Q (.ref p) H'
theorem LC:OpR X (binaryOp .Add) (ZX (gx X)):=by
 intro pins s σ H x y v u Q I rx ry h
 obtain ⟨O,ds,es,m,hx,hy,hz,q⟩:=h
 obtain ⟨a,xs,rfl,ha,hd⟩:=oF hx
 obtain ⟨b,ys,rfl,hb,he⟩:=oF hy
 cases rx
 cases ry
 obtain ⟨its,r1,p1,_⟩:=I.list ha
 obtain ⟨its2,r2,p2,_⟩:=I.list hb
 have l1:=cH hd
 have l2:=cH he
 have k1:=r1.length
 have k2:=r2.length
 obtain ⟨⟨cls,dd,data,sl⟩,ho,hc,n,hdt⟩:=id p1.isList
 obtain ⟨⟨cls2,dd2,data2,sl2⟩,ho2,hc2,n2,hd2⟩:=id p2.isList
 simp only at hc hdt hc2 hd2
 subst hc hdt hc2 hd2
 refine concat_meets ⟨_,ho,rfl⟩ ⟨_,ho2,rfl⟩ noFill_list_add seq_list_add PySem.F.slot_list_add PySem.F.entry_list_add (PySem.F.args_list_add_2 _ _) (list_addW a b its.toArray its2.toArray n n2 dd dd2 sl sl2 (by simp;omega)) ⟨ho,ho2,?_⟩
 rw [show its.toArray++its2.toArray=(its++its2).toArray by simp]
 exact Mg (tk:=s.toks) I m (qY hd he) (r1.append r2) (by rw [List.length_append];omega) (λb o e=>Heap.get?_push_of_some _ e) ⟨0,Heap.get?_push_size _ rfl⟩ q
theorem R6:OpR X (binaryOp .Add) (λx y H Q=>∃O ds es,DW (gx X) O H x (.tup ds)/\DW (gx X) O H y (.tup es)/\ds.length+es.length<=sizeLine/\∀v H',aL H H'->DV (gx X) O H' v (.tup (ds++es))->Q v H'):=by
 intro pins s σ H x y v u Q I rx ry h
 obtain ⟨O,ds,es,hx,hy,hz,q⟩:=h
 obtain ⟨a,xs,rfl,ha,hd⟩:=Mw hx
 obtain ⟨b,ys,rfl,hb,he⟩:=Mw hy
 have l1:=cH hd
 have l2:=cH he
 by_cases hx0:xs=[]
 ·subst hx0
  cases hd
  cases rx
  cases ry
  obtain ⟨its,r1,p1,_⟩:=I.tuple ha.sq
  obtain ⟨its2,r2,p2,_⟩:=I.tuple hb.sq
  cases r1
  obtain ⟨⟨cls,dd,data,sl⟩,ho,hc,n,hdt⟩:=id p1
  obtain ⟨⟨cls2,dd2,data2,sl2⟩,ho2,hc2,n2,hd2⟩:=id p2
  simp only at hc hdt hc2 hd2
  subst hc hdt hc2 hd2
  exact concat_meets ⟨_,ho,rfl⟩ ⟨_,ho2,rfl⟩ noFill_tuple_add seq_tuple_add PySem.F.slot_tuple_add PySem.F.entry_tuple_add (PySem.F.args_tuple_add_2 _ _)
   (tuple_addW0 a b ([]:List Value).toArray its2.toArray n n2 dd dd2 sl sl2 (by rfl)) ⟨ho,ho2,⟨.ref b,H,I,rfl,q _ _ (aL.refl _) (.tup hb he)⟩⟩
 ·refine Ug pins s σ H _ _ v u Q I rx ry ⟨a,b,xs,ys,rfl,rfl,ha.sq,hb.sq,hx0,by omega,λz=>?_,λz p hp=>?_⟩
  ·subst z
   cases he
   exact q _ _ (aL.refl _) (by rw [List.append_nil];exact .tup ha hd)
  ·exact q _ _ (dG hp _) (.tup (SqU.of bY) ((qY hd he).mono (dG hp _)))
theorem fL:OpR X (binaryOp .Add) (rG (gx X) eX):=by
 intro pins s σ H x y v u Q I rx ry h
 obtain ⟨O,d,e,r,m,hx,hy,hr,q⟩:=h
 match d,e,hr with
 | .int i,.int j,hr=>
  cases hr
  exact Wz pins s σ H x y v u Q I rx ry ⟨i,j,dU hx,dU hy,q _ _ (aL.refl _) (.int _)⟩
 | .str i,.str j,hr=>
  obtain ⟨z,rfl⟩:=oif hr
  exact Jl pins s σ H x y v u Q I rx ry ⟨i,j,um hx,um hy,z,q _ _ (aL.refl _) (.str _)⟩
 | .lst ds,.lst es,hr=>
  obtain ⟨z,rfl⟩:=oif hr
  exact LC pins s σ H x y v u Q I rx ry ⟨O,ds,es,m,hx,hy,z,JT m q⟩
 | .tup ds,.tup es,hr=>
  obtain ⟨z,rfl⟩:=oif hr
  exact R6 pins s σ H x y v u Q I rx ry ⟨O,ds,es,hx,hy,z,q⟩
theorem yo:OpR X (binaryOp .Sub) (rG (gx X) yP):=by
 intro pins s σ H x y v u Q I rx ry h
 obtain ⟨O,d,e,r,m,hx,hy,hr,q⟩:=h
 match d,e,hr with
 | .int i,.int j,hr=>
  cases hr
  exact Xb pins s σ H x y v u Q I rx ry ⟨i,j,dU hx,dU hy,q _ _ (aL.refl _) (.int _)⟩
theorem cI:OpR X (binaryOp .Mult) (rG (gx X) eV):=by
 intro pins s σ H x y v u Q I rx ry h
 obtain ⟨O,d,e,r,m,hx,hy,hr,q⟩:=h
 match d,e,hr with
 | .int i,.int j,hr=>
  obtain ⟨z,rfl⟩:=oif hr
  exact Ul pins s σ H x y v u Q I rx ry ⟨i,j,dU hx,dU hy,z,q _ _ (aL.refl _) (.int _)⟩
theorem je:OpR X (binaryOp .FloorDiv) (rG (gx X) jL):=by
 intro pins s σ H x y v u Q I rx ry h
 obtain ⟨O,d,e,r,m,hx,hy,hr,q⟩:=h
 match d,e,hr with
 | .int i,.int j,hr=>
  obtain ⟨z,rfl⟩:=oif hr
  refine R0 pins s σ H x y v u Q I rx ry ⟨i,j,dU hx,dU hy,z,?_⟩
  have e:i.fdiv j=dvI i j:=by
   unfold dvI
   split
   ·rw [Int.fdiv_eq_ediv_of_nonneg i (by omega)]
   ·rfl
  show Q (.int (i.fdiv j)) H
  rw [e]
  exact q _ _ (aL.refl _) (.int _)
theorem gP:OpR X (binaryOp .Mod) (rG (gx X) fY):=by
 intro pins s σ H x y v u Q I rx ry h
 obtain ⟨O,d,e,r,m,hx,hy,hr,q⟩:=h
 match d,e,hr with
 | .int i,.int j,hr=>
  obtain ⟨z,rfl⟩:=oif hr
  refine S7 pins s σ H x y v u Q I rx ry ⟨i,j,dU hx,dU hy,z,?_⟩
  have e:i.fmod j=mdI i j:=by
   unfold mdI
   split
   ·rw [Int.fmod_eq_emod_of_nonneg i (by omega)]
   ·rfl
  show Q (.int (i.fmod j)) H
  rw [e]
  exact q _ _ (aL.refl _) (.int _)
theorem Mm:OpR X (binaryOp .Pow) (rG (gx X) Ue):=by
 intro pins s σ H x y v u Q I rx ry h
 obtain ⟨O,d,e,r,m,hx,hy,hr,q⟩:=h
 match d,e,hr with
 | .int i,.int j,hr=>
  obtain ⟨z,rfl⟩:=oif hr
  exact Xa pins s σ H x y v u Q I rx ry ⟨i,j,dU hx,dU hy,z,q _ _ (aL.refl _) (.int _)⟩
theorem nD:UnR X (unaryOp .USub) (rG1 (gx X) rJ):=by
 intro pins s σ H x v Q I rx h
 obtain ⟨O,d,r,m,hx,hr,q⟩:=h
 match d,hr with
 | .int i,hr=>
  cases hr
  exact Wc pins s σ H x v Q I rx ⟨i,dU hx,q _ _ (aL.refl _) (.int _)⟩
mutual
def toPy:D->Option PyData
 | .non=>some .none
 | .bl b=>some (.bool b)
 | .int i=>some (.int i)
 | .str x=>some (.str x)
 | .tup xs=>(ur xs).map .tuple
 | .lst xs=>(ur xs).map .list
 | .exc _=>none
 | .dct _ _=>none
 | .dcu _ _=>none
 | .adr _=>none
 | .ins _ _ _=>none
 | .dcf _ _=>none
def ur:List D->Option (List PyData)
 |[]=>some []
 |d::ds=>(toPy d).bind λp=>(ur ds).map λps=>p::ps
end
mutual
theorem M5 {G:Gx}{O:Addr->Prop}{H:Hp}:∀{v:V} {d:D} {p:PyData},DV G O H v d->toPy d=some p->Hd.DV G.K H v p
 |_,_,_,.non,e=>by cases e;exact .non
 |_,_,_,.bl b,e=>by cases e;exact .bl b
 |_,_,_,.int i,e=>by cases e;exact .int i
 |_,_,_,.str x,e=>by cases e;exact .str x
 |_,_,_,.exc _ _,e=>by cases e
 |_,_,_,.tup h hs,e=>by
  obtain ⟨ps,e1,rfl⟩:=omap (by simpa [toPy] using e)
  exact .tup h.sq (Bx hs e1)
 |_,_,_,.lst h hs,e=>by
  obtain ⟨ps,e1,rfl⟩:=omap (by simpa [toPy] using e)
  exact .lst h.sq (Bx hs e1)
 |_,_,_,.dct _ _ _ _ _,e=>by cases e
 |_,_,_,.dcu _ _ _ _ _,e=>by cases e
 |_,_,_,.adr _,e=>by cases e
 |_,_,_,.ins _ _ _ _ _ _,e=>by cases e
 |_,_,_,.dcf _ _ _ _,e=>by cases e
theorem Bx {G:Gx}{O:Addr->Prop}{H:Hp}:∀{vs:List V} {ds:List D} {ps:List PyData},DVs G O H vs ds->ur ds=some ps->Hd.DVs G.K H vs ps
 |_,_,_,.nil,e=>by cases e;exact .nil
 |_,_,_,.cons (d:=d) (ds:=ds) h hs,e=>by
  unfold ur at e
  cases e1:toPy d with
  |none=>rw [e1] at e;cases e
  |some p=>
   rw [e1] at e
   obtain ⟨ps,e2,rfl⟩:=omap e
   exact .cons (M5 h e1) (Bx hs e2)
end
theorem xX {G:Gx}{O:Addr->Prop}{H:Hp}{v:V}{d:D}{p:PyData}(h:DW G O H v d)(e:toPy d=some p):Hd.DV G.K H v p:=M5 h.any e
def uT (d e:D):Option Bool:=match toPy d,toPy e with
 |some p,some q=>if SeqAt.shaped p=true/\SeqAt.shaped q=true then some (PyData.eqv p q) else none
 |_,_=>none
def gEq:D->D->Option Bool
 | .int i,.int j=>some (decide (i=j))
 | .str i,.str j=>some (decide (i=j))
 | .bl i,.bl j=>some (decide (i=j))
 | .non,.non=>some true
 |d,e=>uT d e
def gNe (d e:D):Option Bool:=(gEq d e).map (!·)
theorem DP {d e:D}{b:Bool}(h:uT d e=some b):∃p q,toPy d=some p/\toPy e=some q/\SeqAt.shaped p=true/\SeqAt.shaped q=true/\PyData.eqv p q=b:=by
 unfold uT at h
 cases e1:toPy d with
 |none=>rw [e1] at h;cases h
 |some p=>
  cases e2:toPy e with
  |none=>rw [e1,e2] at h;cases h
  |some q=>
   rw [e1,e2] at h
   obtain ⟨⟨z1,z2⟩,rfl⟩:=oif h
   exact ⟨p,q,rfl,rfl,z1,z2,rfl⟩
theorem Dq {d e:D}{b:Bool}(h:gEq d e=some b):(∃i j,d=.int i/\e=.int j/\b=decide (i=j))\/(∃i j,d=.str i/\e=.str j/\b=decide (i=j))\/(∃i j,d=.bl i/\e=.bl j/\b=decide (i=j))\/(d=.non/\e=.non/\b=true)\/uT d e=some b:=by
 unfold gEq at h
 split at h
 ·cases h;exact .inl ⟨_,_,rfl,rfl,rfl⟩
 ·cases h;exact .inr (.inl ⟨_,_,rfl,rfl,rfl⟩)
 ·cases h;exact .inr (.inr (.inl ⟨_,_,rfl,rfl,rfl⟩))
 ·cases h;exact .inr (.inr (.inr (.inl ⟨rfl,rfl,rfl⟩)))
 ·exact .inr (.inr (.inr (.inr h)))
theorem iz (hu:X.A.units+64<cLine):OpR X (compareOp .Eq) (rGB (gx X) gEq):=by
 intro pins s σ H x y v u Q I rx ry h
 obtain ⟨O,d,e,r,m,hx,hy,hr,q⟩:=h
 rcases Dq hr with ⟨i,j,rfl,rfl,rfl⟩ | ⟨i,j,rfl,rfl,rfl⟩ | ⟨i,j,rfl,rfl,rfl⟩ | ⟨rfl,rfl,rfl⟩ | h
 ·cases dU hx;cases dU hy
  exact Ml pins s σ H _ _ v u Q I rx ry ⟨rfl,by simpa using q⟩
 ·cases um hx;cases um hy
  exact Ml pins s σ H _ _ v u Q I rx ry ⟨rfl,by simpa using q⟩
 ·cases zf hx;cases zf hy
  exact Ml pins s σ H _ _ v u Q I rx ry ⟨rfl,by simpa using q⟩
 ·cases yH hx;cases yH hy
  exact Ml pins s σ H _ _ v u Q I rx ry ⟨rfl,by simpa using q⟩
 ·obtain ⟨p,p',e1,e2,z1,z2,rfl⟩:=DP h
  exact W4 hu pins s σ H x y v u Q I rx ry ⟨p,p',xX hx e1,xX hy e2,z1,z2,q⟩
theorem oM (hu:X.A.units+64<cLine):OpR X (compareOp .NotEq) (rGB (gx X) gNe):=by
 intro pins s σ H x y v u Q I rx ry h
 obtain ⟨O,d,e,r,m,hx,hy,hr,q⟩:=h
 obtain ⟨c,hc,rfl⟩:=omap hr
 rcases Dq hc with ⟨i,j,rfl,rfl,rfl⟩ | ⟨i,j,rfl,rfl,rfl⟩ | ⟨i,j,rfl,rfl,rfl⟩ | ⟨rfl,rfl,rfl⟩ | h
 ·cases dU hx;cases dU hy
  exact K9 pins s σ H _ _ v u Q I rx ry ⟨rfl,by simpa using q⟩
 ·cases um hx;cases um hy
  exact K9 pins s σ H _ _ v u Q I rx ry ⟨rfl,by simpa using q⟩
 ·cases zf hx;cases zf hy
  exact K9 pins s σ H _ _ v u Q I rx ry ⟨rfl,by simpa using q⟩
 ·cases yH hx;cases yH hy
  exact K9 pins s σ H _ _ v u Q I rx ry ⟨rfl,by simpa using q⟩
 ·obtain ⟨p,p',e1,e2,z1,z2,rfl⟩:=DP h
  exact Yk hu pins s σ H x y v u Q I rx ry ⟨p,p',xX hx e1,xX hy e2,z1,z2,q⟩
def Jc:List D->Option (List Int)
 |[]=>some []
 | .int i::ds=>(Jc ds).map (i::·)
 |_::_=>none
theorem Gj {G:Gx}{O:Addr->Prop}{H:Hp}:∀{vs:List V} {ds:List D} {ns:List Int},DVs G O H vs ds->Jc ds=some ns->vs=ns.map V.int
 |_,_,_,.nil,e=>by cases e;rfl
 |_,_,_,.cons (d:=d) h hs,e=>by
  cases d with
  |int i=>
   obtain ⟨ns,e1,rfl⟩:=omap (by simpa [Jc] using e)
   cases h
   rw [Gj hs e1]
   rfl
  |_=>cases e
def gLt:D->D->Option Bool
 | .int i,.int j=>some (decide (i<j))
 | .tup a,.tup b=>match Jc a,Jc b with
  |some ns,some ms=>some (HT.lexLt ns ms)
  |_,_=>none
 |_,_=>none
def gGt:D->D->Option Bool
 | .int i,.int j=>some (decide (j<i))
 |_,_=>none
theorem kJ (hu:X.A.units+64<cLine):OpR X (compareOp .Lt) (rGB (gx X) gLt):=by
 intro pins s σ H x y v u Q I rx ry h
 obtain ⟨O,d,e,r,m,hx,hy,hr,q⟩:=h
 match d,e,hr with
 | .int i,.int j,hr=>cases hr;exact ZL pins s σ H x y v u Q I rx ry ⟨i,j,dU hx,dU hy,q⟩
 | .tup a,.tup b,hr=>
  unfold gLt at hr
  cases e1:Jc a with
  |none=>simp only [e1] at hr;cases hr
  |some ns=>
   cases e2:Jc b with
   |none=>simp only [e1,e2] at hr;cases hr
   |some ms=>
    simp only [e1,e2] at hr
    cases hr
    obtain ⟨p,xs,rfl,hp,hd⟩:=uX hx
    obtain ⟨p',ys,rfl,hp',hd'⟩:=uX hy
    exact Xp (by omega) pins s σ H _ _ v u Q I rx ry ⟨p,p',ns,ms,rfl,rfl,by rw [← Gj hd e1];exact hp,by rw [← Gj hd' e2];exact hp',q⟩
theorem wC:OpR X (compareOp .Gt) (rGB (gx X) gGt):=by
 intro pins s σ H x y v u Q I rx ry h
 obtain ⟨O,d,e,r,m,hx,hy,hr,q⟩:=h
 match d,e,hr with
 | .int i,.int j,hr=>cases hr;exact Z7 pins s σ H x y v u Q I rx ry ⟨i,j,dU hx,dU hy,q⟩
def Im:D->Bool
 | .non=>true
 |_=>false
def gIs:D->D->Option Bool
 |d,.non=>some (Im d)
 | .bl i,.bl j=>some (decide (i=j))
 |_,_=>none
def uA (d e:D):Option Bool:=(gIs d e).map (!·)
theorem Rn {G:Gx}{O:Addr->Prop}{H:Hp}{v:V}{d:D}(h:DW G O H v d):decide (v=V.non)=Im d:=by
 rcases h with h | ⟨a,rfl,_,h⟩
 ·cases h<;>rfl
 ·cases d<;>first | rfl | exact h.elim
theorem QQ:OpR X (compareOp .Is) (rGB (gx X) gIs):=by
 intro pins s σ H x y v u Q I rx ry h
 obtain ⟨O,d,e,r,m,hx,hy,hr,q⟩:=h
 unfold gIs at hr
 split at hr
 ·cases hr
  exact Wt pins s σ H x y v u Q I rx ry ⟨yH hy,by rw [Rn hx];exact q⟩
 ·cases hr
  cases zf hx;cases zf hy
  exact Yo pins s σ H _ _ v u Q I rx ry ⟨_,_,rfl,rfl,q⟩
 ·cases hr
theorem xj:OpR X (compareOp .IsNot) (rGB (gx X) uA):=by
 intro pins s σ H x y v u Q I rx ry h
 obtain ⟨O,d,e,r,m,hx,hy,hr,q⟩:=h
 obtain ⟨c,hc,rfl⟩:=omap hr
 unfold gIs at hc
 split at hc
 ·cases hc
  exact Tu pins s σ H x y v u Q I rx ry ⟨yH hy,by rw [Rn hx];exact q⟩
 ·cases hc
  cases zf hx;cases zf hy
  exact O1 pins s σ H _ _ v u Q I rx ry ⟨_,_,rfl,rfl,q⟩
 ·cases hc
end
section
variable {X:Cx}{E:XK}{e a b:Expr}{es:List Expr}{f fa:Me->Res D}{fs:Me->Res (List D)}{pos p:Pos}
def gIx:D->D->Option D
 | .lst ds,.int i=>atI ds i
 | .tup ds,.int i=>atI ds i
 | .str z,.int i=>if z.length<=sizeLine then (atI z.cps.toList i).map λc=>.str ⟨#[c]⟩ else none
 |_,_=>none
theorem MP {G:Gx}{O:Addr->Prop}{H:Hp}{xs:List V}{ds:List D}{i:Int}{d:D}(h:DVs G O H xs ds)(e:atI ds i=some d):∃x,atI xs i=some x/\DV G O H x d:=by
 unfold atI at e ⊢
 rw [cH h]
 cases q:ixN ds.length i with
 |none=>rw [q] at e;cases e
 |some j=>rw [q] at e;exact yz h e
theorem bG:IxR X (rG (gx X) gIx):=by
 intro value slice pins s σ H x y v u Q I rx ry h hs
 obtain ⟨O,d,e,r,m,hx,hy,hr,q⟩:=h
 match d,e,hr with
 | .lst ds,.int i,hr=>
  cases dU hy
  obtain ⟨p,xs,rfl,hp,hd⟩:=oF hx
  obtain ⟨z,hz,dz⟩:=MP hd hr
  exact Uj value slice pins s σ H _ _ v u Q I rx ry ⟨p,xs,i,z,rfl,rfl,hp,hz,q _ _ (aL.refl _) dz⟩ hs
 | .tup ds,.int i,hr=>
  cases dU hy
  obtain ⟨p,xs,rfl,hp,hd⟩:=uX hx
  obtain ⟨z,hz,dz⟩:=MP hd hr
  exact X6 value slice pins s σ H _ _ v u Q I rx ry ⟨p,xs,i,z,rfl,rfl,hp,hz,q _ _ (aL.refl _) dz⟩ hs
 | .str z,.int i,hr=>
  cases dU hy
  cases um hx
  have hr':(if z.length<=sizeLine then (atI z.cps.toList i).map λc=>D.str ⟨#[c]⟩ else none)=some r:=hr
  by_cases hz:z.length<=sizeLine
  ·rw [if_pos hz] at hr'
   obtain ⟨c,hc,rfl⟩:=omap hr'
   exact Yd value slice pins s σ H _ _ v u Q I rx ry ⟨z,i,c,rfl,rfl,hz,hc,q _ _ (aL.refl _) (.str _)⟩ hs
  ·rw [if_neg hz] at hr';cases hr'
def tO (G:Gx)(E:XK)(f:Me->Res (Option Int)):TO:=λσ H Q=>∃O0 M0 H0 ow m,Rel G O0 M0 H0 ow σ H m/\Pu G E (f m) H λo=>∀H',aL H H'->Q o H'
abbrev FO (X:Cx)(E:XK)(e:Option Expr)(f:Me->Res (Option Int)):Prop:=PO X e (tO (gx X) E f)
theorem Lj {e:Option Expr}{T T':TO}(h:PO X e T)(k:∀σ H Q,T' σ H Q->T σ H Q):PO X e T':=λpins s σ H Q I q=>h pins s σ H Q I (k σ H Q q)
def fO0:Me->Res (Option Int):=λ_=>.ok none
def fO1 (f:Me->Res D):Me->Res (Option Int):=λm=>(f m).bind λd=>match d with
 | .int i=>.ok (some i)
 |_=>.stuck
theorem GJ:FO X E none fO0:=Lj Tg λσ H Q hE=>xq5 hE λO0 M0 H0 ow m R q=>q H (aL.refl _)
theorem xH (h:FB X E e f):FO X E (some e) (fO1 f):=Lj (Uq h) λσ H Q hE=>xq5 hE λO0 M0 H0 ow m R q=>⟨O0,M0,H0,ow,m,R,q.bind.imp (aL.refl _) λd q v H' g hv=>by
 cases d with
 |int i=>cases dU hv;exact ⟨i,rfl,q H' g⟩
 |_=>exact q.elim⟩
def cut {α:Type}(xs:List α)(lo hi:Option Int):List α:=(xs.drop (HT.sIx xs.length 0 lo)).take (HT.sIx xs.length xs.length hi-HT.sIx xs.length 0 lo)
def gSl:D->Option Int->Option Int->Option D
 | .lst ds,lo,hi=>some (.lst (cut ds lo hi))
 | .tup ds,lo,hi=>if HT.sIx ds.length 0 lo=0/\HT.sIx ds.length ds.length hi=ds.length then none else some (.tup (cut ds lo hi))
 | .str z,lo,hi=>if z.length<=sizeLine then some (.str (Txt.slice z lo hi)) else none
 |_,_,_=>none
def rSl (G:Gx):V->Option Int->Option Int->Hp->VK->Prop:=λx lo hi H Q=>∃O d r,(∀b,O b->fP (H b))/\DW G O H x d/\gSl d lo hi=some r/\∀v H',aL H H'->DV G O H' v r->Q v H'
def aaP:D->Option Int->Option Int->Option D
 | .lst ds,lo,hi=>some (.lst (cut ds lo hi))
 |_,_,_=>none
def aaR (G:Gx):V->Option Int->Option Int->Hp->VK->Prop:=λx lo hi H Q=>∃O d r,(∀b,O b->fP (H b))/\DW G O H x d/\aaP d lo hi=some r/\∀p H',aL H H'->H p=none->OV G (Op O p) H' p r->Q (.ref p) H'
theorem KZ {G:Gx}{O:Addr->Prop}{H:Hp}{xs:List V}{ds:List D}{lo hi:Option Int}(h:DVs G O H xs ds):DVs G O H (HX xs lo hi) (cut ds lo hi):=by
 unfold HX cut
 rw [cH h]
 exact Ik _ (Ij _ h)
theorem ZC:SlR X (aaR (gx X)):=by
 intro pins s σ H x v vl vu lo hi sl Q I rx hs pl pu h
 obtain ⟨O,d,r,m,hx,hr,q⟩:=h
 match d,hr with
 | .lst ds,hr=>
  cases hr
  obtain ⟨p,xs,rfl,hp,hd⟩:=oF hx
  exact Vd pins s σ H _ v vl vu lo hi sl Q I rx hs pl pu ⟨p,xs,rfl,hp,λp hp'=>q p _ (dG hp' _) hp' ⟨_,bY,((KZ hd).cJ λb z=>z.elim .inl λe=>.inr (by rw [e];exact hp')).mono (dG hp' _)⟩⟩
theorem Pk {u:Value}{o:Option Int}(h:IsPart u o):∃l:Option (Int×Tok),u=partValue l/\l.map (·.1)=o:=by
 cases h with
 |none=>exact ⟨none,rfl,rfl⟩
 |int i t=>exact ⟨some (i,t),rfl,rfl⟩
theorem aaF:SlR X (rSl (gx X)):=by
 intro pins s σ H x v vl vu lo hi sl Q I rx hs pl pu h
 obtain ⟨O,d,r,m,hx,hr,q⟩:=h
 match d,hr with
 | .lst ds,hr=>exact ZC pins s σ H x v vl vu lo hi sl Q I rx hs pl pu ⟨O,.lst ds,r,m,hx,hr,JT m q⟩
 | .tup ds,hr=>
  obtain ⟨p,xs,rfl,hp,hd⟩:=uX hx
  have hr':(if HT.sIx ds.length 0 lo=0/\HT.sIx ds.length ds.length hi=ds.length then none else some (D.tup (cut ds lo hi)))=some r:=hr
  by_cases z:HT.sIx ds.length 0 lo=0/\HT.sIx ds.length ds.length hi=ds.length
  ·rw [if_pos z] at hr';cases hr'
  ·rw [if_neg z] at hr'
   cases hr'
   exact Wu pins s σ H _ v vl vu lo hi sl Q I rx hs pl pu ⟨p,xs,rfl,hp,by rw [cH hd];exact z,λp hp'=>q _ _ (dG hp' _) (.tup (SqU.of bY) ((KZ hd).mono (dG hp' _)))⟩
 | .str z,hr=>
  cases um hx
  obtain ⟨t,rfl⟩:=rx
  obtain ⟨hz,rfl⟩:=oif hr
  obtain ⟨l,rfl,rfl⟩:=Pk pl
  obtain ⟨u,rfl,rfl⟩:=Pk pu
  refine ⟨"str",_,PySem.F.slot_str_getitem.lookup,typeIs_str _ _ _,wpAny_getItem_str_slice (l:=l) (u:=u) (st:=none) hs rfl (post_val_or_str ⟨Nat.le_trans (Txt.slice_le z _ _) hz,λt' k=>Us (tk:=k) I q⟩)⟩
def fSl (f:Me->Res D)(lo hi:Me->Res (Option Int)):Me->Res D:=λm=>(f m).bind λd=>(lo m).bind λl=>(hi m).bind λu=>ofO (gSl d l u)
variable {lo hi:Option Expr}{fl fh:Me->Res (Option Int)}{p2:Pos}
theorem xK (he:FB X E e f)(hl:FO X E lo fl)(hu:FO X E hi fh):FE X E (.Subscript e (.Slice lo hi none p2) pos) (fSl f fl fh):=
 cF (RL aaF he hl hu) λσ H Q hE=>xq5 hE λO0 M0 H0 ow m R q=>⟨O0,M0,H0,ow,m,R,q.bind.imp (aL.refl _) λd q v H1 g1 hv=>⟨O0,M0,H0,ow,m,R.mono g1,q.bind.imp g1 λl q H2 g2=>⟨O0,M0,H0,ow,m,R.mono (g1.trans g2),q.bind.imp (g1.trans g2) λu q H3 g3=>by
  obtain ⟨r,hr,k⟩:=q.ofO
  exact ⟨_,d,r,(R.mono ((g1.trans g2).trans g3)).mutk,hv.mono (g2.trans g3),hr,λv H' g d=>k v H' (((g1.trans g2).trans g3).trans g) d⟩⟩⟩⟩
def Bu:D->D->Option D
 | .lst a,.lst b=>if a.length+b.length<=sizeLine then some (.lst (a++b)) else none
 |_,_=>none
theorem QX {fb:Me->Res D}(ha:FB X E a fa)(hb:FB X E b fb):FN X E (.BinOp a .Add b pos) (aA Bu fa fb):=
 cF (VH LC ha hb) λσ H Q hE=>xq5 hE λO0 M0 H0 ow m R q=>two R (K:=λz H1=>aL H H1/\∀p H',aL H1 H'->H1 p=none->OV (gx X) (Op (Ow O0 ow) p) H' p z->Q (.ref p) H') (q.imp (aL.refl _) λ_ k=>⟨aL.refl _,k⟩) (λ_ _ k g=>⟨k.1.trans g,λp H' g' n d=>k.2 p H' (g.trans g') (g.free n) d⟩) λx y d e H' g hx hy q' R'=>by
  obtain ⟨r,hr,k⟩:=q'.ofO
  match d,e,hr with
  | .lst ds,.lst es,hr=>
   obtain ⟨z,rfl⟩:=oif hr
   exact ⟨_,ds,es,R'.mutk,hx,hy,z,k.2⟩
def fH:List D->Option D
 |[.lst ds]=>some (.int ds.length)
 |[.tup ds]=>some (.int ds.length)
 |[.str z]=>if z.length<=sizeLine then some (.int z.length) else none
 |[.dct ks _]=>some (.int ks.length)
 |_=>none
theorem Ir {G:Gx}{O:Addr->Prop}{H:Hp}{vs:List V}{d:D}(h:DWs G O H vs [d]):∃v,vs=[v]/\DW G O H v d:=by
 match h with
 | .cons a .nil=>exact ⟨_,rfl,a⟩
theorem cW:qj X (.builtin "len") (rGC (gx X) fH):=by
 intro pins s σ H xs us Q I r h
 obtain ⟨O,ds,d,m,hx,hr,q⟩:=h
 match ds,hr with
 |[.lst ds],hr=>
  cases hr
  obtain ⟨v,rfl,hv⟩:=Ir hx
  obtain ⟨p,xs,rfl,hp,hd⟩:=oF hv
  exact wZ pins s σ H _ us Q I r ⟨p,xs,rfl,.inl hp,by rw [cH hd];exact q _ _ (aL.refl _) (.int _)⟩
 |[.tup ds],hr=>
  cases hr
  obtain ⟨v,rfl,hv⟩:=Ir hx
  obtain ⟨p,xs,rfl,hp,hd⟩:=uX hv
  exact wZ pins s σ H _ us Q I r ⟨p,xs,rfl,.inr hp,by rw [cH hd];exact q _ _ (aL.refl _) (.int _)⟩
 |[.str z],hr=>
  obtain ⟨hz,rfl⟩:=oif hr
  obtain ⟨v,rfl,hv⟩:=Ir hx
  cases um hv
  exact GQ pins s σ H _ us Q I r ⟨z,rfl,hz,q _ _ (aL.refl _) (.int _)⟩
 |[.dct ks vs],hr=>
  cases hr
  obtain ⟨v,rfl,hv⟩:=Ir hx
  obtain ⟨p,kvs,ws,rfl,hp,e1,e2,hd⟩:=Xl hv
  exact Nx pins s σ H _ us Q I r ⟨p,kvs,rfl,hp,by rw [show kvs.length=ks.length by rw [← e1,List.length_map]];exact q _ _ (aL.refl _) (.int _)⟩
def DY:List D->Option D
 |[.int i]=>some (.int (if i<0 then -i else i))
 |_=>none
theorem vU:qj X (.builtin "abs") (rGC (gx X) DY):=by
 intro pins s σ H xs us Q I r h
 obtain ⟨O,ds,d,m,hx,hr,q⟩:=h
 match ds,hr with
 |[.int i],hr=>
  cases hr
  obtain ⟨v,rfl,hv⟩:=Ir hx
  cases dU hv
  exact RB pins s σ H _ us Q I r ⟨i,rfl,q _ _ (aL.refl _) (.int _)⟩
def aaE:List D->Option D
 |[.lst ds]=>some (.tup ds)
 |[.tup ds]=>some (.tup ds)
 |_=>none
def qe:List D->Option D
 |[.lst ds]=>some (.lst ds)
 |[.tup ds]=>some (.lst ds)
 |_=>none
theorem qu:qj X (.type "list") (Xo (gx X) qe):=by
 intro pins s σ H xs us Q I r h
 obtain ⟨O,ds,d,m,hx,hr,q⟩:=h
 have go:∀{p:Addr} {ys:List V} {ds:List D},(SqL X.K H p ys\/SqT X.K H p ys)->DVs (gx X) O H ys ds->(∀p H',aL H H'->H p=none->OV (gx X) (Op O p) H' p (.lst ds)->Q (.ref p) H')->Vals [V.ref p] us->wpAny (model X.prog X.w) X.A (call (.type "list") us) (EP X pins σ Q) X.xe s:=
  λhp hd q r=>Gy pins s σ H _ us Q I r ⟨_,_,rfl,hp,λl hl=>q _ _ (dG hl _) hl ⟨_,bY,(hd.cJ λb z=>z.elim .inl λe=>.inr (by rw [e];exact hl)).mono (dG hl _)⟩⟩
 match ds,hr with
 |[.lst ds],hr=>
  cases hr
  obtain ⟨v,rfl,hv⟩:=Ir hx
  obtain ⟨p,xs,rfl,hp,hd⟩:=oF hv
  exact go (.inl hp) hd q r
 |[.tup ds],hr=>
  cases hr
  obtain ⟨v,rfl,hv⟩:=Ir hx
  obtain ⟨p,xs,rfl,hp,hd⟩:=uX hv
  exact go (.inr hp) hd q r
def pX:D->String
 | .non=>"NoneType"
 | .bl _=>"bool"
 | .int _=>"int"
 | .str _=>"str"
 | .tup _=>"tuple"
 | .lst _=>"list"
 | .dct _ _=>"dict"
 | .dcu _ _=>"dict"
 | .exc _=>""
 | .dcf _ _=>""
 | .adr _=>""
 | .ins _ _ _=>""
def Wg (t T:String):Bool:=t == T || (t == "bool" && T == "int")
def kinds:List String:=["NoneType", "bool", "int", "str", "tuple", "list", "dict"]
theorem Vg {K:W.Frag}{t:String}:W.kitOne K (.type t) (.type t)=some true:=by unfold W.kitOne;rw [if_pos (by simp)]
theorem T8 {K:W.Frag}:∀t∈kinds,∀T∈kinds,W.kitOne K (.type t) (.type T)=some (Wg t T):=by
 intro t ht T hT
 simp only [kinds,List.mem_cons,List.not_mem_nil,or_false] at ht hT
 rcases ht with rfl | rfl | rfl | rfl | rfl | rfl | rfl<;>rcases hT with rfl | rfl | rfl | rfl | rfl | rfl | rfl<;>first | exact Vg | kernel_rfl
theorem O2 {G:Gx}{O:Addr->Prop}{H:Hp}{v:V}{d:D}(h:DW G O H v d)(n:pX d≠""):pX d∈kinds/\TyK G.K H v (.type (pX d)):=by
 have z:=h.any
 cases z with
 |non=>exact ⟨by simp [pX,kinds],.of .non⟩
 |bl b=>exact ⟨by simp [pX,kinds],.of (.bl b)⟩
 |int b=>exact ⟨by simp [pX,kinds],.of (.int b)⟩
 |str b=>exact ⟨by simp [pX,kinds],.of (.str b)⟩
 |exc _ _=>exact absurd rfl n
 |dcf _ _ _ _=>exact absurd rfl n
 |adr _=>exact absurd rfl n
 |ins _ _ _ _ _ _=>exact absurd rfl n
 |tup hq _=>exact ⟨by simp [pX,kinds],.tup hq.sq⟩
 |lst hq _=>exact ⟨by simp [pX,kinds],.lst hq.sq⟩
 |dct _ e _ _ _=>exact ⟨by simp [pX,kinds],.of (.dK e)⟩
 |dcu _ e _ _ _=>exact ⟨by simp [pX,kinds],.of (.dT e)⟩
def Ga (T:String)(f:Me->Res D):Me->Res D:=λm=>(f m).bind λd=>if pX d = "" then .stuck else .ok (.bl (Wg (pX d) T))
theorem Bv {x y:Str}{py:Pos}{T:String}(ha:FB X E a fa)(hg:Gl X "isinstance")(hm:X.mg "isinstance" = none)(hv:bootBuiltins "isinstance" = some (.builtin "isinstance"))(hgy:Gl X y)(hmy:X.mg y=none)(hvy:bootBuiltins y=some (.type T))(hT:T∈kinds:=by decide)
  (hny:y≠"__name__":=by decide) (hdy:(y == ("__debug__" : Str))=false:=by decide)
  (he:starEach [a,.Name y py] X.env=(false,eval a X.env)::starEach [.Name y py] X.env:=by rfl) (he2:starEach [.Name y py] X.env=(false,eval (.Name y py) X.env)::starEach [] X.env:=by rfl) (hpl:(backTo pos (starEach [.Name y py] X.env)).any (·.1)=false:=by rfl):
  FE X E (.Call (.Name "isinstance" p) [a,.Name y py] [] pos) (Ga T fa):=
 cF (An Oe hg hm hv (lW ha (lW (Vy (v:=.ty T) hgy hmy hvy rfl hny hdy) u5 he2) he) (by decide) (by decide) he hpl) λσ H Q hE=>xq5 hE λO0 M0 H0 ow m R q=>⟨O0,M0,H0,ow,m,R,q.bind.imp (aL.refl _) λd q v H' g hv=>by
  by_cases n:pX d = ""
  ·rw [if_pos n] at q;exact q.elim
  ·rw [if_neg n] at q
   obtain ⟨k1,k2⟩:=O2 hv n
   exact ⟨v,.ty T,_,_,_,rfl,rfl,k2,T8 _ k1 T hT,q _ _ g (.bl _)⟩⟩
end
section
variable {G:Gx}{O0 M0:Addr->Prop}{H0 H H':Hp}{ow:Os}{σ:L2.St}{m:Me}
theorem du.chg {i:Nat}{a:Addr}{d d':D}{s':Sl}(R:du G O0 M0 H0 ow σ H m)(ho:ow i=some a)(g:Kp (· = a) H H')(h:OV G (Ow O0 ow) H' a d')
  (hs:(m[i]? = some (.ow d)/\s'=.ow d')\/(m[i]? = some (.io d)/\s'=.io d')):du G O0 M0 H0 ow σ H' (m.set i s'):=by
 have oa:Ow O0 ow a:=.inr ⟨i,ho⟩
 have kp:Kp (Ow O0 ow) H H':=λb u e n=>g b u e λz=>n (z ▸ oa)
 have hi:i<m.length:=by rcases hs with ⟨e,_⟩ | ⟨e,_⟩<;>exact rP e
 have ne:∀b o,H b=some o->b≠a->H' b=H b:=λb o e n=>by rw [e];exact g b o e n
 refine ⟨⟨by simp [R.len],λb u e n=>?_,λb z=>?_,λb z=>?_,R.no0,R.inj,λj hj=>R.out j (by simpa using hj),λj s e=>?_⟩,Br R.nb λ_ z=>by rcases hs with ⟨_,w⟩ | ⟨_,w⟩<;>(rw [w] at z;cases z)⟩
 ·refine g b u (R.keep b u e n) λz=>?_
  subst z
  rcases hs with ⟨q,_⟩ | ⟨q,_⟩
  ·obtain ⟨a',e1,e2,_⟩:=R.slot i _ q
   rw [ho] at e1;cases e1
   rw [e2] at e;cases e
  ·obtain ⟨a',e1,e2,_⟩:=R.slot i _ q
   rw [ho] at e1;cases e1
   exact n e2
 ·by_cases q:b=a
  ·rw [q]
   have:=h.mut
   intro w
   rw [w] at this
   rcases this with ⟨_,e⟩ | ⟨_,e⟩ | ⟨_,e⟩ | ⟨_,e⟩<;>cases e
  ·cases w:H b with
   |none=>exact absurd w (R.m0 b z)
   |some o=>rw [g b o w q];simp
 ·by_cases q:b=a
  ·rw [q];exact h.mut
  ·have:=R.mutk b z
   rcases this with ⟨_,e⟩ | ⟨_,e⟩ | ⟨_,e⟩ | ⟨_,e⟩
   ·rw [ne b _ e q];exact .inl ⟨_,e⟩
   ·rw [ne b _ e q];exact .inr (.inl ⟨_,e⟩)
   ·rw [ne b _ e q];exact .inr (.inr (.inl ⟨_,e⟩))
   ·rw [ne b _ e q];exact .inr (.inr (.inr ⟨_,e⟩))
 ·by_cases q:j=i
  ·subst q
   rw [List.getElem?_set_self hi] at e
   cases e
   rcases hs with ⟨q,rfl⟩ | ⟨q,rfl⟩
   ·obtain ⟨a',e1,e2,e3,_⟩:=R.slot j _ q
    rw [ho] at e1;cases e1
    exact ⟨a,ho,e2,e3,h⟩
   ·obtain ⟨a',e1,e2,e3,_⟩:=R.slot j _ q
    rw [ho] at e1;cases e1
    exact ⟨a,ho,e2,e3,h⟩
  ·rw [List.getElem?_set_ne (Ne.symm q)] at e
   have z:=R.slot j s e
   have other:∀{b:Addr} {d:D},ow j=some b->OV G (Ow O0 ow) H b d->OV G (Ow O0 ow) H' b d:=λ{b d} e1 h1=>by
    have nb:b≠a:=λw=>q (R.inj j i b e1 (w ▸ ho))
    rcases h1.mut with ⟨_,e⟩ | ⟨_,e⟩ | ⟨_,e⟩ | ⟨_,e⟩<;>exact h1.kp R.mutk kp (ne b _ e nb)
   cases s with
   |un=>exact z
   |fz d=>obtain ⟨b,x,e,q⟩:=z;exact ⟨b,x,e,q.kp R.mutk kp⟩
   |ow d=>obtain ⟨b,x,e,f,q'⟩:=z;exact ⟨b,x,e,f,other x q'⟩
   |io d=>obtain ⟨b,x,e,f,q'⟩:=z;exact ⟨b,x,e,f,other x q'⟩
   |bw d=>exact (R.nb j d e).elim
   |hd w b d=>obtain ⟨x,e,f,q'⟩:=z;exact ⟨x,e,f,other x q'⟩
theorem Go.chg {i:Nat}{a:Addr}{d:D}(ho:ow i=some a)(g:Kp (· = a) H H')(h:OV G (Ow O0 ow) H' a d):Go O0 ow H ow H':=
 ⟨λb u e n=>g b u e λz=>n (z ▸ .inr ⟨i,ho⟩),λj b e=>.inl (.inr ⟨j,e⟩),λb n=>by
  by_cases q:b=a
  ·rw [q]
   have:=h.mut
   intro w
   rw [w] at this
   rcases this with ⟨_,e⟩ | ⟨_,e⟩ | ⟨_,e⟩ | ⟨_,e⟩<;>cases e
  ·cases w:H b with
   |none=>exact absurd w n
   |some o=>rw [g b o w q];simp⟩
theorem vy {a:Addr}{o:HO}:Kp (· = a) H (L2.upd H a o):=λb u e n=>by rw [L2.bj n];exact e
def JM (m:Me)(i:Nat):Option (Bool×List D):=match m[i]? with
 |some (.ow (.lst ds))=>some (true,ds)
 |some (.io (.lst ds))=>some (false,ds)
 |_=>none
def putL (m:Me)(i:Nat)(k:Bool)(ds:List D):Me:=m.set i (if k then .ow (.lst ds) else .io (.lst ds))
theorem Kv (R:Rel G O0 M0 H0 ow σ H m){i:Nat}{k:Bool}{ds:List D}(e:JM m i=some (k,ds)):∃a xs,ow i=some a/\σ[i]? = some (some (.ref a))/\H a=some (.lst xs)/\DVs G (Ow O0 ow) H xs ds/\((m[i]? = some (.ow (.lst ds))/\k=true)\/(m[i]? = some (.io (.lst ds))/\k=false)):=by
 unfold JM at e
 split at e
 ·rename_i q
  cases e
  obtain ⟨a,e1,e2,e3,xs,e4,e5⟩:=R.slot i _ q
  exact ⟨a,xs,e1,e3,e4,e5,.inl ⟨q,rfl⟩⟩
 ·rename_i q
  cases e
  obtain ⟨a,e1,e2,e3,xs,e4,e5⟩:=R.slot i _ q
  exact ⟨a,xs,e1,e3,e4,e5,.inr ⟨q,rfl⟩⟩
 ·cases e
theorem du.put {i:Nat}{k:Bool}{a:Addr}{ds es:List D}{ys:List V}(R:du G O0 M0 H0 ow σ H m)(ho:ow i=some a)(hm:(m[i]? = some (.ow (.lst ds))/\k=true)\/(m[i]? = some (.io (.lst ds))/\k=false))(hd:DVs G (Ow O0 ow) H ys es):
  du G O0 M0 H0 ow σ (L2.upd H a (.lst ys)) (putL m i k es)/\Go O0 ow H ow (L2.upd H a (.lst ys)):=by
 have oa:Ow O0 ow a:=.inr ⟨i,ho⟩
 have kp:Kp (Ow O0 ow) H (L2.upd H a (.lst ys)):=λb u e n=>vy b u e λz=>n (z ▸ oa)
 have ov:OV G (Ow O0 ow) (L2.upd H a (.lst ys)) a (.lst es):=⟨ys,L2.bY,hd.kp R.mutk kp⟩
 refine ⟨R.chg (d:=.lst ds) (d':=.lst es) ho vy ov ?_,Go.chg ho vy ov⟩
 rcases hm with ⟨e,rfl⟩ | ⟨e,rfl⟩
 ·exact .inl ⟨e,rfl⟩
 ·exact .inr ⟨e,rfl⟩
end
section
variable {X:Cx}{E:XK}{e:Expr}{es:List Expr}{f:Me->Res D}{fs:Me->Res (List D)}{pos apos cpos np:Pos}{i j:Nat}{x y:Str}
def zQ (i:Nat)(f:Me->Res D):Me->Res (Fl×Me):=λm=>(ofO (JM m i)).bind λo=>(f m).bind λd=>if o.2.length<sizeLine then .ok (.nx,putL m i o.1 (o.2++[d])) else .stuck
theorem NZ (i:Nat)(he:FE X E e f)(hN:X.N[i]? = some x:=by rfl)(hv:Vis X.env.scope x:=by first | exact Or.inl rfl | exact Or.inr (Or.inl rfl) | exact Or.inr (Or.inr rfl))(hd:(x == ("__debug__" : Str))=false:=by decide)(hcd:(x == ("__classdict__" : Str))=false:=by decide)
  (hbase:attributeBase (.Name x np) "append" X.env (eval (.Name x np) X.env)=eval (.Name x np) X.env:=by rfl)
  (hfew:((backTo cpos (starEach [e] X.env)).all (λx=>!x.1) && (backToKw cpos (keywordEach [] X.env)).all (λx=>x.1.isSome) && decide ([e].length+([]:List Keyword).length+(if ([]:List Keyword).isEmpty then 0 else 1)<30))=true:=by rfl)
  (hline:(apos.endLine == cpos.line)=true:=by rfl) (hs:starEach [e] X.env=(false,eval e X.env)::starEach [] X.env:=by rfl) (hplain:(backTo cpos (starEach [] X.env)).any (·.1)=false:=by rfl)
  (hsw:swapsWith (.Call (.Attribute (.Name x np) "append" apos) [e] [] cpos) none pos.line X.env=pure false:=by rfl):
  FS X E (.Expr (.Call (.Attribute (.Name x np) "append" apos) [e] [] cpos) pos) (zQ i f):=
 eE (w6 (V4 PySem.F.plainAttrs_list PySem.F.slot_list_append PySem.F.type_list_append yG (jP hN hv hd hcd) (lW he u5 hs) hbase hfew hline hs hplain) hsw) λW σ H hE=>xq5 hE λO0 M0 H0 ow m R q=>by
  obtain ⟨o,ho,q⟩:=Ss.ofO q
  obtain ⟨k,ds⟩:=o
  obtain ⟨a,xs,e1,e2,e3,e4,e5⟩:=Kv R.toRel ho
  refine ⟨_,e2,.inl ⟨rfl,xs,SqL.of e3⟩,O0,M0,H0,ow,m,R.toRel,(Ss.pu R.toRel q).imp (aL.refl _) λd q v H1 g1 hv=>?_⟩
  have R1:=R.mono g1
  by_cases hz:ds.length<sizeLine
  ·rw [if_pos hz] at q
   obtain ⟨R2,g2⟩:=R1.put (es:=ds++[d]) (ys:=xs++[v]) e1 e5 (qY (e4.mono g1) (.cons hv .nil))
   exact ⟨a,xs,v,rfl,rfl,g1 _ _ e3,by rw [cH e4];exact hz,q _ _ _ R2 ((Go.refl g1).trans g2)⟩
  ·rw [if_neg hz] at q;exact q.elim
def yx (i:Nat)(fk fv:Me->Res D):Me->Res (Fl×Me):=λm=>(fv m).bind λd=>(ofO (JM m i)).bind λo=>(fk m).bind λk=>match k with
 | .int n=>(ofO (ixN o.2.length n)).bind λj=>.ok (.nx,putL m i o.1 (o.2.set j d))
 |_=>.stuck
end
def Xs (G:Gx)(E:XK){α:Type}(O0 M0:Addr->Prop)(H0:Hp)(ow:Os)(σ:L2.St)(H:Hp)(r:Res (α×Me))(k:α->Hp->Prop):Prop:=match r with
 | .ok (a,m')=>∀H',du G O0 M0 H0 ow σ H' m'->Go O0 ow H ow H'->k a H'
 | .exc c=>∀C H',G.mg c=some (.ref C)->Kp M0 H0 H'->E (.ref C) none H'
 | .stuck=>False
def tX (G:Gx)(E:XK)(f:Me->Res (D×Me)):TE:=λσ H Q=>∃O0 M0 H0 ow m,du G O0 M0 H0 ow σ H m/\Xs G E O0 M0 H0 ow σ H (f m) λd H'=>∀v,DV G (Ow O0 ow) H' v d->Q v H'
abbrev FX (X:Cx)(E:XK)(e:Expr)(f:Me->Res (D×Me)):Prop:=PE X e (tX (gx X) E f)
section
variable {G:Gx}{E:XK}{O0 M0:Addr->Prop}{H0 H H1:Hp}{ow:Os}{σ:L2.St}{m:Me}
theorem Xs.imp {α:Type}{r:Res (α×Me)}{k k':α->Hp->Prop}(h:Xs G E O0 M0 H0 ow σ H r k)(g:Go O0 ow H ow H1)(hk:∀a H' m',du G O0 M0 H0 ow σ H' m'->Go O0 ow H1 ow H'->r=.ok (a,m')->k a H'->k' a H'):Xs G E O0 M0 H0 ow σ H1 r k':=by
 cases r with
 |ok a=>obtain ⟨a,m'⟩:=a;exact λH' R g'=>hk a H' m' R g' rfl (h H' R (g.trans g'))
 |exc c=>exact h
 |stuck=>exact h
theorem Xs.pu {α β:Type}{r:Res α}{f:α->Res (β×Me)}{k:β->Hp->Prop}(R:Rel G O0 M0 H0 ow σ H m)(h:Xs G E O0 M0 H0 ow σ H (r.bind f) k):Pu G E r H λa=>Xs G E O0 M0 H0 ow σ H (f a) k:=by
 cases r with
 |ok a=>exact h
 |exc c=>exact λC H' e g=>h C H' e λb o e n=>g b o (R.keep b o e n)
 |stuck=>exact h
end
section
variable {X:Cx}{E:XK}{e:Expr}{es:List Expr}{f:Me->Res D}{fa:Me->Res (D×Me)}{fs:Me->Res (List D×Me)}{pos:Pos}{i:Nat}{x:Str}
def u9 (i:Nat)(f:Me->Res (D×Me)):Me->Res (Fl×Me):=λm=>(f m).bind λp=>.ok (.nx,p.2.set i (.fz p.1))
theorem Xs.ss {G:Gx}{O0 M0:Addr->Prop}{H0 H:Hp}{ow:Os}{σ:L2.St}{W:Ends}{r:Res (D×Me)}{k:D->Me->Res (Fl×Me)}(h:Ss G E O0 M0 H0 ow H W (r.bind λp=>k p.1 p.2)):
  Xs G E O0 M0 H0 ow σ H r λd H'=>∀m',r=.ok (d,m')->du G O0 M0 H0 ow σ H' m'->Ss G E O0 M0 H0 ow H' W (k d m'):=by
 cases r with
 |ok a=>
  obtain ⟨d,m1⟩:=a
  intro H' R g m' e R'
  cases e
  exact Ss.go h g
 |exc c=>exact h
 |stuck=>exact h
theorem GP {pos':Pos}(hN:X.N.Nodup)(hi:X.N[i]? = some x)(hx:Loc X.env.scope x)(he:FX X E e fa)(hs:swapsWith e (some (.Name x pos')) pos.line X.env=pure false:=by rfl)
  (hf:X.fn x=true\/X.env.scope.names.lookup x=some .local:=by first | exact .inl rfl | exact .inr rfl | assumption):FS X E (.Assign [.Name x pos'] e pos) (u9 i fa):=eE (Bo hN hi hx he hs hf) λW σ H hE=>xq5 hE λO0 M0 H0 ow m R q=>by
 refine ⟨O0,M0,H0,ow,m,R,(Xs.ss (k:=λd m'=>.ok (.nx,m'.set i (.fz d))) q).imp (Go.refl (aL.refl _)) λd H1 m1 R1 g1 e1 q v hv=>?_⟩
 exact q m1 e1 R1 _ _ _ (R1.set hv) Go.set
end
section
variable {P:Program}{w:World}{K:W.Frag}{mg:Str->Option Value}{base:Heap}
end
def Sl.cap:Sl->Sl
 | .ow d=>.io d
 | .hd _ a d=>.hd false a d
 |s=>s
section
variable {G:Gx}{O0 M0:Addr->Prop}{H0 H H':Hp}{ow:Os}{σ:L2.St}{m:Me}
theorem du.more {l:Addr}{o:HO}(R:du G O0 M0 H0 ow σ H m)(hl:H l=none)(ho:fP (some o)):du G (Op O0 l) M0 H0 ow σ (L2.upd H l o) m:=by
 have nl:=R.zm hl
 have sub:∀b,Ow (Op O0 l) ow b->Ow O0 ow b\/b=l:=λb z=>z.elim (λy=>y.elim (λw=>.inl (.inl w)) .inr) λy=>.inl (.inr y)
 have sub':∀b,Ow (Op O0 l) ow b->Ow O0 ow b\/H b=none:=λb z=>(sub b z).elim .inl λe=>.inr (by rw [e];exact hl)
 have g:aL H (L2.upd H l o):=dG hl _
 have R':=R.toRel.mono g
 refine ⟨⟨R.len,R'.keep,R'.m0,λb z=>?_,λi a e z=>?_,R.inj,R.out,λi s e=>?_⟩,R.nb⟩
 ·rcases sub b z with z | z
  ·exact R'.mutk b z
  ·rw [z,L2.bY];exact ho
 ·rcases z with z | z
  ·exact R.no0 i a e z
  ·exact nl (z ▸ .inr ⟨i,e⟩)
 ·exact ((R.slot i s e).cJ sub' λ_ _ b _=>Classical.em _).mono g
theorem du.less {l:Addr}(R:du G (Op O0 l) M0 H0 ow σ H m):du G O0 M0 H0 ow σ H m:=by
 have sub:∀b,Ow O0 ow b->Ow (Op O0 l) ow b:=λb z=>z.elim (λy=>.inl (.inl y)) .inr
 exact ⟨⟨R.len,R.keep,R.m0,λb z=>R.mutk b (sub b z),λi a e z=>R.no0 i a e (.inl z),R.inj,R.out,λi s e=>(R.slot i s e).cJ (λb z=>.inl (sub b z)) λ_ _ b _=>Classical.em _⟩,R.nb⟩
end
section
variable {G:Gx}{O0 M0:Addr->Prop}{H0 H H':Hp}{ow:Os}{σ:L2.St}{m:Me}{k:Nat}{cap:List Nat}
end
section
variable {X:Cx}{E:XK}{k:Nat}{cap:List Nat}{fi:Me->Res (List D)}{h:D->Me->Option Me}{fe:Me->Res (D×Me)}
theorem VR {O0:Addr->Prop}{ow:Os}{l b:Addr}(z:Ow (Op O0 l) ow b):Ow O0 ow b\/b=l:=z.elim (λy=>y.elim (λw=>.inl (.inl w)) .inr) λy=>.inl (.inr y)
end
section
variable {X:Cx}{E:XK}{e:Expr}{f:Me->Res D}{fu:Me->Res Unit}{x:Str}{np cpos pos:Pos}{C:Addr}{bmB:List Value}{B newId initId:String}
end
section
variable {X:Cx}{j k:Nat}{x y:Str}{ps:List Str}{Φ:List D->Res (Bool×D)}{p pos cpos pos':Pos}{e:Expr}{es:List Expr}{fs:Me->Res (List D)}{i:Nat}
end
theorem Rel.more {G:Gx}{O0 M0:Addr->Prop}{H0 H H1:Hp}{ow:Os}{σ:L2.St}{m:Me}{l:Addr}(R:Rel G O0 M0 H0 ow σ H m)(g:aL H H1)(hl:H l=none)(ho:fP (H1 l)):Rel G (Op O0 l) M0 H0 ow σ H1 m:=by
 have nl:=R.zm hl
 have sub':∀b,Ow (Op O0 l) ow b->Ow O0 ow b\/H b=none:=λb z=>(VR z).elim .inl λe=>.inr (by rw [e];exact hl)
 have R':=R.mono g
 refine ⟨R.len,R'.keep,R'.m0,λb z=>?_,λi a e z=>?_,R.inj,R.out,λi s e=>?_⟩
 ·rcases VR z with z | z
  ·exact R'.mutk b z
  ·rw [z];exact ho
 ·rcases z with z | z
  ·exact R.no0 i a e z
  ·exact nl (z ▸ .inr ⟨i,e⟩)
 ·exact ((R.slot i s e).cJ sub' λ_ _ b _=>Classical.em _).mono g
section
variable {X:Cx}
end
def KN (K:W.Frag):Sp:=λvs H Q _=>∃(a:Addr) (ns:List Int),vs=[.ref a]/\SqL K H a (ns.map V.int)/\ns.length<=63/\∀H',Q (.bl true) H'
theorem Ia {G:Gx}{O:Addr->Prop}{H:Hp}:∀ns:List Int,DVs G O H (ns.map V.int) (ns.map D.int)
 |[]=>.nil
 |n::ns=>.cons (.int n) (Ia ns)
theorem T6 {P:Program}{w:World}{K:W.Frag}{mg:Str->Option Value}{base:Heap}{CX:CXT}{k:Nat}{f:Addr}{fd:FuncData}{ps:List Str}{Φ:List D->Res (Bool×D)}(h:∀ns:List Int,ns.length<=63->∃fr,Φ [.lst (ns.map D.int)]=.ok (fr,.bl true))
  (F:dm P w K mg base CX k f fd ps (spF ⟨K,mg⟩ Φ)):dm P w K mg base CX k f fd ps (KN K):=F.imp λvs H Q E ⟨a,ns,e,hS,hl,q⟩=>by
 subst e
 obtain ⟨fr,e⟩:=h ns hl
 refine ⟨λ_=>False,[.lst (ns.map D.int)],λ_ z=>z.elim,.cons (.lst (hS.elim (λz=>.inl ⟨id,z⟩) .inr) (Ia ns)) .nil,?_⟩
 rw [e]
 intro v H' _ hv _
 cases hv
 exact q H'
section
variable {X:Cx}{E:XK}{e a:Expr}{f fa:Me->Res D}{fu:Me->Res Unit}{x y:Str}{np cpos pos p py:Pos}{i:Nat}
end
section
variable {X:Cx}
def Ae:List D->Option (List Bool)
 |[]=>some []
 | .bl b::ds=>(Ae ds).map (b::·)
 |_::_=>none
theorem Hb {G:Gx}{O:Addr->Prop}{H:Hp}:∀{vs:List V} {ds:List D} {bs:List Bool},DVs G O H vs ds->Ae ds=some bs->vs=bs.map V.bl
 |_,_,_,.nil,e=>by cases e;rfl
 |_,_,_,.cons (d:=d) h hs,e=>by
  cases d with
  |bl b=>
   obtain ⟨bs,e1,rfl⟩:=omap (by simpa [Ae] using e)
   cases h
   rw [Hb hs e1]
   rfl
  |_=>cases e
def Qk:List D->Option D
 |[.lst ds]=>(Ae ds).map λbs=>.bl (bs.all id)
 |_=>none
end
section
variable {X:Cx}
theorem Hk:∀{bs:List Bool} {us:List Value},Vals (bs.map V.bl) us->LSm.BoolsAre us bs
 |[],_,.nil=>.nil
 |b::bs,_,.cons r t=>by cases r;exact .cons b (Hk t)
theorem NQ (hc:X.calm=true):qj X (.builtin "all") (rGC (gx X) Qk):=by
 intro pins s σ H xs us Q I r h
 obtain ⟨O,ds,d,m,hx,hr,q⟩:=h
 match ds,hr with
 |[.lst ds],hr=>
  obtain ⟨bs,e1,rfl⟩:=omap hr
  obtain ⟨v,rfl,hv⟩:=Ir hx
  obtain ⟨p,xs,rfl,hp,hd⟩:=oF hv
  have:=Hb hd e1
  subst this
  obtain ⟨u,rfl,rx⟩:=vals1 r
  cases rx
  obtain ⟨wa,r',pl,hz⟩:=I.list hp
  have ba:=Hk r'
  have li:=pl.isList
  have lt1:p<s.heap.objs.size:=by obtain ⟨_,e,_⟩:=li;exact Heap.lt_size e
  refine call_all_walk (wpAny_pyIter_list li ?_)
  refine ⟨s.heap.objs.size,[s.heap.objs.size,p],[s.heap.objs.size],wa.toArray.size,_,_,λi=>(bs[i]?).getD true,rfl,Walks.list (A:=X.A.in1) (I.ok.hd hc) _ p (Nat.ne_of_lt lt1) wa.toArray,
   ⟨⟨_,Heap.get?_push_size _ rfl,rfl,rfl⟩,li.push _⟩,λi v sn Qn En pv qv=>?_,λh' tk kp=>?_⟩
  ·obtain ⟨b,e,rfl⟩:=ba.get i v (by simpa using pv)
   simp only [e,Option.getD_some] at qv
   exact wpAny_truthy_bool qv
  ·have e:((List.range wa.toArray.size).all λi=>(bs[i]?).getD true)=bs.all id:=by
    rw [List.size_toArray,ba.length];exact LSm.range_all bs
   rw [e]
   exact ⟨.bl _,H,I.kept (LSm.kept_iter kp),rfl,q _ _ (aL.refl _) (.bl _)⟩
end
def Ite (K:W.Frag)(a:Addr):It:=
 ⟨λi H=>∃xs x,SqL K H a xs/\xs[i]? = some x,λi H x H'=>∃y l,(∀xs,SqL K H a xs->xs[i]? = some y)/\x=.ref l/\H l=none/\H'=upd H l (.tup [.int i,y]),λi H=>∃xs,SqL K H a xs/\xs.length<=i⟩
theorem Jp {X:Cx}{pins:List (Addr×Obj)}{σ:L2.St}{H:Hp}{s:Shared}{e it:Addr}{h':Heap}{oe oi:Obj}(I:Inv X pins σ H s)(fe:wJ X pins H e)(fi:wJ X pins H it)(hne:e≠it)
  (he:∃o,s.heap.get? e=some o) (hi:∃o,s.heap.get? it=some o) (he':h'.get? e=some oe) (hi':h'.get? it=some oi) (de:oe.isFreed=false) (di:oi.isFreed=false)
  (k:∀b o,b≠e->b≠it->s.heap.get? b=some o->h'.get? b=some o):∃h1,Inv X pins σ H { s with heap:=h1 }/\h1.objs.size=s.heap.objs.size/\∀b u,h1.get? b=some u->h'.get? b=some u:=by
 obtain ⟨o1,he⟩:=he
 obtain ⟨o2,hi⟩:=hi
 obtain ⟨f0,f1,f2,f3,f4,f5⟩:=fe
 obtain ⟨g0,g1,g2,g3,g4,g5⟩:=fi
 have I1:Inv X pins σ H { s with heap:=s.heap.update e λ_=>oe }:=I.turned (t':=s.toks) (λb o hb x=>(Heap.get?_update_other _ _ (Ne.symm hb)).trans x) f0 f1 f3 f4 f5
 have I2:Inv X pins σ H { s with heap:=(s.heap.update e λ_=>oe).update it λ_=>oi }:=I1.turned (t':=s.toks) (λb o hb x=>(Heap.get?_update_other _ _ (Ne.symm hb)).trans x) g0 g1 g3 g4 g5
 refine ⟨_,I2,?_,λb u x=>?_⟩
 ·rw [(Heap.SameBut.update _ _ _).1,(Heap.SameBut.update _ _ _).1]
 ·by_cases z:b=it
  ·subst z
   rw [Heap.get?_update_self (λ_=>oi) ((Heap.get?_update_other _ _ hne).trans hi) di] at x
   cases x
   exact hi'
  ·rw [Heap.get?_update_other _ _ (Ne.symm z)] at x
   by_cases y:b=e
   ·subst y
    rw [Heap.get?_update_self (λ_=>oe) he de] at x
    cases x
    exact he'
   ·rw [Heap.get?_update_other _ _ (Ne.symm y)] at x
    exact k b u y z x
theorem Ba {o:Obj}{vs:Array Value}(d:o.data=.fields vs):o.isFreed=false:=by
 obtain ⟨c,dd,da,sl⟩:=o
 cases (show da=.fields vs from d)
 rfl
theorem Ng {P:Program}{w:World}{K:W.Frag}{elts:List Expr}{x1}{pos:Pos}(a e it:Addr)(hne:e≠it):
  Turn P w K (.Tuple elts x1 pos) (Ite K a) [e,it] e (λi h=>(∃old,IsEnum h e it i old)/\h.IsListIter it a i) where
 mem:=by simp
 obj:=λi h st b hb=>by
  obtain ⟨⟨old,q1⟩,q2⟩:=st
  have eb:b=e\/b=it:=by simpa using hb
  rcases eb with rfl | rfl
  ·exact ⟨_,q1,λv z=>by cases (show Data.fields _=Data.cell v from z)⟩
  ·obtain ⟨o,e',c,d⟩:=q2
   exact ⟨o,e',λv z=>by rw [d] at z;cases z⟩
 keep:=λi h h' st k=>by
  obtain ⟨⟨old,q1⟩,q2⟩:=st
  exact ⟨⟨old,k e (by simp) _ q1⟩,q2.at λo x=>k it (by simp) o x⟩
 item:=by
  intro X hP hw hK hc i pins s σ H E I hf st hg
  subst hP hw hK
  obtain ⟨xs,x,hq,hx⟩:=hg
  obtain ⟨⟨old,q1⟩,q2⟩:=st
  obtain ⟨its,rv,p,hz⟩:=I.list hq
  obtain ⟨u,hu,ru⟩:=rv.get hx
  have fe:=hf e (by simp)
  have fi:=hf it (by simp)
  refine wpAny_pyNext_enum_item q1 q2 p.isList (x:=u) (by simpa using hu) hne λh' eo il ht hsz k=>?_
  obtain ⟨oi,ei,ci,di⟩:=id il
  obtain ⟨oj,ej,cj,dj⟩:=id q2
  obtain ⟨h1,I1,z1,k1⟩:=Jp I fe fi hne ⟨_,q1⟩ ⟨_,ej⟩ eo ei rfl (Ba di) k
  have I2:Inv X pins σ (upd H s.heap.objs.size (.tup [.int i,x])) { s with heap:=h',toks:=s.toks+1 }:=
   I1.laid (t':=s.toks+1) k1 (Nat.le_of_eq z1) (show ie X.prog X.w _ _ _ (.tup [.int i,x]) from ⟨(show 2<=sizeLine by decide),[.int i s.toks,u],.cons ⟨s.toks,rfl⟩ (.cons ru .nil),⟨_,ht,rfl,_,rfl⟩⟩)
  have fr:H s.heap.objs.size=none:=I.hok.fresh (Nat.le_refl _)
  have ne1:e≠s.heap.objs.size:=Nat.ne_of_lt (Heap.lt_size q1)
  have ne2:it≠s.heap.objs.size:=Nat.ne_of_lt (Heap.lt_size ej)
  have nn:∀b,b≠s.heap.objs.size->H b=none->upd H s.heap.objs.size (.tup [.int i,x]) b=none:=λb z y=>by rw [bj z];exact y
  refine ⟨_,rfl,wpAny_letOwnedTupleGo_enum eo λh2 e2 sb=>?_⟩
  obtain ⟨f0,f1,f2,f3,f4,f5⟩:=fe
  refine ⟨.ref s.heap.objs.size,_,I2.turned (t':=s.toks+1) (λb o hb y=>(sb.2 b hb).trans y) (nn e ne1 f0) f1 f3 f4 f5,rfl,⟨x,_,λys hy=>by rw [I.wY hy hq];exact hx,rfl,fr,rfl⟩,⟨⟨_,e2⟩,il.at λo y=>(sb.2 it (Ne.symm hne)).trans y⟩,λb hb=>?_⟩
  have eb:b=e\/b=it:=by simpa using hb
  rcases eb with rfl | rfl
  ·exact nn _ ne1 f0
  ·exact nn _ ne2 fi.1
 done:=by
  intro X hP hw hK hc i pins s σ H E I hf st hg
  subst hP hw hK
  obtain ⟨xs,hq,hx⟩:=hg
  obtain ⟨⟨old,q1⟩,q2⟩:=st
  obtain ⟨its,rv,p,hz⟩:=I.list hq
  obtain ⟨f0,f1,f2,f3,f4,f5⟩:=hf it (by simp)
  have hl:=rv.length
  exact wpAny_pyNext_enum_end (I.ok.hd hc) q1 q2 p.isList (by simp;omega) λh' eb=>⟨rfl,I.turned (t':=s.toks) (λb o hb y=>eb b o hb y) f0 f1 f3 f4 f5⟩
 self:=λ_ _ _ _ _ st h=>by
  obtain ⟨⟨old,q1⟩,q2⟩:=st
  exact wpAny_pyIter_enum q1 h
section
variable {X:Cx}{tg:Expr}
def Y6 (K:W.Frag)(ta:TA):TI:=λσ H R=>ta σ H λvs H1=>∃p,vs=[.ref p]/\(∃xs,SqL K H1 p xs)/\R (Ite K p) H1
theorem Ky {elts:List Expr}{x1}{pt:Pos}{a:Expr}{ta:TA}{p pos:Pos}(hg:Gl X "enumerate")(hm:X.mg "enumerate" = none)(ha:PA X [a] ta)(hs:starEach [a] X.env=[(false,eval a X.env)]:=by rfl):PI X (.Tuple elts x1 pt) (.Call (.Name "enumerate" p) [a] [] pos) (Y6 X.K ta):=by
 intro pins s σ H R I h
 refine Call_ (yr I hg hm boot_enumerate (PyProof.Rows.callWith_type1 (thn (ha pos pins s σ H _ I h) λus s1 hE=>xq2 hE λvs H1 I1 r1 q1=>?_) hs rfl))
 obtain ⟨l,e,⟨xs,hq⟩,q⟩:=q1
 subst e
 obtain ⟨u,rfl,rx⟩:=vals1 r1
 cases rx
 obtain ⟨its,rv,pl,hz⟩:=I1.list hq
 refine call_enumerate_list pl.isList λh' e1 e2 sz k=>?_
 have I2:Inv X pins σ H1 { s1 with heap:=h' }:=I1.kept (t':=s1.toks) k
 refine wpAny_pyIter_enum (s:={ s1 with heap:=h' }) e1 ?_
 refine ⟨_,[s1.heap.objs.size+1,s1.heap.objs.size],_,_,H1,rfl,I2,Ng l _ _ (Nat.succ_ne_self _),⟨⟨_,e1⟩,e2⟩,λb hb=>?_,q⟩
 have eb:b=s1.heap.objs.size+1\/b=s1.heap.objs.size:=by simpa using hb
 have hb':s1.heap.objs.size<=b:=eb.elim (λz=>by rw [z];exact Nat.le_succ _) λz=>Nat.le_of_eq z.symm
 exact I1.Q7 hb' (I1.hok.fresh hb')
def yS (ds:List D):List D:=ds.mapIdx λi d=>.tup [.int i,d]
theorem yM (ds:List D):(yS ds).length=ds.length:=by simp [yS]
theorem Kr {G:Gx}{H:Hp}{a:Addr}{ds:List D}{P:(Addr->Prop)->Hp->Prop}(h:∀O' H2,P O' H2->∃xs,SqL G.K H2 a xs/\DVs G O' H2 xs ds):Bj G (Ite G.K a) (yS ds) P:=by
 intro O' H2 ev
 obtain ⟨xs,hq,hd⟩:=h O' H2 ev
 have hlen:=cH hd
 refine ⟨λi hi=>⟨xs,xs[i]'(by rw [yM] at hi;omega),hq,by simp⟩,λi x H' hi y=>?_,xs,hq,by rw [yM];omega⟩
 obtain ⟨y,l,h1,rfl,fr,rfl⟩:=y
 obtain ⟨d,e1,e2⟩:=t7 hd (h1 xs hq)
 exact ⟨dG fr _,.tup [.int i,d],by simp [yS,List.getElem?_mapIdx,e1],.tup (SqU.of bY) (.cons (.int _) (.cons (e2.mono (dG fr _)) .nil))⟩
def u0 (f:Me->Res (List D)):Me->Res (List D):=λm=>(f m).bind λd=>match d with
 |[.lst ds]=>.ok (yS ds)
 |_=>.stuck
theorem Fz {E:XK}{fs:Me->Res (List D)}{elts:List Expr}{x1}{pt:Pos}{a:Expr}{p pos:Pos}(hg:Gl X "enumerate")(hm:X.mg "enumerate" = none)(ha:FAE X E [a] fs)(hs:starEach [a] X.env=[(false,eval a X.env)]:=by rfl):FI X E (.Tuple elts x1 pt) (.Call (.Name "enumerate" p) [a] [] pos) (u0 fs):=
 pG (Ky hg hm ha hs) λσ H R hE=>xq5 hE λO0 M0 H0 ow m Re q=>⟨O0,M0,H0,ow,m,Re,q.bind.imp (aL.refl _) λds q vs H' g hv=>by
  have z:∃xs,ds=[.lst xs]:=by
   cases ds with
   |nil=>exact q.elim
   |cons d ds=>cases d with
    |lst xs=>cases ds with
     |nil=>exact ⟨xs,rfl⟩
     |cons _ _=>exact q.elim
    |_=>exact q.elim
  obtain ⟨ds,rfl⟩:=z
  cases hv with
  |cons h1 h2=>
   cases h2
   cases h1 with
   |lst hl hd=>exact ⟨_,rfl,⟨_,hl.sq⟩,q _ H' g (Kr (H:=H') λO' H2 ev=>⟨_,(qx ev.2 hl).sq,hd.go (Re.mono g).mutk ev⟩)⟩⟩
theorem HW {E:XK}{fs:Me->Res (List D)}{elts:List Expr}{x1}{pt:Pos}{a:Expr}{p pos:Pos}(hg:Gl X "enumerate")(hm:X.mg "enumerate" = none)(ha:FAB X E [a] fs)(hs:starEach [a] X.env=[(false,eval a X.env)]:=by rfl):FIw X E (.Tuple elts x1 pt) (.Call (.Name "enumerate" p) [a] [] pos) (u0 fs):=
 pG (Ky hg hm ha hs) λσ H R hE=>xq5 hE λO0 M0 H0 ow m Re q=>⟨O0,M0,H0,ow,m,Re,q.bind.imp (aL.refl _) λds q vs H' g hv=>by
  have z:∃xs,ds=[.lst xs]:=by
   cases ds with
   |nil=>exact q.elim
   |cons d ds=>cases d with
    |lst xs=>cases ds with
     |nil=>exact ⟨xs,rfl⟩
     |cons _ _=>exact q.elim
    |_=>exact q.elim
  obtain ⟨ds,rfl⟩:=z
  cases hv with
  |cons h1 h2=>
   cases h2
   obtain ⟨l,xs,rfl,hl,hd⟩:=oF h1
   exact ⟨_,rfl,⟨_,hl⟩,q _ H' g (Kr (H:=H') λO' H2 ⟨sub,g2⟩=>⟨_,xn hl g2,hd.go (Re.mono g).mutk ⟨sub,.of g2⟩⟩)⟩⟩
end
section
variable {pr:Program}{wo:World}{A:Around}{s:Shared}{R:Result->Shared->Prop}
variable {St:Nat->Shared->Prop}{P:Nat->Value->Prop}{n:Nat}{I:Addr}{fp wr:List Addr}{G:Array GenState->Array GenState->Prop}
end
section
variable {pr:Program}{wo:World}{A:Around}{E:Value->Shared->Prop}{s:Shared}
end
section
variable {X:Cx}
end
section
variable {X:Cx}{tg:Expr}
end
section
variable {X:Cx}
end
theorem vK {G:Gx}{O:Addr->Prop}{H:Hp}{v:V}{d:D}(h:DV G O H v d):∀{vs:List V} {ds:List D} (j:Nat),DVs G O H vs ds->DVs G O H (vs.set j v) (ds.set j d)
 |_,_,_,.nil=>.nil
 |_,_,0,.cons _ t=>.cons h t
 |_,_,j+1,.cons a t=>.cons a (vK h j t)
section
variable {X:Cx}{E:XK}{e ke:Expr}{f fk:Me->Res D}{pos spos np:Pos}{x:Str}
theorem G9 (i:Nat)(he:FE X E e f)(hk:FE X E ke fk)(hN:X.N[i]? = some x:=by rfl)(hv:Vis X.env.scope x:=by first | exact Or.inl rfl | exact Or.inr (Or.inl rfl) | exact Or.inr (Or.inr rfl))(hd:(x == ("__debug__" : Str))=false:=by decide)(hcd:(x == ("__classdict__" : Str))=false:=by decide)
  (ha:∀v,assign (.Subscript (.Name x np) ke spos) X.env v=(do
   let ov ← holding [v] (eval (.Name x np) X.env)
   let iv ← holding [v,ov] (eval ke X.env)
   standAt spos
   holding [v,ov,iv] (setItem ov iv v)
   release [v,ov,iv] []):=by intro _;rfl)
  (hs:swapsWithSole [.Subscript (.Name x np) ke spos] e pos.line X.env=pure false:=by rfl) (hw:swappedStores [.Subscript (.Name x np) ke spos] e X.env=pure none:=by rfl)
  (h1:(assignEach [.Subscript (.Name x np) ke spos] X.env).map (·.2)=[assign (.Subscript (.Name x np) ke spos) X.env]:=by rfl):FS X E (.Assign [.Subscript (.Name x np) ke spos] e pos) (yx i fk f):=
 eE (IV he (Jx (jP hN hv hd hcd) hk set_list ha) hs hw h1) λW σ H hE=>xq5 hE λO0 M0 H0 ow m R q=>
  ⟨O0,M0,H0,ow,m,R.toRel,(Ss.pu R.toRel q).imp (aL.refl _) λd q v H1 g1 hv=>by
   obtain ⟨o,ho,q⟩:=Ss.ofO q
   obtain ⟨k,ds⟩:=o
   have R1:=R.mono g1
   obtain ⟨a,xs,e1,e2,e3,e4,e5⟩:=Kv R1.toRel ho
   refine ⟨_,e2,O0,M0,H0,ow,m,R1.toRel,(Ss.pu R1.toRel (q.go (Go.refl g1))).imp (aL.refl _) λdk q vk H2 g2 hvk=>?_⟩
   cases dk with
   |int n=>
    cases hvk
    obtain ⟨j,hj,q⟩:=Ss.ofO q
    have R2:=R1.mono g2
    obtain ⟨R3,g3⟩:=R2.put (es:=ds.set j d) (ys:=xs.set j v) e1 e5 (vK (hv.mono g2) j (e4.mono g2))
    exact ⟨a,xs,n,j,rfl,rfl,g2 _ _ e3,by rw [cH e4];exact hj,q _ _ _ R3 ((Go.refl g2).trans g3)⟩
   |_=>exact q.elim⟩
end
section
variable {X:Cx}{E:XK}
variable {a b:Expr}{fa fb:Me->Res D}{pos:Pos}
end
section
variable {G:Gx}{O0 M0:Addr->Prop}{H0:Hp}{ow:Os}{σ:L2.St}{H:Hp}{m:Me}
end
section
variable {X:Cx}{E:XK}{e ke:Expr}{f fk:Me->Res D}{pos spos np:Pos}{x:Str}
end
section
variable {X:Cx}{E:XK}{e v₁ v₂:Expr}{es:List Expr}{f:Me->Res D}{pos:Pos}
end
section
variable {X:Cx}
end
section
variable {X:Cx}{E:XK}{e:Expr}
end
section
variable {X:Cx}{E:XK}{e:Expr}{f:Me->Res D}{pos:Pos}
end
section
variable {X:Cx}{E:XK}
variable {a b:Expr}{fa fb:Me->Res D}{pos:Pos}
end
section
variable {G:Gx}{O0 M0:Addr->Prop}{H0:Hp}{ow:Os}{σ:L2.St}{H:Hp}{m:Me}
end
section
variable {X:Cx}{E:XK}{e ke:Expr}{f fk:Me->Res D}{pos spos np:Pos}{x:Str}
end
def wy (d:D):Option D:=match toPy d with
 |some p=>if p.showable=true/\p.hasDict=false/\p.shown.length<=sizeLine/\p.depth<=60 then some (.str p.shown) else none
 |none=>none
section
variable {X:Cx}{E:XK}{e:Expr}{f:Me->Res D}{pos:Pos}
end
section
variable {prog:Program}{w:World}{A:Around}{E:Value->Shared->Prop}{s:Shared}{d it:Addr}{es:Array DictEntry}{ep i:Nat}{o oi:Obj}
end
section
variable {X:Cx}{E:XK}{rest:List Stmt}{k:Me->Res (Fl×Me)}
end
section
variable {X:Cx}{tg:Expr}
end
theorem Ni (p:Addr)(v:Array Value)(c:Nat)(k:Int)(t:Tok)(dd:Option Addr)(sl:Array (Option Value))(z0:¬(!Builtin.List.listFitsIndex k)=true)(z1:¬v.size*k.toNat > (2 ^ 63 - 1) / 8)(z2:¬Builtin.List.listTooLong (v.size*k.toNat)=true):
  Meets (Builtin.«list.__mul__» ⟨[.ref p,.int k t],[]⟩) (λ_ R s=>s.heap.get? p=some { cls:=.type "list",dict:=dd,data:=.seq v c,slots:=sl }/\
   R (.ok (.ret (Value.ref s.heap.objs.size))) { s with heap:=s.heap.push { cls:=Value.type "list",data:=Data.seq (List.foldl (λx1 x2=>x1++x2) #[] (List.replicate (if v.isEmpty=true then 0 else k.toNat) v)) },toks:=s.toks }):=
 .of_wp λ_ _ _ R s w=>by
  obtain ⟨h0,g0,d0,k0,o0⟩:=s
  obtain ⟨e,w⟩:=w
  have z:=AutoListH.joined_fits z2
  wp_walk
  refine wpAny_ite_false (decide_eq_false (Nat.not_lt.mpr z)) ?_
  wp_walk
  exact ⟨_,rfl,w⟩
theorem N7 (k:Int)(t:Tok)(p:Addr)(v:Array Value)(c:Nat)(dd:Option Addr)(sl:Array (Option Value)):
  Meets (Builtin.«int.__rmul__» ⟨[.int k t,.ref p],[]⟩) (λ_ R s=>s.heap.get? p=some { cls:=.type "list",dict:=dd,data:=.seq v c,slots:=sl }/\R (.ok (.ret Value.notImplemented)) s):=
 .of_wp λ_ _ _ R s w=>by
  obtain ⟨h0,g0,d0,k0,o0⟩:=s
  obtain ⟨e,w⟩:=w
  wp_walk
  exact ⟨_,rfl,w⟩
def vm:D->D->Option D
 | .lst ds,.int k=>if 0<=k/\k<2 ^ 63/\ds.length*k.toNat<=sizeLine then some (.lst (List.replicate k.toNat ds).flatten) else none
 |_,_=>none
section
variable {X:Cx}
theorem LQ {G:Gx}{O:Addr->Prop}{H:Hp}{xs:List V}{ds:List D}(h:DVs G O H xs ds):∀k,DVs G O H (List.replicate k xs).flatten (List.replicate k ds).flatten
 |0=>.nil
 |k+1=>by rw [List.replicate_succ,List.replicate_succ,List.flatten_cons,List.flatten_cons];exact qY h (LQ h k)
theorem Q4:OpR X (binaryOp .Mult) (rG (gx X) vm):=by
 intro pins s σ H x y v u Q I rx ry h
 obtain ⟨O,d,e,r,m,hx,hy,hr,q⟩:=h
 match d,e,hr with
 | .lst ds,.int k,hr=>
  obtain ⟨⟨h0,h1,hz⟩,rfl⟩:=oif hr
  obtain ⟨a,xs,rfl,ha,hd⟩:=oF hx
  cases dU hy
  cases rx
  obtain ⟨t,rfl⟩:=ry
  obtain ⟨its,rv,pl,_⟩:=I.list ha
  have l1:=cH hd
  have l2:=rv.length
  obtain ⟨⟨cls,dd,data,sl⟩,ho,hc,n,hdt⟩:=id pl.isList
  simp only at hc hdt
  subst hc hdt
  have sz:its.toArray.size*k.toNat<=sizeLine:=by rw [List.size_toArray,← l2,l1];exact hz
  have w1:¬its.toArray.size*k.toNat > (2 ^ 63 - 1) / 8:=by
   have:(sizeLine:Nat)<=(2 ^ 63 - 1) / 8:=by decide
   omega
  have w0:¬(!Builtin.List.listFitsIndex k)=true:=by
   rw [fitsIndex_both (by omega) h1]
   exact Bool.false_ne_true
  have w2:¬Builtin.List.listTooLong (its.toArray.size*k.toNat)=true:=by
   rw [RP sz]
   exact Bool.false_ne_true
  have en:List.foldl (λx1 x2=>x1++x2) #[] (List.replicate (if its.toArray.isEmpty=true then 0 else k.toNat) its.toArray)=(List.replicate k.toNat its).flatten.toArray:=by
   have f0:∀m:Nat,List.foldl (λx1 x2=>x1++x2) #[] (List.replicate m its.toArray)=(List.replicate m its).flatten.toArray:=λm=>by
    have z:=foldl_rep its m []
    rw [List.nil_append] at z
    exact z
   rw [f0]
   cases its with
   |nil=>simp
   |cons _ _=>rw [if_neg (by simp)]
  refine wpAny_binaryOp_repeat_ref (T:="list") (U:="int") (by decide) ⟨_,ho,rfl⟩ (λs'=>typeIs_int s' k t) noFill_list_mul PySem.F.fills_int_mul PySem.F.slot_int_rmul repeat_list PySem.F.slot_int_index.lookup
   (call_meets PySem.F.slot_int_rmul (typeIs_int s k t) PySem.F.entry_int_rmul (PySem.F.args_int_rmul_2 _ _) (N7 k t a its.toArray n dd sl)
    ⟨ho,rfl,⟨_,ho,rfl⟩,call_meets PySem.F.slot_list_mul ⟨_,ho,rfl⟩ PySem.F.entry_list_mul (PySem.F.args_list_mul_2 _ _) (Ni a its.toArray n k t dd sl w0 w1 w2) ⟨ho,?_⟩⟩)
  rw [en]
  exact Mg (tk:=s.toks) I m (LQ hd k.toNat) (rv.rep k.toNat) (by rw [len_rep,Nat.mul_comm,l1];exact hz) (λb o e=>Heap.get?_push_of_some _ e) ⟨0,Heap.get?_push_size _ rfl⟩ (JT m q)
end
def met (f:Nat->Str):Nat->List Str
 |0=>[]
 |i+1=>if (met f i).any (· == f i) then met f i else met f i++[f i]
section
variable {pr:Program}{wo:World}{A:Around}{R:Result->Shared->Prop}{I:Addr}{fp wr:List Addr}{G:Array GenState->Array GenState->Prop}{n:Nat}{P:Nat->Value->Prop}{St:Nat->Shared->Prop}
end
section
variable {pr:Program}{wo:World}{A:Around}{E:Value->Shared->Prop}{s:Shared}
end
section
variable {X:Cx}
end
section
variable {X:Cx}{E:XK}{e a b c ke:Expr}{es:List Expr}{st:Stmt}{rest sa sb:List Stmt}{f fa fb fk:Me->Res D}{fs:Me->Res (List D)}{ft:Me->Res Bool}{gg k ga gb:Me->Res (Fl×Me)}{pos pos' apos cpos np spos p:Pos}{i:Nat}{x:Str}
end
section
variable {pr:Program}{wo:World}{A:Around}{E:Value->Shared->Prop}{s:Shared}{κ:Type}[DecidableEq κ]{kn:HeapKind pr wo κ}
end
section
variable {X:Cx}{o e f:Expr}{apos cpos:Pos}{td ty tx:TE}
end
section
variable {X:Cx}{E:XK}{e ke:Expr}{f fk:Me->Res D}{pos np apos cpos:Pos}{x:Str}
end
def Zu (h:Heap)(d:Addr)(es:Array DictEntry)(ep:Nat):Prop:=∃o,h.get? d=some o/\o.ExactDict/\o.data=.dict es ep
section
variable {prog:Program}{w:World}{A:Around}{E:Value->Shared->Prop}{s:Shared}{d it v:Addr}{es:Array DictEntry}{ep i:Nat}
theorem Zu.ty (x:Zu s.heap d es ep):s.TypeIs (.ref d) "dict":=let ⟨o,h,c,_⟩:=x;⟨o,h,c.1⟩
end
section
variable {X:Cx}
end
section
variable {X:Cx}{E:XK}{o:Expr}{fo:Me->Res D}{p pos apos cpos:Pos}
end
section
variable {X:Cx}{k v:Expr}{pos:Pos}{tk tv:TE}
end
section
variable {X:Cx}{E:XK}{k v:Expr}{pos:Pos}{fk fv:Me->Res D}
end
section
variable {X:Cx}{E:XK}
end
section
variable {pr:Program}{wo:World}{A:Around}{E:Value->Shared->Prop}{s:Shared}
end
section
variable {pr:Program}{wo:World}{κ:Type}[DecidableEq κ]{kn:KeyKind pr wo κ}{A:Around}{R:Result->Shared->Prop}{I:Addr}{fp wr:List Addr}{G:Array GenState->Array GenState->Prop}{n:Nat}{P:Nat->Value->Prop}{St:Nat->Shared->Prop}
end
section
variable {pr:Program}{wo:World}{κ:Type}[DecidableEq κ]{kn:KeyKind pr wo κ}{A:Around}{E:Value->Shared->Prop}{s:Shared}
end
section
variable {X:Cx}{pins:List (Addr×Obj)}{σ:L2.St}{H:Hp}{s:Shared}
end
section
variable {X:Cx}{pins:List (Addr×Obj)}{σ:L2.St}{H:Hp}{s:Shared}
end
section
variable {prog:Program}{w:World}{A:Around}{E:Value->Shared->Prop}{s:Shared}{d it v:Addr}{es:Array DictEntry}{ep i:Nat}
end
section
variable {prog:Program}{w:World}{A:Around}{E:Value->Shared->Prop}{s:Shared}{d it v:Addr}{es:Array DictEntry}{ep i:Nat}
end
section
variable {X:Cx}
end
section
variable {X:Cx}{E:XK}{o:Expr}{fo:Me->Res D}{p pos apos cpos:Pos}
end
section
variable {X:Cx}{tg:Expr}
end
def Nh (m:Me)(i:Nat):Option (Bool×D):=match m[i]? with
 |some (.ow d)=>some (true,d)
 |some (.io d)=>some (false,d)
 |_=>none
def G6 (m:Me)(i:Nat)(k:Bool)(d:D):Me:=m.set i (if k then .ow d else .io d)
section
variable {G:Gx}{O0 M0:Addr->Prop}{H0:Hp}{ow:Os}{σ:L2.St}{H:Hp}{m:Me}
theorem Um (R:Rel G O0 M0 H0 ow σ H m){i:Nat}{k:Bool}{d:D}(e:Nh m i=some (k,d)):∃a,ow i=some a/\σ[i]? = some (some (.ref a))/\OV G (Ow O0 ow) H a d/\((m[i]? = some (.ow d)/\k=true)\/(m[i]? = some (.io d)/\k=false)):=by
 unfold Nh at e
 split at e
 ·rename_i q
  cases e
  obtain ⟨a,e1,e2,e3,e4⟩:=R.slot i _ q
  exact ⟨a,e1,e3,e4,.inl ⟨q,rfl⟩⟩
 ·rename_i q
  cases e
  obtain ⟨a,e1,e2,e3,e4⟩:=R.slot i _ q
  exact ⟨a,e1,e3,e4,.inr ⟨q,rfl⟩⟩
 ·cases e
end
def uD {α:Type}(p:Nat)(x:α)(l:List α):List α:=l.take p++x::l.drop p
theorem Hh {α:Type}{p:Nat}{x:α}{l:List α}:(uD p x l).length=l.length+1:=by
 simp [uD];omega
theorem MN {α:Type}{p:Nat}{x:α}{l:List α}(h:p<=l.length):(uD p x l)[p]? = some x:=by
 unfold uD
 rw [List.getElem?_append_right (by simp;omega)]
 simp [Nat.min_eq_left h]
theorem K6 {α:Type}{p i:Nat}{x:α}{l:List α}(h:i<p)(hp:p<=l.length):(uD p x l)[i]? = l[i]?:=by
 unfold uD
 rw [List.getElem?_append_left (by simp;omega),List.getElem?_take_of_lt h]
theorem Mx {α:Type}{p i:Nat}{x:α}{l:List α}(h:p<=i)(hp:p<=l.length):(uD p x l)[i+1]? = l[i]?:=by
 unfold uD
 rw [List.getElem?_append_right (by simp;omega)]
 have:i+1-(l.take p).length=(i-p)+1:=by simp [Nat.min_eq_left hp];omega
 rw [this,List.getElem?_cons_succ,List.getElem?_drop]
 congr 1
 omega
def nU (m:Me)(p:Nat):Option D:=match m[p]? with
 |some (.io d)=>some d
 |_=>none
theorem SM {m:Me}{p:Nat}{d:D}(h:nU m p=some d):m[p]? = some (.io d):=by
 unfold nU at h
 split at h
 ·rename_i q;cases h;exact q
 ·cases h
theorem Lg {O:Addr->Prop}{a:Addr}{p:Nat}(h:O a):Ow (λb=>O b/\b≠a) (owS (λ_=>none) p (some a))=O:=by
 funext b
 refine propext ⟨λz=>?_,λz=>?_⟩
 ·rcases z with z | ⟨i,e⟩
  ·exact z.1
  ·by_cases q:i=p
   ·subst q;rw [fV] at e;cases e;exact h
   ·rw [fU q] at e;cases e
 ·by_cases q:b=a
  ·subst q;exact .inr ⟨p,fV⟩
  ·exact .inl ⟨z,q⟩
theorem Ol {G:Gx}{O:Addr->Prop}{H:Hp}{N:List Str}{a:Addr}{us:List V}{ds:List D}{d:D}{n p:Nat}(hp:p<=ds.length)(hm:∀b,O b->fP (H b))(oa:O a)(ho:OV G O H a d)(hd:DVs G O H us ds)(hn:ds.length+1=n)(hN:n<=N.length):
  du G (λb=>O b/\b≠a) (· = a) H (owS (λ_=>none) p (some a)) (L2.start N (uD p (.ref a) us)) H (uD p (.io d) (ds.map Sl.fz)++List.replicate (N.length-n) Sl.un):=by
 have hl:=cH hd
 have nz:∀i,i≠p->owS (λ_=>none) p (some a) i=none:=λi h=>fU h
 have hlen:(uD p (V.ref a) us).length=n:=by rw [Hh,hl];exact hn
 have hst:∀i x,(uD p (V.ref a) us)[i]? = some x->(L2.start N (uD p (.ref a) us))[i]? = some (some x):=λi x e=>by
  have hi:i<(uD p (V.ref a) us).length:=(List.getElem?_eq_some_iff.mp e).1
  unfold L2.start
  rw [List.getElem?_append_left (by simpa using hi),List.getElem?_map,e]
  rfl
 have hml:(uD p (Sl.io d) (ds.map Sl.fz)).length=n:=by rw [Hh,List.length_map];exact hn
 have key:∀(i:Nat) (s:Sl),(uD p (Sl.io d) (ds.map Sl.fz)++List.replicate (N.length-n) Sl.un)[i]? = some s->
   (i=p/\s=.io d)\/(i≠p/\∃d1 x,s=.fz d1/\DV G O H x d1/\(uD p (V.ref a) us)[i]? = some x)\/(i≠p/\s=.un):=λi s e=>by
  by_cases hi:i<n
  ·rw [List.getElem?_append_left (by rw [hml];exact hi)] at e
   by_cases q:i=p
   ·subst q
    rw [MN (by simpa using hp)] at e
    cases e
    exact .inl ⟨rfl,rfl⟩
   ·refine .inr (.inl ⟨q,?_⟩)
    by_cases lt:i<p
    ·rw [K6 lt (by simpa using hp),List.getElem?_map] at e
     cases ed:ds[i]? with
     |none=>rw [ed] at e;cases e
     |some d1=>
      rw [ed] at e
      cases e
      obtain ⟨x,hx,dx⟩:=yz hd ed
      exact ⟨d1,x,rfl,dx,by rw [K6 lt (by omega)];exact hx⟩
    ·obtain ⟨j,rfl⟩:∃j,i=j+1:=⟨i - 1,by omega⟩
     rw [Mx (by omega) (by simpa using hp),List.getElem?_map] at e
     cases ed:ds[j]? with
     |none=>rw [ed] at e;cases e
     |some d1=>
      rw [ed] at e
      cases e
      obtain ⟨x,hx,dx⟩:=yz hd ed
      exact ⟨d1,x,rfl,dx,by rw [Mx (by omega) (by omega)];exact hx⟩
  ·rw [List.getElem?_append_right (by rw [hml];omega),List.getElem?_replicate] at e
   split at e
   ·cases e;exact .inr (.inr ⟨by omega,rfl⟩)
   ·cases e
 refine ⟨⟨?_,λb o e _=>e,λb z=>?_,λb z=>by rw [Lg oa] at z;exact hm b z,λi b e=>?_,λi j b e1 e2=>?_,λi hi=>?_,λi s e=>?_⟩,λj d' e=>?_⟩
 ·rw [List.length_append,hml,List.length_replicate]
  unfold L2.start
  rw [List.length_append,List.length_map,hlen,List.length_replicate]
 ·have z:b=a:=z
  rw [z]
  rcases ho.mut with ⟨_,e⟩ | ⟨_,e⟩ | ⟨_,e⟩ | ⟨_,e⟩<;>rw [e]<;>simp
 ·by_cases q:i=p
  ·subst q;rw [fV] at e;cases e;exact λz=>z.2 rfl
  ·rw [nz i q] at e;cases e
 ·by_cases q:i=p
  ·by_cases q':j=p
   ·rw [q,q']
   ·rw [nz j q'] at e2;cases e2
  ·rw [nz i q] at e1;cases e1
 ·exact nz i (by rw [List.length_append,hml] at hi;omega)
 ·rw [Lg oa]
  rcases key i s e with ⟨rfl,rfl⟩ | ⟨q,d1,x,rfl,dx,hx⟩ | ⟨q,rfl⟩
  ·exact ⟨a,fV,rfl,hst _ _ (MN (by omega)),ho⟩
  ·exact ⟨nz _ q,x,hst _ _ hx,dx⟩
  ·exact nz _ q
 ·rcases key j _ e with ⟨_,z⟩ | ⟨_,_,_,z,_⟩ | ⟨_,z⟩<;>cases z
section
variable {P:Program}{w:World}{K:W.Frag}{mg:Str->Option Value}{base:Heap}
end
section
variable {X:Cx}{E:XK}{e:Expr}{es:List Expr}{fa:Me->Res D}{fs:Me->Res (List D)}{i p:Nat}{y:Str}{np:Pos}
end
theorem Xs.at {G:Gx}{E:XK}{O0 M0:Addr->Prop}{H0 H H1:Hp}{ow:Os}{σ:L2.St}{α:Type}{r:Res (α×Me)}{k:α->Hp->Prop}(h:Xs G E O0 M0 H0 ow σ H r k)(g:aL H H1):Xs G E O0 M0 H0 ow σ H1 r k:=h.imp (Go.refl g) λ_ _ _ _ _ _ q=>q
def Vf (f:Me->Res (D×Me)):Me->Res (Fl×Me):=λm=>(f m).bind λp=>.ok (.nx,p.2)
theorem Pa {X:Cx}{E:XK}{e:Expr}{fa:Me->Res (D×Me)}{pos:Pos}(he:FX X E e fa)(hs:swapsWith e none pos.line X.env=pure false:=by rfl):FS X E (.Expr e pos) (Vf fa):=eE (w6 he hs) λW σ H hE=>xq5 hE λO0 M0 H0 ow m R q=>by
 refine ⟨O0,M0,H0,ow,m,R,(Xs.ss (k:=λd m'=>.ok (.nx,m')) q).imp (Go.refl (aL.refl _)) λd H1 m1 R1 g1 e1 q v hv=>?_⟩
 exact q m1 e1 R1 ow σ H1 R1 (Go.refl (aL.refl _))
def Wq (i j:Nat)(fs:Me->Res (List D)):Me->Res (Fl×Me):=λm=>(fs m).bind λds=>match ds with
 |[d,e]=>.ok (.nx,(m.set i (.fz d)).set j (.fz e))
 |_=>.stuck
theorem WY {X:Cx}{E:XK}{i j:Nat}{x y:Str}{a b:Expr}{fs:Me->Res (List D)}{px py pt pos:Pos}{kt k2 pt2}(hc:X.calm=true)(hN:X.N.Nodup)(hi:X.N[i]? = some x)(hj:X.N[j]? = some y)(hij:i≠j)
  (hx:X.env.scope.names.lookup x=some .local) (hy:X.env.scope.names.lookup y=some .local) (ha:FAE X E [a,b] fs)
  (hw:swappedStores [.Tuple [.Name x px,.Name y py] kt pt] (.Tuple [a,b] k2 pt2) X.env=pure (some [x,y]):=by rfl)
  (hs:swapsWithSole [.Tuple [.Name x px,.Name y py] kt pt] (.Tuple [a,b] k2 pt2) pos.line X.env=pure false:=by rfl):
  FS X E (.Assign [.Tuple [.Name x px,.Name y py] kt pt] (.Tuple [a,b] k2 pt2) pos) (Wq i j fs):=
 eE (X3 hc hN hi hj hij hx hy ha hw hs) λW σ H hE=>xq5 hE λO0 M0 H0 ow m R q=>⟨O0,M0,H0,ow,m,R.toRel,(Ss.pu R.toRel q).imp (aL.refl _) λds q vs H' g hv=>by
  have z:∃d e,ds=[d,e]:=by
   cases ds with
   |nil=>exact q.elim
   |cons d ds=>cases ds with
    |nil=>exact q.elim
    |cons e ds=>cases ds with
     |nil=>exact ⟨d,e,rfl⟩
     |cons _ _=>exact q.elim
  obtain ⟨d,e,rfl⟩:=z
  cases hv with
  |cons h1 h3=>cases h3 with
  |cons h2 h4=>
   cases h4
   refine ⟨_,_,rfl,?_⟩
   have R1:=(R.mono g).set (i:=i) h1
   have R2:=R1.set (i:=j) (h2.cJ λb z=>.inl z.sub)
   exact q _ _ _ R2 (((Go.refl g).trans Go.set).trans Go.set)⟩
section
variable {G:Gx}{O0 M0:Addr->Prop}{H0 H H':Hp}{ow:Os}{σ:L2.St}{m m':Me}
theorem du.many {ch:Nat->Prop}(R:du G O0 M0 H0 ow σ H m)(hl:m'.length=m.length)(old:∀i,¬ch i->m'[i]? = m[i]?)(g:Kp (λb=>∃i,ch i/\ow i=some b) H H')
  (new:∀i s,ch i->m'[i]? = some s->Ie G (Ow O0 ow) M0 H0 (ow i) (σ[i]?) H' s/\∀d,s≠.bw d) (mu:∀i b,ch i->ow i=some b->fP (H' b)/\(H0 b=none\/M0 b)):du G O0 M0 H0 ow σ H' m'/\Go O0 ow H ow H':=by
 have mn:∀b,fP (H' b)->H' b≠none:=λb z w=>by rw [w] at z;rcases z with ⟨_,e⟩ | ⟨_,e⟩ | ⟨_,e⟩ | ⟨_,e⟩<;>cases e
 have kp:Kp (Ow O0 ow) H H':=λb u e n=>g b u e λ⟨i,_,z⟩=>n (.inr ⟨i,z⟩)
 have dom:∀b,H b≠none->H' b≠none:=λb n=>by
  by_cases q:∃i,ch i/\ow i=some b
  ·obtain ⟨i,c,e⟩:=q;exact mn b (mu i b c e).1
  ·cases w:H b with
   |none=>exact absurd w n
   |some o=>rw [g b o w q];simp
 refine ⟨⟨⟨by rw [hl];exact R.len,λb u e n=>?_,λb z=>dom b (R.m0 b z),λb z=>?_,R.no0,R.inj,λj hj=>R.out j (by omega),λj s e=>?_⟩,λj d e=>?_⟩,kp,λj b e=>.inl (.inr ⟨j,e⟩),dom⟩
 ·refine g b u (R.keep b u e n) λ⟨i,c,z⟩=>?_
  rcases (mu i b c z).2 with w | w
  ·rw [w] at e;cases e
  ·exact n w
 ·by_cases q:∃i,ch i/\ow i=some b
  ·obtain ⟨i,c,e⟩:=q;exact (mu i b c e).1
  ·have:=R.mutk b z
   rcases this with ⟨_,e⟩ | ⟨_,e⟩ | ⟨_,e⟩ | ⟨_,e⟩
   ·exact .inl ⟨_,g b _ e q⟩
   ·exact .inr (.inl ⟨_,g b _ e q⟩)
   ·exact .inr (.inr (.inl ⟨_,g b _ e q⟩))
   ·exact .inr (.inr (.inr ⟨_,g b _ e q⟩))
 ·by_cases c:ch j
  ·exact (new j s c e).1
  ·rw [old j c] at e
   have z:=R.slot j s e
   have other:∀{b:Addr} {d:D},ow j=some b->OV G (Ow O0 ow) H b d->OV G (Ow O0 ow) H' b d:=λ{b d} e1 h1=>by
    have nb:¬ ∃i,ch i/\ow i=some b:=λ⟨i,ci,ei⟩=>c (R.inj j i b e1 ei ▸ ci)
    rcases h1.mut with ⟨_,e⟩ | ⟨_,e⟩ | ⟨_,e⟩ | ⟨_,e⟩<;>exact h1.kp R.mutk kp (by rw [e];exact g b _ e nb)
   cases s with
   |un=>exact z
   |fz d=>obtain ⟨b,x,e,q⟩:=z;exact ⟨b,x,e,q.kp R.mutk kp⟩
   |ow d=>obtain ⟨b,x,e,f,q'⟩:=z;exact ⟨b,x,e,f,other x q'⟩
   |io d=>obtain ⟨b,x,e,f,q'⟩:=z;exact ⟨b,x,e,f,other x q'⟩
   |bw d=>exact (R.nb j d e).elim
   |hd w b d=>obtain ⟨x,e,f,q'⟩:=z;exact ⟨x,e,f,other x q'⟩
 ·by_cases c:ch j
  ·exact (new j _ c e).2 d rfl
  ·rw [old j c] at e;exact R.nb j d e
end
def zE (j:Nat)(f:Me->Res D):Me->Res D:=λm=>(f m).bind λd=>match d,m[j]? with
 | .adr a,some (.hd _ b d')=>if a=b then .ok d' else .stuck
 |_,_=>.stuck
section
variable {X:Cx}{E:XK}{e b ke:Expr}{f fb fk:Me->Res D}{pos spos:Pos}
theorem Xn {m:Me}{j:Nat}{d r:D}(h:(match d,m[j]? with | .adr a,some (.hd _ b d')=>if a=b then Res.ok d' else .stuck | _,_=>.stuck)=.ok r):∃w a,d=.adr a/\m[j]? = some (.hd w a r):=by
 cases d with
 |adr a=>
  cases q:m[j]? with
  |none=>rw [q] at h;cases h
  |some s=>
   cases s with
   |hd w b d'=>
    rw [q] at h
    by_cases z:a=b
    ·have h:(if a=b then Res.ok d' else .stuck)=.ok r:=h
     rw [if_pos z] at h
     cases h
     exact ⟨w,a,rfl,by rw [z]⟩
    ·have h:(if a=b then Res.ok d' else .stuck)=.ok r:=h
     rw [if_neg z] at h
     cases h
   |_=>rw [q] at h;cases h
 |_=>cases h
theorem Od {m:Me}{j:Nat}{d:D}{c:Str}:(match d,m[j]? with | .adr a,some (.hd _ b d')=>if a=b then Res.ok d' else .stuck | _,_=>.stuck)≠.exc c:=λh=>by
 cases d with
 |adr a=>
  cases q:m[j]? with
  |none=>rw [q] at h;cases h
  |some s=>
   cases s with
   |hd w b d'=>
    rw [q] at h
    have h:(if a=b then Res.ok d' else .stuck)=.exc c:=h
    split at h<;>cases h
   |_=>rw [q] at h;cases h
 |_=>cases h
theorem X4 (j:Nat)(h:FE X E e f):FB X E e (zE j f):=cF h λσ H Q hE=>xq5 hE λO0 M0 H0 ow m R q=>⟨O0,M0,H0,ow,m,R,q.bind.imp (aL.refl _) λd q v H' g hv=>by
 cases z:(match d,m[j]? with | .adr a,some (.hd _ b d')=>if a=b then Res.ok d' else .stuck | _,_=>.stuck) with
 |ok r=>
  rw [z] at q
  obtain ⟨w,a,rfl,e⟩:=Xn z
  cases hv
  obtain ⟨x1,x2,x3,x4⟩:=(R.mono g).slot j _ e
  exact q _ H' g (.inr ⟨a,rfl,.inr ⟨j,x1⟩,x4⟩)
 |exc c=>exact (Od z).elim
 |stuck=>rw [z] at q;exact q.elim⟩
def Ih (m:Me)(j:Nat):Option (Bool×Addr×D):=match m[j]? with
 |some (.hd w a d)=>some (w,a,d)
 |_=>none
theorem Ms {m:Me}{j:Nat}{w:Bool}{a:Addr}{d:D}(h:Ih m j=some (w,a,d)):m[j]? = some (.hd w a d):=by
 unfold Ih at h
 split at h
 ·rename_i q;cases h;exact q
 ·cases h
theorem du.Wi {G:Gx}{O0 M0:Addr->Prop}{H0 H:Hp}{ow:Os}{σ:L2.St}{m:Me}{j:Nat}{w:Bool}{a:Addr}{d d':D}{o:HO}(R:du G O0 M0 H0 ow σ H m)(e:m[j]? = some (.hd w a d))(hm:fP (some o))
  (h:Kp (Ow O0 ow) H (L2.upd H a o)->OV G (Ow O0 ow) (L2.upd H a o) a d'):du G O0 M0 H0 ow σ (L2.upd H a o) (m.set j (.hd w a d'))/\Go O0 ow H ow (L2.upd H a o):=by
 obtain ⟨x1,x2,x3,x4⟩:=R.slot j _ e
 have kp:Kp (Ow O0 ow) H (L2.upd H a o):=λb u eb n=>vy b u eb λz=>n (z ▸ .inr ⟨j,x1⟩)
 refine R.many (ch:=(· = j)) (by simp) (λi n=>List.getElem?_set_ne (Ne.symm n)) (λb u eb n=>vy b u eb λz=>n ⟨j,rfl,by rw [x1,z]⟩) (λi s c es=>?_) (λi b c eb=>?_)
 ·subst c
  rw [List.getElem?_set_self (rP e)] at es
  cases es
  exact ⟨⟨x1,x2,x3,h kp⟩,λd z=>by cases z⟩
 ·subst c
  rw [x1] at eb
  cases eb
  refine ⟨by rw [L2.bY];exact hm,?_⟩
  cases w with
  |true=>exact .inl (x2 rfl)
  |false=>exact .inr (x3 rfl)
def vM (j:Nat)(fb fk fv:Me->Res D):Me->Res (Fl×Me):=λm=>(fv m).bind λd=>(fb m).bind λc=>(ofO (Ih m j)).bind λo=>(fk m).bind λk=>match c,o.2.2,k with
 | .adr a,.lst ds,.int n=>if a=o.2.1 then (ofO (ixN ds.length n)).bind λi=>.ok (.nx,m.set j (.hd o.1 a (.lst (ds.set i d)))) else .stuck
 |_,_,_=>.stuck
theorem Il (j:Nat)(he:FE X E e f)(hb:FE X E b fb)(hk:FE X E ke fk)
  (ha:∀v,assign (.Subscript b ke spos) X.env v=(do
   let ov ← holding [v] (eval b X.env)
   let iv ← holding [v,ov] (eval ke X.env)
   standAt spos
   holding [v,ov,iv] (setItem ov iv v)
   release [v,ov,iv] []):=by intro _;rfl)
  (hs:swapsWithSole [.Subscript b ke spos] e pos.line X.env=pure false:=by rfl) (hw:swappedStores [.Subscript b ke spos] e X.env=pure none:=by rfl)
  (h1:(assignEach [.Subscript b ke spos] X.env).map (·.2)=[assign (.Subscript b ke spos) X.env]:=by rfl):FS X E (.Assign [.Subscript b ke spos] e pos) (vM j fb fk f):=
 eE (IV he (Jx hb hk set_list ha) hs hw h1) λW σ H hE=>xq5 hE λO0 M0 H0 ow m R q=>
  ⟨O0,M0,H0,ow,m,R.toRel,(Ss.pu R.toRel q).imp (aL.refl _) λd q v H1 g1 hv=>by
   have R1:=R.mono g1
   refine ⟨O0,M0,H0,ow,m,R1.toRel,(Ss.pu R1.toRel (q.go (Go.refl g1))).imp (aL.refl _) λc q vc H2 g2 hc=>?_⟩
   have R2:=R1.mono g2
   obtain ⟨o,ho,q⟩:=Ss.ofO q
   obtain ⟨w,a,dd⟩:=o
   have ho:=Ms ho
   refine ⟨O0,M0,H0,ow,m,R2.toRel,(Ss.pu R2.toRel (q.go (Go.refl g2))).imp (aL.refl _) λdk q vk H3 g3 hvk=>?_⟩
   have R3:=R2.mono g3
   cases c with
   |adr a'=>
    cases hc
    cases dd with
    |lst ds=>
     cases dk with
     |int n=>
      cases hvk
      have q':Ss (gx X) E O0 M0 H0 ow H2 W (if a'=a then (ofO (ixN ds.length n)).bind λi=>.ok (.nx,m.set j (.hd w a' (.lst (ds.set i d)))) else .stuck):=q
      by_cases hz:a'=a
      ·rw [if_pos hz] at q'
       clear q
       subst hz
       obtain ⟨i,hi,q⟩:=Ss.ofO q'
       obtain ⟨x1,x2,x3,xs,e4,e5⟩:=R3.slot j _ ho
       obtain ⟨R4,g4⟩:=R3.Wi (o:=.lst (xs.set i v)) (d':=.lst (ds.set i d)) ho (.inl ⟨_,rfl⟩) (λkp=>⟨_,L2.bY,(vK (hv.mono (g2.trans g3)) i e5).kp R3.mutk kp⟩)
       exact ⟨a',xs,n,i,rfl,rfl,e4,by rw [cH e5];exact hi,q _ _ _ R4 ((Go.refl g3).trans g4)⟩
      ·rw [if_neg hz] at q';exact q'.elim
     |_=>exact q.elim
    |_=>exact q.elim
   |_=>exact q.elim⟩
end
def vg:List Str->List D->Str->Option D
 |n::ns,d::ds,f=>if f=n then some d else vg ns ds f
 |_,_,_=>none
def iT:List Str->List D->Str->D->List Str×List D
 |n::ns,d'::ds,f,d=>if n=f then (n::ns,d::ds) else (n::(iT ns ds f d).1,d'::(iT ns ds f d).2)
 |_,_,f,d=>([f],[d])
theorem Mf {G:Gx}{O:Addr->Prop}{H:Hp}{f:Str}:∀{kvs:List (Str×V)} {ds:List D} {d:D},DVs G O H (kvs.map (·.2)) ds->vg (kvs.map (·.1)) ds f=some d->∃v,kvs.lookup f=some v/\DV G O H v d
 |[],_,_,.nil,e=>by cases e
 |(n,v)::kvs,_,_,.cons (d:=d') (ds:=ds) h hs,e=>by
  have e:(if f=n then some d' else vg (kvs.map (·.1)) ds f)=some _:=e
  by_cases q:f=n
  ·rw [if_pos q] at e
   cases e
   exact ⟨v,by rw [List.lookup,beq_iff_eq.mpr q],h⟩
  ·rw [if_neg q] at e
   obtain ⟨w,h1,h2⟩:=Mf hs e
   exact ⟨w,by rw [List.lookup,beq_eq_false_iff_ne.mpr q];exact h1,h2⟩
theorem zV {G:Gx}{O:Addr->Prop}{H:Hp}{f:Str}{v:V}{d:D}(hv:DV G O H v d):∀{kvs:List (Str×V)} {ds:List D},DVs G O H (kvs.map (·.2)) ds->(pQ f v kvs).map (·.1)=(iT (kvs.map (·.1)) ds f d).1/\DVs G O H ((pQ f v kvs).map (·.2)) (iT (kvs.map (·.1)) ds f d).2
 |[],_,.nil=>⟨rfl,.cons hv .nil⟩
 |(n,x)::kvs,_,.cons (d:=d') (ds:=ds) h hs=>by
  obtain ⟨i1,i2⟩:=zV hv hs
  rw [show pQ f v ((n,x)::kvs)=(if n=f then (n,v)::kvs else (n,x)::pQ f v kvs) from rfl]
  show _=(if n=f then (n::kvs.map (·.1),d::ds) else (n::(iT (kvs.map (·.1)) ds f d).1,d'::(iT (kvs.map (·.1)) ds f d).2)).1/\DVs G O H _ (if n=f then (n::kvs.map (·.1),d::ds) else (n::(iT (kvs.map (·.1)) ds f d).1,d'::(iT (kvs.map (·.1)) ds f d).2)).2
  by_cases q:n=f
  ·rw [if_pos q,if_pos q];exact ⟨rfl,.cons hv hs⟩
  ·rw [if_neg q,if_neg q];exact ⟨by rw [List.map_cons,i1],.cons h i2⟩
theorem Q3 {G:Gx}{O:Addr->Prop}{H:Hp}{v:V}{c:Str}{ns:List Str}{ds:List D}(h:DW G O H v (.ins c ns ds)):∃a C dx kvs,v=.ref a/\G.mg c=some (.ref C)/\H a=some (.ins C dx kvs)/\kvs.map (·.1)=ns/\DVs G O H (kvs.map (·.2)) ds:=by
 rcases h with h | ⟨a,e,_,h⟩
 ·cases h with
  |ins n ec e a b hs=>subst b;exact ⟨_,_,_,_,rfl,ec,e,a,hs⟩
 ·obtain ⟨C,dx,k,w,ec,e',a1,rfl,hs⟩:=h
  exact ⟨a,C,dx,k,e,ec,e',a1,hs⟩
structure t6 (K:W.Frag)(mg:Str->Option Value)(c:Str)(fs:List Str):Prop where
 ex:∃C,mg c=some (.ref C)/\Cls K C/\∀f∈fs,wM K C f
def jm (c f:Str):D->Option D
 | .ins c' ns ds=>if c'=c then vg ns ds f else none
 |_=>none
def cA (c f:Str)(g:Me->Res D):Me->Res D:=λm=>(g m).bind λd=>ofO (jm c f d)
section
variable {X:Cx}{E:XK}{e o:Expr}{g:Me->Res D}{c f:Str}{fs:List Str}{pos pos' np:Pos}
theorem Tj {d r:D}(h:jm c f d=some r):∃ns ds,d=.ins c ns ds/\vg ns ds f=some r:=by
 cases d with
 |ins c' ns ds=>
  have h:(if c'=c then vg ns ds f else none)=some r:=h
  by_cases q:c'=c
  ·rw [if_pos q] at h;exact ⟨ns,ds,by rw [q],h⟩
  ·rw [if_neg q] at h;cases h
 |_=>cases h
theorem cP (Ck:t6 X.K X.mg c fs)(he:FB X E e g)(hf:f∈fs:=by decide)(hb:attributeBase e f X.env (eval e X.env)=eval e X.env:=by rfl):FE X E (.Attribute e f pos) (cA c f g):=
 cF (QB he hb) λσ H Q hE=>xq5 hE λO0 M0 H0 ow m R q=>⟨O0,M0,H0,ow,m,R,q.bind.imp (aL.refl _) λd q v H1 g1 hv=>by
  obtain ⟨C,hC,hc,hn⟩:=Ck.ex
  obtain ⟨r,hr,k⟩:=q.ofO
  obtain ⟨ns,ds,rfl,hv'⟩:=Tj hr
  obtain ⟨a,C',dx,kvs,rfl,ec,e1,rfl,hs⟩:=Q3 hv
  have:some (Value.ref C')=some (.ref C):=ec.symm.trans hC
  cases this
  obtain ⟨w,l,dw⟩:=Mf hs hv'
  exact ⟨a,C,dx,kvs,w,rfl,e1,hc,hn f hf,l,k w H1 g1 dw⟩⟩
def N5 (m:Me)(i:Nat):Option (Bool×Str×List Str×List D):=match m[i]? with
 |some (.ow (.ins c ns ds))=>some (true,c,ns,ds)
 |some (.io (.ins c ns ds))=>some (false,c,ns,ds)
 |_=>none
def Ec (m:Me)(i:Nat)(k:Bool)(c:Str)(p:List Str×List D):Me:=m.set i (if k then .ow (.ins c p.1 p.2) else .io (.ins c p.1 p.2))
theorem Ku {G:Gx}{O0 M0:Addr->Prop}{H0:Hp}{ow:Os}{σ:L2.St}{H:Hp}{m:Me}(R:Rel G O0 M0 H0 ow σ H m){i:Nat}{k:Bool}{c:Str}{ns:List Str}{ds:List D}(e:N5 m i=some (k,c,ns,ds)):∃a C dx kvs,ow i=some a/\σ[i]? = some (some (.ref a))/\G.mg c=some (.ref C)/\H a=some (.ins C dx kvs)/\kvs.map (·.1)=ns/\DVs G (Ow O0 ow) H (kvs.map (·.2)) ds/\((m[i]? = some (.ow (.ins c ns ds))/\k=true)\/(m[i]? = some (.io (.ins c ns ds))/\k=false)):=by
 unfold N5 at e
 split at e
 ·rename_i q
  cases e
  obtain ⟨a,e1,e2,e3,C,dx,kvs,vs,ec,e4,e5,rfl,e6⟩:=R.slot i _ q
  exact ⟨a,C,dx,kvs,e1,e3,ec,e4,e5,e6,.inl ⟨q,rfl⟩⟩
 ·rename_i q
  cases e
  obtain ⟨a,e1,e2,e3,C,dx,kvs,vs,ec,e4,e5,rfl,e6⟩:=R.slot i _ q
  exact ⟨a,C,dx,kvs,e1,e3,ec,e4,e5,e6,.inr ⟨q,rfl⟩⟩
 ·cases e
theorem du.Ec {G:Gx}{O0 M0:Addr->Prop}{H0:Hp}{ow:Os}{σ:L2.St}{H:Hp}{m:Me}{i:Nat}{k:Bool}{a C dx:Addr}{c:Str}{ns ls:List Str}{ds es:List D}{kvs:List (Str×V)}(R:du G O0 M0 H0 ow σ H m)(ho:ow i=some a)(hc:G.mg c=some (.ref C))(hm:(m[i]? = some (.ow (.ins c ns ds))/\k=true)\/(m[i]? = some (.io (.ins c ns ds))/\k=false))
  (hk:kvs.map (·.1)=ls) (hd:DVs G (Ow O0 ow) H (kvs.map (·.2)) es):du G O0 M0 H0 ow σ (L2.upd H a (.ins C dx kvs)) (F.Ec m i k c (ls,es))/\Go O0 ow H ow (L2.upd H a (.ins C dx kvs)):=by
 have oa:Ow O0 ow a:=.inr ⟨i,ho⟩
 have kp:Kp (Ow O0 ow) H (L2.upd H a (.ins C dx kvs)):=λb u e n=>vy b u e λz=>n (z ▸ oa)
 have ov:OV G (Ow O0 ow) (L2.upd H a (.ins C dx kvs)) a (.ins c ls es):=⟨C,dx,kvs,_,hc,L2.bY,hk,rfl,hd.kp R.mutk kp⟩
 refine ⟨R.chg (d:=.ins c ns ds) (d':=.ins c ls es) ho vy ov ?_,Go.chg ho vy ov⟩
 rcases hm with ⟨e,rfl⟩ | ⟨e,rfl⟩
 ·exact .inl ⟨e,rfl⟩
 ·exact .inr ⟨e,rfl⟩
def j5 (i:Nat)(c f:Str)(g:Me->Res D):Me->Res (Fl×Me):=λm=>(g m).bind λd=>(ofO (N5 m i)).bind λo=>if o.2.1=c/\o.2.2.1.length<999 then .ok (.nx,Ec m i o.1 c (iT o.2.2.1 o.2.2.2 f d)) else .stuck
theorem uO {x:Str}(i:Nat)(Ck:t6 X.K X.mg c fs)(he:FE X E e g)(hf:f∈fs:=by decide)(hN:X.N[i]? = some x:=by rfl)(hv:Vis X.env.scope x:=by first | exact Or.inl rfl | exact Or.inr (Or.inl rfl) | exact Or.inr (Or.inr rfl))(hd:(x == ("__debug__" : Str))=false:=by decide)(hcd:(x == ("__classdict__" : Str))=false:=by decide)
  (hs:swapsWith e (some (.Attribute (.Name x np) f pos')) pos.line X.env=pure false:=by rfl):FS X E (.Assign [.Attribute (.Name x np) f pos'] e pos) (j5 i c f g):=
 eE (Je (jP hN hv hd hcd) he hs) λW σ H hE=>xq5 hE λO0 M0 H0 ow m R q=>⟨O0,M0,H0,ow,m,R.toRel,(Ss.pu R.toRel q).imp (aL.refl _) λd q v H1 g1 hv=>by
  obtain ⟨C,hC,hc,hn⟩:=Ck.ex
  obtain ⟨o,ho,q⟩:=Ss.ofO q
  obtain ⟨k,c',ns,ds⟩:=o
  have R1:=R.mono g1
  obtain ⟨a,C',dx,kvs,e1,e2,ec,e3,e4,e5,e6⟩:=Ku R1.toRel ho
  by_cases z:c'=c/\ns.length<999
  ·have q:=(show Ss (gx X) E O0 M0 H0 ow H W (if c'=c/\ns.length<999 then .ok (.nx,Ec m i k c (iT ns ds f d)) else .stuck) from q)
   rw [if_pos z] at q
   obtain ⟨rfl,hz⟩:=z
   have:some (Value.ref C')=some (.ref C):=ec.symm.trans hC
   cases this
   subst e4
   obtain ⟨p1,p2⟩:=zV (f:=f) hv e5
   obtain ⟨R2,g2⟩:=R1.Ec (dx:=dx) e1 hC e6 p1 p2
   exact ⟨_,e2,a,C,dx,kvs,rfl,e3,hc,hn f hf,by simp at hz;omega,q _ _ _ R2 ((Go.refl g1).trans g2)⟩
  ·have q:=(show Ss (gx X) E O0 M0 H0 ow H W (if c'=c/\ns.length<999 then .ok (.nx,Ec m i k c (iT ns ds f d)) else .stuck) from q)
   rw [if_neg z] at q;exact q.elim⟩
end
def jd:D->Bool
 | .lst ds=>qJ ds
 |_=>false
def uM (r:Bool×D):Bool:=gj r.2 || (r.1 && jd r.2)
structure FMt (P:Program)(w:World)(K:W.Frag)(mg:Str->Option Value)(base:Heap)(k:Nat)(c m:Str)(ps:List Str)(sp:Sp):Prop where
 ex:∃C g fd,mg c=some (.ref C)/\Cls K C/\Meth K C m g/\dm P w K mg base (CX1 P w) k g fd ps sp/\Binds K fd ps []
abbrev FMd (P:Program)(w:World)(K:W.Frag)(mg:Str->Option Value)(base:Heap)(k:Nat)(c m:Str)(ps:List Str)(Φ:List D->Res (Bool×D)):Prop:=FMt P w K mg base k c m ps (spF ⟨K,mg⟩ Φ)
def mR (c m:Str):D->Bool
 | .ins c' ns _=>decide (c'=c) && !ns.contains m
 |_=>false
theorem Dl {m:Str}:∀{kvs:List (Str×V)},(kvs.map (·.1)).contains m=false->kvs.lookup m=none
 |[],_=>rfl
 |(n,v)::kvs,h=>by
  rw [List.map_cons,List.contains_cons,Bool.or_eq_false_iff] at h
  rw [List.lookup,h.1]
  exact Dl h.2
theorem Ri {G:Gx}{O:Addr->Prop}{H:Hp}{v:V}{c m:Str}{d:D}(h:DV G O H v d)(e:mR c m d=true):∃a C dx kvs,v=.ref a/\G.mg c=some (.ref C)/\H a=some (.ins C dx kvs)/\kvs.lookup m=none:=by
 cases d with
 |ins c' ns ds=>
  have e:=Bool.and_eq_true_iff.mp e
  have e1:=of_decide_eq_true e.1
  subst e1
  obtain ⟨a,C,dx,kvs,rfl,ec,e1,rfl,hs⟩:=Q3 (.inl h)
  exact ⟨a,C,dx,kvs,rfl,ec,e1,Dl (by simpa using e.2)⟩
 |_=>cases e
def fMt (c m:Str)(Φ:List D->Res (Bool×D))(f0:Me->Res D)(fs:Me->Res (List D)):Me->Res D:=λme=>(f0 me).bind λd=>if mR c m d=true then (fs me).bind λds=>(Φ (d::ds)).bind λr=>if uM r=true then .ok r.2 else .stuck else .stuck
def gJ (c m:Str)(Φ:List D->Res (Bool×D))(f0:Me->Res D)(fs:Me->Res (List D)):Me->Res D:=λme=>(f0 me).bind λd=>if mR c m d=true then (fs me).bind λds=>(Φ (d::ds)).bind λr=>if (r.1 && jd r.2)=true then .ok r.2 else .stuck else .stuck
def tVw (G:Gx)(E:XK)(f:Me->Res D):TE:=λσ H Q=>∃O0 M0 H0 ow m,Rel G O0 M0 H0 ow σ H m/\Pu G E (f m) H λd=>∀v H',aL H H'->DV G (λ_=>False) H' v d->Q v H'
abbrev FV (X:Cx)(E:XK)(e:Expr)(f:Me->Res D):Prop:=PE X e (tVw (gx X) E f)
theorem uI {X:Cx}{E:XK}{e:Expr}{f:Me->Res D}(h:FB X E e f):FV X E e f:=cF h λσ H Q hE=>xq5 hE λO0 M0 H0 ow m R q=>⟨O0,M0,H0,ow,m,R,q.imp (aL.refl _) λd q v H' g hv=>q v H' g hv.any⟩
def zF (A:Addr)(e:D):D->D
 | .adr b=>if b=A then e else .adr b
 |d=>d
theorem Ym {G:Gx}{H:Hp}{A:Addr}{e:D}(he:DV G (λ_=>False) H (.ref A) e):∀{v:V} {d:D},DV G (λ_=>False) H v d->DV G (λ_=>False) H v (zF A e d):=λ{v d} h=>by
 cases d with
 |adr b=>
  show DV G _ H v (if b=A then e else .adr b)
  by_cases q:b=A
  ·rw [if_pos q]
   cases h
   rw [q];exact he
  ·rw [if_neg q];exact h
 |_=>exact h
theorem FZ {G:Gx}{H:Hp}{A:Addr}{e:D}(he:DV G (λ_=>False) H (.ref A) e):∀{vs:List V} {ds:List D},DVs G (λ_=>False) H vs ds->DVs G (λ_=>False) H vs (ds.map (zF A e))
 |_,_,.nil=>.nil
 |_,_,.cons h hs=>.cons (Ym he h) (FZ he hs)
def cB (i j:Nat):Me->Res D:=λm=>match m[i]?,m[j]? with
 |some (.ow (.ins c ns ds)),some (.hd _ A e)=>.ok (.ins c ns (ds.map (zF A e)))
 |some (.io (.ins c ns ds)),some (.hd _ A e)=>.ok (.ins c ns (ds.map (zF A e)))
 |_,_=>.stuck
theorem pN {G:Gx}{O0 M0:Addr->Prop}{H0:Hp}{ow:Os}{σ:L2.St}{H:Hp}{m:Me}(R:Rel G O0 M0 H0 ow σ H m){i j:Nat}{d:D}(h:cB i j m=.ok d):∃v,σ[i]? = some (some v)/\DV G (λ_=>False) H v d:=by
 have go:∀{c:Str} {ns:List Str} {ds:List D} {w:Bool} {A:Addr} {e:D} {a:Addr},OV G (Ow O0 ow) H a (.ins c ns ds)->m[j]? = some (.hd w A e)->DV G (λ_=>False) H (.ref a) (.ins c ns (ds.map (zF A e))):=λ{c ns ds w A e a} ov hj=>by
  obtain ⟨x1,x2,x3,x4⟩:=R.slot j _ hj
  have he:DV G (λ_=>False) H (.ref A) e:=(x4.cJ (O':=λ_=>False) λ_ z=>z.elim).dv id
  obtain ⟨C,dx,kvs,vs,ec,e1,e2,e3,hs⟩:=ov
  exact .ins id ec e1 e2 e3 (FZ he (hs.cJ λ_ z=>z.elim))
 unfold cB at h
 split at h
 ·rename_i c ns ds w A e q1 q2
  cases h
  obtain ⟨a,e1,e2,e3,ov⟩:=R.slot i _ q1
  exact ⟨_,e3,go ov q2⟩
 ·rename_i c ns ds w A e q1 q2
  cases h
  obtain ⟨a,e1,e2,e3,ov⟩:=R.slot i _ q1
  exact ⟨_,e3,go ov q2⟩
 ·cases h
theorem iC {X:Cx}{E:XK}{x:Str}{np:Pos}(i j:Nat)(hN:X.N[i]? = some x:=by rfl)(hv:Vis X.env.scope x:=by first | exact Or.inl rfl | exact Or.inr (Or.inl rfl) | exact Or.inr (Or.inr rfl))(hd:(x == ("__debug__" : Str))=false:=by decide)(hcd:(x == ("__classdict__" : Str))=false:=by decide):FV X E (.Name x np) (cB i j):=
 cF (jP hN hv hd hcd) λσ H Q hE=>xq5 hE λO0 M0 H0 ow m R q=>by
  cases z:cB i j m with
  |ok d=>
   rw [z] at q
   obtain ⟨v,e1,dv⟩:=pN R z
   exact ⟨v,e1,q v H (aL.refl _) dv⟩
  |exc c=>unfold cB at z;split at z<;>cases z
  |stuck=>rw [z] at q;exact q.elim
section
variable {X:Cx}{E:XK}{j k:Nat}{c m:Str}{ps:List Str}{Φ:List D->Res (Bool×D)}{apos pos:Pos}{o e:Expr}{es:List Expr}{f0:Me->Res D}{fs:Me->Res (List D)}{pl:Sem Bool}
theorem Gk {G:Gx}{O:Addr->Prop}{H H':Hp}{r:Bool×D}{v:V}(mk:∀b,O b->fP (H b))(h:(r.1 && jd r.2)=true)(fr:r.1=true->Fr G (λ_=>False) H v H' r.2):∃p,v=.ref p/\H p=none/\OV G (Op O p) H' p r.2:=by
 obtain ⟨h1,h2⟩:=Bool.and_eq_true_iff.mp h
 have ht:isTup r.2=false:=by
  obtain ⟨b,d⟩:=r
  cases d<;>first | rfl | cases h2
 obtain ⟨p,rfl,n,ov⟩:=(fr h1).lst ht
 obtain ⟨b,d⟩:=r
 cases d with
 |lst ds=>
  obtain ⟨xs,e,hs⟩:=ov
  exact ⟨p,rfl,n,xs,e,hs.gj h2⟩
 |_=>cases h2
theorem Ko {G:Gx}{O:Addr->Prop}{H H':Hp}{r:Bool×D}{v:V}(mk:∀b,O b->fP (H b))(h:uM r=true)(hv:DV G (λ_=>False) H' v r.2)(fr:r.1=true->Fr G (λ_=>False) H v H' r.2):DV G O H' v r.2:=by
 rcases Bool.or_eq_true_iff.mp h with h | h
 ·exact hv.gj h
 ·obtain ⟨p,rfl,n,ov⟩:=Gk mk h fr
  refine (ov.cJ (O':=O) λb z=>.inl (.inl z)).dv λz=>?_
  have:=mk p z
  rw [n] at this
  rcases this with ⟨_,e⟩ | ⟨_,e⟩ | ⟨_,e⟩ | ⟨_,e⟩<;>cases e
theorem V6 (Fh:FMd X.prog X.w X.K X.mg X.base k c m ps Φ)(hr:gw j X.A)(hx:Passes (CX1 X.prog X.w) X E)(h0:FV X E o f0)(ha:FAB X E (e::es) fs)(hk:k<=j)
  (hst:starEach (e::es) X.env=(false,eval e X.env)::starEach es X.env) (hpl:(backTo pos (starEach es X.env)).any (·.1)=false)
  (ht:eval (.Call (.Attribute o m apos) (e::es) [] pos) X.env=(do
   let ov ← eval o X.env
   standAt apos.atName
   let (f,first) ← holding [ov] (getMethod ov m pl)
   callWith pos f first (backTo pos (starEach (e::es) X.env)) (backToKw pos (keywordEach [] X.env)))) {T:TE}
  (hT:∀σ H Q,T σ H Q->∃O0 M0 H0 ow me,Rel (gx X) O0 M0 H0 ow σ H me/\Pu (gx X) E (f0 me) H λd=>mR c m d=true/\Pu (gx X) E (fs me) H λds=>Pu (gx X) E (Φ (d::ds)) H λr=>∀v H0' H',aL H H0'->aL H0' H'->DV (gx X) (λ_=>False) H' v r.2->(r.1=true->Fr (gx X) (λ_=>False) H0' v H' r.2)->Q v H'):
  PE X (.Call (.Attribute o m apos) (e::es) [] pos) T:=by
 obtain ⟨C,g,fd,hC,hc,hm,G,b⟩:=Fh.ex
 refine cF (M4 (pl:=pl) h0 hc hm G (hr.mono hk) b .nil hx ha hst hpl ht) λσ H Q h=>?_
 obtain ⟨O0,M0,H0,ow,me,R,q⟩:=hT σ H Q h
 refine ⟨O0,M0,H0,ow,me,R,q.imp (aL.refl _) λd ⟨ob,q⟩ v H1 g1 hv=>?_⟩
 obtain ⟨a,C',dx,kvs,rfl,ec,e1,l⟩:=Ri hv ob
 have:some (Value.ref C')=some (.ref C):=ec.symm.trans hC
 cases this
 refine ⟨a,dx,kvs,rfl,e1,l,O0,M0,H0,ow,me,R.mono g1,q.imp g1 λds q vs H2 g2 hvs=>?_⟩
 show spF _ _ (V.ref a::(vs++[])) _ _ _
 rw [List.append_nil]
 exact ⟨_,d::ds,λ_ z=>z.elim,.cons (hv.mono g2) hvs.any,q.imp (g1.trans g2) λr q v H' g3 hv' fr=>q v H2 H' (g1.trans g2) g3 hv' fr⟩
theorem RM (Fh:FMd X.prog X.w X.K X.mg X.base k c m ps Φ)(hr:gw j X.A)(hx:Passes (CX1 X.prog X.w) X E)(h0:FV X E o f0)(hk:k<=j)
  (ht:eval (.Call (.Attribute o m apos) [] [] pos) X.env=(do
   let ov ← eval o X.env
   standAt apos.atName
   let (f,first) ← holding [ov] (getMethod ov m pl)
   callWith pos f first (backTo pos (starEach [] X.env)) (backToKw pos (keywordEach [] X.env)))) {T:TE}
  (hT:∀σ H Q,T σ H Q->∃O0 M0 H0 ow me,Rel (gx X) O0 M0 H0 ow σ H me/\Pu (gx X) E (f0 me) H λd=>mR c m d=true/\Pu (gx X) E (Φ [d]) H λr=>∀v H0' H',aL H H0'->aL H0' H'->DV (gx X) (λ_=>False) H' v r.2->(r.1=true->Fr (gx X) (λ_=>False) H0' v H' r.2)->Q v H'):
  PE X (.Call (.Attribute o m apos) [] [] pos) T:=by
 obtain ⟨C,g,fd,hC,hc,hm,G,b⟩:=Fh.ex
 refine cF (Q8 (pl:=pl) h0 hc hm G (hr.mono hk) b .nil hx ht) λσ H Q h=>?_
 obtain ⟨O0,M0,H0,ow,me,R,q⟩:=hT σ H Q h
 refine ⟨O0,M0,H0,ow,me,R,q.imp (aL.refl _) λd ⟨ob,q⟩ v H1 g1 hv=>?_⟩
 obtain ⟨a,C',dx,kvs,rfl,ec,e1,l⟩:=Ri hv ob
 have:some (Value.ref C')=some (.ref C):=ec.symm.trans hC
 cases this
 refine ⟨a,dx,kvs,rfl,e1,l,?_⟩
 exact ⟨_,[d],λ_ z=>z.elim,.cons hv .nil,q.imp g1 λr q v H' g3 hv' fr=>q v H1 H' g1 g3 hv' fr⟩
theorem zZ {O:Addr->Prop}{H H':Hp}(mk:∀b,O b->fP (H b))(g:aL H H'):∀b,O b->fP (H' b):=λb z=>kZ g (mk b z)
theorem xR (Fh:FMd X.prog X.w X.K X.mg X.base k c m ps Φ)(hr:gw j X.A)(hx:Passes (CX1 X.prog X.w) X E)(h0:FV X E o f0)(ha:FAB X E (e::es) fs)(hk:k<=j:=by decide)
  (hst:starEach (e::es) X.env=(false,eval e X.env)::starEach es X.env:=by rfl) (hpl:(backTo pos (starEach es X.env)).any (·.1)=false:=by rfl)
  (ht:eval (.Call (.Attribute o m apos) (e::es) [] pos) X.env=(do
   let ov ← eval o X.env
   standAt apos.atName
   let (f,first) ← holding [ov] (getMethod ov m pl)
   callWith pos f first (backTo pos (starEach (e::es) X.env)) (backToKw pos (keywordEach [] X.env))):=by rfl):
  FE X E (.Call (.Attribute o m apos) (e::es) [] pos) (fMt c m Φ f0 fs):=
 V6 Fh hr hx h0 ha hk hst hpl ht λσ H Q hE=>xq5 hE λO0 M0 H0 ow me R q=>⟨O0,M0,H0,ow,me,R,q.bind.imp (aL.refl _) λd q=>by
  obtain ⟨ob,q⟩:=t8 q
  refine ⟨ob,q.bind.imp (aL.refl _) λds q=>q.bind.imp (aL.refl _) λr q v H1 H' g1 g2 hv fr=>?_⟩
  obtain ⟨hf,q⟩:=xJ q
  exact q v H' (g1.trans g2) (Ko (zZ R.mutk g1) hf hv fr)⟩
theorem Ca (Fh:FMd X.prog X.w X.K X.mg X.base k c m ps Φ)(hr:gw j X.A)(hx:Passes (CX1 X.prog X.w) X E)(h0:FV X E o f0)(ha:FAB X E (e::es) fs)(hk:k<=j:=by decide)
  (hst:starEach (e::es) X.env=(false,eval e X.env)::starEach es X.env:=by rfl) (hpl:(backTo pos (starEach es X.env)).any (·.1)=false:=by rfl)
  (ht:eval (.Call (.Attribute o m apos) (e::es) [] pos) X.env=(do
   let ov ← eval o X.env
   standAt apos.atName
   let (f,first) ← holding [ov] (getMethod ov m pl)
   callWith pos f first (backTo pos (starEach (e::es) X.env)) (backToKw pos (keywordEach [] X.env))):=by rfl):
  FN X E (.Call (.Attribute o m apos) (e::es) [] pos) (gJ c m Φ f0 fs):=
 V6 Fh hr hx h0 ha hk hst hpl ht λσ H Q hE=>xq5 hE λO0 M0 H0 ow me R q=>⟨O0,M0,H0,ow,me,R,q.bind.imp (aL.refl _) λd q=>by
  obtain ⟨ob,q⟩:=t8 q
  refine ⟨ob,q.bind.imp (aL.refl _) λds q=>q.bind.imp (aL.refl _) λr q v H1 H' g1 g2 hv fr=>?_⟩
  obtain ⟨hf,q⟩:=xJ q
  obtain ⟨p,rfl,n,ov⟩:=Gk (zZ R.mutk g1) hf fr
  exact q p H' (g1.trans g2) (g1.free n) ov⟩
theorem Xr (Fh:FMd X.prog X.w X.K X.mg X.base k c m ps Φ)(hr:gw j X.A)(hx:Passes (CX1 X.prog X.w) X E)(h0:FV X E o f0)(hk:k<=j:=by decide)
  (ht:eval (.Call (.Attribute o m apos) [] [] pos) X.env=(do
   let ov ← eval o X.env
   standAt apos.atName
   let (f,first) ← holding [ov] (getMethod ov m pl)
   callWith pos f first (backTo pos (starEach [] X.env)) (backToKw pos (keywordEach [] X.env))):=by rfl):
  FE X E (.Call (.Attribute o m apos) [] [] pos) (fMt c m Φ f0 az):=
 RM Fh hr hx h0 hk ht λσ H Q hE=>xq5 hE λO0 M0 H0 ow me R q=>⟨O0,M0,H0,ow,me,R,q.bind.imp (aL.refl _) λd q=>by
  obtain ⟨ob,q⟩:=t8 q
  have q:Pu (gx X) E ((Φ [d]).bind λr=>if uM r=true then .ok r.2 else .stuck) H _:=q
  refine ⟨ob,q.bind.imp (aL.refl _) λr q v H1 H' g1 g2 hv fr=>?_⟩
  obtain ⟨hf,q⟩:=xJ q
  exact q v H' (g1.trans g2) (Ko (zZ R.mutk g1) hf hv fr)⟩
end
def spM (G:Gx)(Φ:List D->D->Addr×D->Res (D×D×D)):Sp:=λvs H Q E=>∃O a us ds d y,vs=.ref a::us/\(∀b,O b->fP (H b))/\(O a/\OV G O H a d)/\(O y.1/\OV G O H y.1 y.2)/\a≠y.1/\DVs G O H us ds/\match Φ ds d y with
 | .ok (r,d',e)=>∀v H',Kp (λb=>b=a\/b=y.1) H H'->OV G O H' a d'->OV G O H' y.1 e->DV G O H' v r->Q v H'
 | .exc c=>∀C H',G.mg c=some (.ref C)->Kp (λb=>b=a\/b=y.1) H H'->E (.ref C) none H'
 | .stuck=>False
def hdF (m:Me)(j:Nat)(a:Addr):Option D:=match m[j]? with
 |some (.hd false b d)=>if a=b then some d else none
 |_=>none
theorem Xc {m:Me}{j:Nat}{a:Addr}{d:D}(h:hdF m j a=some d):m[j]? = some (.hd false a d):=by
 unfold hdF at h
 split at h
 ·rename_i b d' q
  split at h
  ·rename_i z;cases h;rw [z];exact q
  ·cases h
 ·cases h
def stM (N n:Nat)(ds:List D)(d:D)(y:Addr×D):Me:=.io d::(ds.map Sl.fz++(List.replicate (N-n - 1) Sl.un++[.hd false y.1 y.2]))
def runM (N n:Nat)(g:Me->Res (Fl×Me)):List D->D->Addr×D->Res (D×D×D):=λds d y=>if ds.length+1=n then match g (stM N n ds d y) with
  | .ok (.rt _ r,m')=>(ofO (nU m' 0)).bind λd'=>(ofO (hdF m' (N - 1) y.1)).bind λe=>.ok (r,d',e)
  | .ok (.nx,m')=>(ofO (nU m' 0)).bind λd'=>(ofO (hdF m' (N - 1) y.1)).bind λe=>.ok (.non,d',e)
  | .exc c=>.exc c
  |_=>.stuck
 else .stuck
def ow2 (j:Nat)(a b:Addr):Os:=λk=>if k=0 then some a else if k=j then some b else none
theorem z9 {j:Nat}{a b c:Addr}{k:Nat}(e:ow2 j a b k=some c):(k=0/\c=a)\/(k=j/\c=b):=by
 unfold ow2 at e
 split at e
 ·rename_i q;cases e;exact .inl ⟨q,rfl⟩
 ·split at e
  ·rename_i q;cases e;exact .inr ⟨q,rfl⟩
  ·cases e
theorem Ui {O:Addr->Prop}{j:Nat}{a b:Addr}(h:O a)(h1:O b)(n:j≠0):Ow (λc=>O c/\c≠a/\c≠b) (ow2 j a b)=O:=by
 funext c
 refine propext ⟨λz=>?_,λz=>?_⟩
 ·rcases z with z | ⟨k,e⟩
  ·exact z.1
  ·rcases z9 e with ⟨_,rfl⟩ | ⟨_,rfl⟩
   ·exact h
   ·exact h1
 ·by_cases q:c=a
  ·exact .inr ⟨0,by rw [q];rfl⟩
  ·by_cases q1:c=b
   ·exact .inr ⟨j,by unfold ow2;rw [if_neg n,if_pos rfl,q1]⟩
   ·exact .inl ⟨z,q,q1⟩
theorem Mi {N n:Nat}{ds:List D}{d:D}{y:Addr×D}(hn:ds.length+1=n)(hN:n+1<=N):(stM N n ds d y).length=N:=by
 simp [stM];omega
theorem QS {N n:Nat}{ds:List D}{d:D}{y:Addr×D}(hn:ds.length+1=n)(hN:n+1<=N){i:Nat}{s:Sl}(e:(stM N n ds d y)[i]? = some s):(i=0/\s=.io d)\/(∃k d1,i=k+1/\ds[k]? = some d1/\s=.fz d1)\/(i≠0/\i≠N - 1/\s=.un)\/(i=N - 1/\s=.hd false y.1 y.2):=by
 unfold stM at e
 cases i with
 |zero=>cases e;exact .inl ⟨rfl,rfl⟩
 |succ k=>
  rw [List.getElem?_cons_succ] at e
  by_cases hk:k<ds.length
  ·rw [List.getElem?_append_left (by simpa using hk),List.getElem?_map,List.getElem?_eq_getElem hk] at e
   cases e
   exact .inr (.inl ⟨k,ds[k],rfl,List.getElem?_eq_getElem hk,rfl⟩)
  ·rw [List.getElem?_append_right (by simpa using hk),List.length_map] at e
   by_cases h2:k-ds.length<N-n - 1
   ·rw [List.getElem?_append_left (by simpa using h2),List.getElem?_replicate,if_pos h2] at e
    cases e
    exact .inr (.inr (.inl ⟨by omega,by omega,rfl⟩))
   ·rw [List.getElem?_append_right (by simpa using h2),List.length_replicate] at e
    by_cases h3:k-ds.length-(N-n - 1)=0
    ·rw [h3] at e;cases e
     exact .inr (.inr (.inr ⟨by omega,rfl⟩))
    ·rw [List.getElem?_eq_none (by simp;omega)] at e;cases e
theorem Tv {G:Gx}{O:Addr->Prop}{H:Hp}{N:List Str}{a:Addr}{us:List V}{ds:List D}{d:D}{y:Addr×D}{n:Nat}(hm:∀b,O b->fP (H b))(ho:O a/\OV G O H a d)(hy:O y.1/\OV G O H y.1 y.2)(nd:a≠y.1)(hd:DVs G O H us ds)(hn:ds.length+1=n)(hN:n+1<=N.length):
  du G (λb=>O b/\b≠a/\b≠y.1) (λb=>b=a\/b=y.1) H (ow2 (N.length - 1) a y.1) (L2.start N (.ref a::us)) H (stM N.length n ds d y):=by
 have hl:=cH hd
 have n1:N.length - 1≠0:=by omega
 have eO:=Ui ho.1 hy.1 n1
 have hst:∀i v,(V.ref a::us)[i]? = some v->(L2.start N (.ref a::us))[i]? = some (some v):=λi v e=>by
  have hi:i<(V.ref a::us).length:=(List.getElem?_eq_some_iff.mp e).1
  unfold L2.start
  rw [List.getElem?_append_left (by simpa using hi),List.getElem?_map,e]
  rfl
 have o0:ow2 (N.length - 1) a y.1 0=some a:=rfl
 have o1:ow2 (N.length - 1) a y.1 (N.length - 1)=some y.1:=by unfold ow2;rw [if_neg n1,if_pos rfl]
 have on:∀i,i≠0->i≠N.length - 1->ow2 (N.length - 1) a y.1 i=none:=λi h1 h2=>by unfold ow2;rw [if_neg h1,if_neg h2]
 refine ⟨⟨?_,λb o e _=>e,λb z=>?_,λb z=>by rw [eO] at z;exact hm b z,λi b e z=>?_,λi j b e1 e2=>?_,λi hi=>?_,λi s e=>?_⟩,λj d' e=>?_⟩
 ·rw [Mi hn hN]
  unfold L2.start
  rw [List.length_append,List.length_map,List.length_replicate,List.length_cons,hl]
  omega
 ·have mn:∀b,fP (H b)->H b≠none:=λb z w=>by rw [w] at z;rcases z with ⟨_,e⟩ | ⟨_,e⟩ | ⟨_,e⟩ | ⟨_,e⟩<;>cases e
  rcases z with z | z
  ·rw [z];exact mn _ ho.2.mut
  ·rw [z];exact mn _ hy.2.mut
 ·rcases z9 e with ⟨_,rfl⟩ | ⟨_,rfl⟩
  ·exact z.2.1 rfl
  ·exact z.2.2 rfl
 ·rcases z9 e1 with ⟨u1,u2⟩ | ⟨u1,u2⟩<;>rcases z9 e2 with ⟨w1,w2⟩ | ⟨w1,w2⟩
  ·rw [u1,w1]
  ·exact absurd (u2.symm.trans w2) nd
  ·exact absurd (w2.symm.trans u2) nd
  ·rw [u1,w1]
 ·rw [Mi hn hN] at hi
  exact on i (by omega) (by omega)
 ·rw [eO]
  rcases QS hn hN e with ⟨rfl,rfl⟩ | ⟨k,d1,rfl,ed,rfl⟩ | ⟨q1,q2,rfl⟩ | ⟨rfl,rfl⟩
  ·exact ⟨a,o0,.inl rfl,hst 0 _ rfl,ho.2⟩
  ·obtain ⟨v,hv,dx⟩:=yz hd ed
   have hk:k<ds.length:=(List.getElem?_eq_some_iff.mp ed).1
   exact ⟨on _ (by omega) (by omega),v,hst (k+1) _ (by simpa using hv),dx⟩
  ·exact on i q1 q2
  ·exact ⟨o1,(λz=>by cases z),λ_=>.inr rfl,hy.2⟩
 ·rcases QS hn hN e with ⟨_,z⟩ | ⟨_,_,_,_,z⟩ | ⟨_,_,z⟩ | ⟨_,z⟩<;>cases z
section
variable {P:Program}{w:World}{K:W.Frag}{mg:Str->Option Value}{base:Heap}
theorem K5 {x qual:Str}{st:Stmt}{f:Addr}{fd:FuncData}{N ps:List Str}{k:Nat}{g:Me->Res (Fl×Me)}(Fu:Fun K x qual st f fd)(S:bI N ps (aG st))(hN:ps.length+1<=N.length)
  (hbody:∀(cdv:Value) (A:Around) (outer:List Env) (s:Shared) (H:Hp) (E:XK),gw k (A.deeper (envOfC qual (aG st) s.heap.objs.size f cdv))->
   FSs (zx (CX1 P w) P w K mg base N qual (aG st) f cdv A outer s H E) E (jc st) g):dm P w K mg base (CX1 P w) (k+1) f fd ps (spM ⟨K,mg⟩ (runM N.length ps.length g)):=by
 have cond:∀{ds:List D} {d:D} {u:Addr×D},runM N.length ps.length g ds d u≠.stuck->ds.length+1=ps.length:=λ{ds d u} h=>by
  by_cases z:ds.length+1=ps.length
  ·exact z
  ·unfold runM at h;rw [if_neg z] at h;exact absurd rfl h
 refine Es Fu S (λvs H Q E h=>?_) (λcdv A outer s H vs Q E hr h=>?_)
 ·obtain ⟨O,a,us,ds,d,u,rfl,_,_,_,_,hd,q⟩:=h
  rw [List.length_cons,cH hd]
  exact cond λz=>by rw [z] at q;exact q
 ·obtain ⟨O,a,us,ds,d,u,rfl,hm,ho,hu,nd,hd,q⟩:=h
  have hn:=cond (ds:=ds) (d:=d) λz=>by rw [z] at q;exact q
  unfold runM at q
  rw [if_pos hn] at q
  refine ⟨_,hbody cdv A outer s H E hr,_,_,H,_,_,Tv hm ho hu nd hd hn hN,?_⟩
  have n1:N.length - 1≠0:=by omega
  have fin:∀{ow' σ' H' m' d' e'},du (⟨K,mg⟩:Gx) (λb=>O b/\b≠a/\b≠u.1) (λb=>b=a\/b=u.1) H ow' σ' H' m'->nU m' 0=some d'->hdF m' (N.length - 1) u.1=some e'->
    Kp (λb=>b=a\/b=u.1) H H'/\OV ⟨K,mg⟩ O H' a d'/\OV ⟨K,mg⟩ O H' u.1 e'/\∀z r,DV (⟨K,mg⟩:Gx) (Ow (λb=>O b/\b≠a/\b≠u.1) ow') H' z r->DV ⟨K,mg⟩ O H' z r:=λ{ow' σ' H' m' d' e'} R e0 e1=>by
   obtain ⟨a',k1,k2,k3,k4⟩:=R.slot 0 _ (SM e0)
   obtain ⟨x1,x2,x3,x4⟩:=R.slot _ _ (Xc e1)
   have ea:a'=a:=by
    rcases k2 with z | z
    ·exact z
    ·exact absurd (R.inj 0 _ _ k1 (z ▸ x1)) (Ne.symm n1)
   subst ea
   have sub:∀b,O b->Ow (λb=>O b/\b≠a'/\b≠u.1) ow' b\/H' b=none:=λb z=>by
    by_cases q:b=a'
    ·exact .inl (.inr ⟨0,by rw [q];exact k1⟩)
    ·by_cases q1:b=u.1
     ·exact .inl (.inr ⟨_,by rw [q1];exact x1⟩)
     ·exact .inl (.inl ⟨z,q,q1⟩)
   exact ⟨R.keep,k4.cJ sub,x4.cJ sub,λz r h=>h.cJ sub⟩
  cases z:g (stM N.length ps.length ds d u) with
  |exc c=>rw [z] at q;exact λC H' e kp=>q C H' e kp
  |stuck=>rw [z] at q;exact q.elim
  |ok b=>
   obtain ⟨fl,m'⟩:=b
   rw [z] at q
   cases fl with
   |bk=>exact q.elim
   |ct=>exact q.elim
   |nx=>
    intro ow' σ' H' R' _
    cases e0:nU m' 0 with
    |none=>simp only [e0] at q;exact q.elim
    |some d'=>
     cases e1:hdF m' (N.length - 1) u.1 with
     |none=>simp only [e0,e1,nY,Res.bh] at q;exact q.elim
     |some e'=>
      simp only [e0,e1] at q
      obtain ⟨k1,k2,k3,k5⟩:=fin R' e0 e1
      exact q _ H' k1 k2 k3 .non
   |rt fr r=>
    intro v' ow' σ' H' R' _ hv' _
    cases e0:nU m' 0 with
    |none=>simp only [e0] at q;exact q.elim
    |some d'=>
     cases e1:hdF m' (N.length - 1) u.1 with
     |none=>simp only [e0,e1,nY,Res.bh] at q;exact q.elim
     |some e'=>
      simp only [e0,e1] at q
      obtain ⟨k1,k2,k3,k5⟩:=fin R' e0 e1
      exact q v' H' k1 k2 k3 (k5 _ _ hv')
end
abbrev FMm (P:Program)(w:World)(K:W.Frag)(mg:Str->Option Value)(base:Heap)(k:Nat)(c m:Str)(ps:List Str)(Φ:List D->D->Addr×D->Res (D×D×D)):Prop:=FMt P w K mg base k c m ps (spM ⟨K,mg⟩ Φ)
def fxM (c m:Str)(Φ:List D->D->Addr×D->Res (D×D×D))(i j:Nat)(fs:Me->Res (List D)):Me->Res (D×Me):=λme=>(ofO (Nh me i)).bind λo=>(ofO (Ih me j)).bind λh1=>if mR c m o.2=true then (fs me).bind λds=>(Φ ds o.2 h1.2).bind λr=>.ok (r.1,(G6 me i o.1 r.2.1).set j (.hd h1.1 h1.2.1 r.2.2)) else .stuck
section
variable {X:Cx}{E:XK}{jj k:Nat}{c m x:Str}{ps:List Str}{Φ:List D->D->Addr×D->Res (D×D×D)}{apos pos np:Pos}{e:Expr}{es:List Expr}{fs:Me->Res (List D)}{pl:Sem Bool}
theorem Zx {G:Gx}{α:Type}{O0 M0:Addr->Prop}{H0:Hp}{ow:Os}{σ:L2.St}{H:Hp}{p:Prop}[Decidable p]{r:Res (α×Me)}{K:α->Hp->Prop}(h:Xs G E O0 M0 H0 ow σ H (if p then r else .stuck) K):p/\Xs G E O0 M0 H0 ow σ H r K:=by
 by_cases z:p
 ·rw [if_pos z] at h;exact ⟨z,h⟩
 ·rw [if_neg z] at h;exact h.elim
theorem Vc (i j:Nat)(Fh:FMm X.prog X.w X.K X.mg X.base k c m ps Φ)(hr:gw jj X.A)(hx:Passes (CX1 X.prog X.w) X E)(ha:FAE X E (e::es) fs)(hk:k<=jj:=by decide)(hN:X.N[i]? = some x:=by rfl)(hv:Vis X.env.scope x:=by first | exact Or.inl rfl | exact Or.inr (Or.inl rfl) | exact Or.inr (Or.inr rfl))(hd:(x == ("__debug__" : Str))=false:=by decide)(hcd:(x == ("__classdict__" : Str))=false:=by decide)
  (hst:starEach (e::es) X.env=(false,eval e X.env)::starEach es X.env:=by rfl) (hpl:(backTo pos (starEach es X.env)).any (·.1)=false:=by rfl)
  (ht:eval (.Call (.Attribute (.Name x np) m apos) (e::es) [] pos) X.env=(do
   let ov ← eval (.Name x np) X.env
   standAt apos.atName
   let (f,first) ← holding [ov] (getMethod ov m pl)
   callWith pos f first (backTo pos (starEach (e::es) X.env)) (backToKw pos (keywordEach [] X.env))):=by rfl):
  FX X E (.Call (.Attribute (.Name x np) m apos) (e::es) [] pos) (fxM c m Φ i j fs):=by
 obtain ⟨C,gg,fd,hC,hc,hm,G,b⟩:=Fh.ex
 refine cF (M4 (pl:=pl) (jP hN hv hd hcd) hc hm G (hr.mono hk) b .nil hx ha hst hpl ht) λσ H Q hE=>xq5 hE λO0 M0 H0 ow me R q=>?_
 obtain ⟨o,ho,q⟩:=(Xs.pu R.toRel q).ofO
 obtain ⟨h1,hh1,q⟩:=(Xs.pu R.toRel q).ofO
 obtain ⟨kk,d0⟩:=o
 obtain ⟨w1,a1,d1⟩:=h1
 obtain ⟨ob,q⟩:=Zx q
 obtain ⟨a,e1,e2,e4,e5⟩:=Um R.toRel ho
 have g1:=Ms hh1
 obtain ⟨x1,x2,x3,x4⟩:=R.slot j _ g1
 have ni1:i≠j:=λz=>by subst z;rcases e5 with ⟨s,_⟩ | ⟨s,_⟩<;>(rw [g1] at s;cases s)
 have na1:a≠a1:=λz=>ni1 (R.inj i j a e1 (z ▸ x1))
 obtain ⟨a',C',dx,kvs,ea,ec,eH,l⟩:=Ri (e4.cJ (O':=λ_=>False) (λ_ z=>z.elim) |>.dv id) ob
 cases ea
 have:some (Value.ref C')=some (.ref C):=ec.symm.trans hC
 cases this
 refine ⟨_,e2,a,dx,kvs,rfl,eH,l,O0,M0,H0,ow,me,R.toRel,(Xs.pu R.toRel q).imp (aL.refl _) λds q us H1 g3 hus=>?_⟩
 have R1:=R.mono g3
 have q:Xs (gx X) E O0 M0 H0 ow σ H1 ((Φ ds d0 (a1,d1)).bind λr=>.ok (r.1,(G6 me i kk r.2.1).set j (.hd w1 a1 r.2.2))) _:=q.at g3
 show spM _ _ (V.ref a::(us++[])) _ _ _
 rw [List.append_nil]
 refine ⟨Ow O0 ow,a,us,ds,d0,(a1,d1),rfl,R1.mutk,⟨.inr ⟨i,e1⟩,e4.mono g3⟩,⟨.inr ⟨j,x1⟩,x4.mono g3⟩,na1,hus,?_⟩
 have m0a:H0 a=none\/M0 a:=by
  rcases e5 with ⟨s,_⟩ | ⟨s,_⟩
  ·obtain ⟨a',s1,s2,_⟩:=R.slot i _ s;rw [e1] at s1;cases s1;exact .inl s2
  ·obtain ⟨a',s1,s2,_⟩:=R.slot i _ s;rw [e1] at s1;cases s1;exact .inr s2
 have m01:H0 a1=none\/M0 a1:=by cases w1 with
  |true=>exact .inl (x2 rfl)
  |false=>exact .inr (x3 rfl)
 cases z:Φ ds d0 (a1,d1) with
 |stuck=>rw [z] at q;exact q.elim
 |exc c=>
  rw [z] at q
  refine λC H' e g=>q C H' e λb o e n=>?_
  refine g b o (R1.keep b o e n) λw=>?_
  rcases w with rfl | rfl
  ·rcases m0a with w | w
   ·rw [w] at e;cases e
   ·exact n w
  ·rcases m01 with w | w
   ·rw [w] at e;cases e
   ·exact n w
 |ok r=>
  obtain ⟨rr,d',e'⟩:=r
  rw [z] at q
  intro v H' g ov1 ov2 hv
  have hi:i<me.length:=by rcases e5 with ⟨s,_⟩ | ⟨s,_⟩<;>exact rP s
  have ex:∀c,((G6 me i kk d').set j (.hd w1 a1 e'))[c]? = if c=j then some (.hd w1 a1 e') else if c=i then some (if kk then .ow d' else .io d') else me[c]?:=λc=>by
   have l1:=rP g1
   unfold G6
   by_cases c1:c=j
   ·subst c1;rw [if_pos rfl,List.getElem?_set_self (by simpa using l1)]
   ·rw [if_neg c1,List.getElem?_set_ne (Ne.symm c1)]
    by_cases c0:c=i
    ·subst c0;rw [if_pos rfl,List.getElem?_set_self hi]
    ·rw [if_neg c0,List.getElem?_set_ne (Ne.symm c0)]
  obtain ⟨R2,G2⟩:=R1.many (m':=(G6 me i kk d').set j (.hd w1 a1 e')) (ch:=λc=>c=i\/c=j) (by simp [G6]) (λc n=>by
    rw [ex,if_neg (λz=>n (.inr z)),if_neg (λz=>n (.inl z))]) (λb o eb n=>g b o eb λw=>n (by
    rcases w with rfl | rfl
    ·exact ⟨i,.inl rfl,e1⟩
    ·exact ⟨j,.inr rfl,x1⟩)) (λc s cc es=>by
    rw [ex] at es
    rcases cc with rfl | rfl
    ·rw [if_neg ni1,if_pos rfl] at es
     cases es
     rcases e5 with ⟨s,rfl⟩ | ⟨s,rfl⟩
     ·obtain ⟨a',s1,s2,s3,_⟩:=R.slot c _ s
      rw [e1] at s1;cases s1
      exact ⟨⟨a,e1,s2,s3,ov1⟩,λd z=>by cases z⟩
     ·obtain ⟨a',s1,s2,s3,_⟩:=R.slot c _ s
      rw [e1] at s1;cases s1
      exact ⟨⟨a,e1,s2,s3,ov1⟩,λd z=>by cases z⟩
    ·rw [if_pos rfl] at es
     cases es
     exact ⟨⟨x1,x2,x3,ov2⟩,λd z=>by cases z⟩) (λc b cc eb=>by
    rcases cc with rfl | rfl
    ·rw [e1] at eb;cases eb;exact ⟨ov1.mut,m0a⟩
    ·rw [x1] at eb;cases eb;exact ⟨ov2.mut,m01⟩)
  exact q H' R2 G2 v hv
end
def Aa (i:Nat)(c f:Str)(g:Me->Res D)(ik iv:Nat):Me->Res (Fl×Me):=λm=>(g m).bind λd=>match d,m[ik]?,m[iv]? with
 | .lst ds,some (.fz (.int n)),some (.fz dv)=>(ofO (N5 m i)).bind λo=>if o.2.1=c/\o.2.2.1.length<999 then (ofO (ixN ds.length n)).bind λt=>.ok (.nx,Ec m i o.1 c (iT o.2.2.1 o.2.2.2 f (.lst (ds.set t dv)))) else .stuck
 |_,_,_=>.stuck
theorem lY {H:Hp}{a b:Addr}{o u:HO}(h:a≠b):upd (upd H a o) b u=upd (upd H b u) a o:=by
 funext c
 by_cases q:c=a
 ·subst q;rw [bj h,bY,bY]
 ·rw [bj q]
  by_cases q2:c=b
  ·subst q2;rw [bY,bY]
  ·rw [bj q2,bj q2,bj q]
theorem NP (f:Str)(v:V)(fs:List (Str×V)):(pQ f v fs).lookup f=some v:=by rw [vC,if_pos rfl]
section
variable {X:Cx}{E:XK}{e:Expr}{g:Me->Res D}{k:Me->Res (Fl×Me)}{c f x kn vn:Str}{fs:List Str}{pos pos' pos2 pos3 spos np np2 kp vp:Pos}{rest:List Stmt}
theorem Mj {G:Gx}{O0 M0:Addr->Prop}{H0:Hp}{ow:Os}{H:Hp}{W:Ends}{α:Type}{o:Option α}{h:α->Res (Fl×Me)}(q:Ss G E O0 M0 H0 ow H W ((ofO o).bind h)):∃a,o=some a/\Ss G E O0 M0 H0 ow H W (h a):=Ss.ofO q
theorem NB (i ik iv:Nat)(Ck:t6 X.K X.mg c fs)(he:FN X E e g)(h3:FSs X E rest k)(hf:f∈fs:=by decide)(hN:X.N[i]? = some x:=by rfl)(hv:Vis X.env.scope x:=by first | exact Or.inl rfl | exact Or.inr (Or.inl rfl) | exact Or.inr (Or.inr rfl))(hd:(x == ("__debug__" : Str))=false:=by decide)(hcd:(x == ("__classdict__" : Str))=false:=by decide)
  (kN:X.N[ik]? = some kn:=by rfl) (kv:Vis X.env.scope kn:=by first | exact Or.inl rfl | exact Or.inr (Or.inl rfl) | exact Or.inr (Or.inr rfl)) (kd:(kn == ("__debug__" : Str))=false:=by decide) (kcd:(kn == ("__classdict__" : Str))=false:=by decide)
  (vN:X.N[iv]? = some vn:=by rfl) (vv:Vis X.env.scope vn:=by first | exact Or.inl rfl | exact Or.inr (Or.inl rfl) | exact Or.inr (Or.inr rfl)) (vd:(vn == ("__debug__" : Str))=false:=by decide) (vcd:(vn == ("__classdict__" : Str))=false:=by decide)
  (hs:swapsWith e (some (.Attribute (.Name x np) f pos')) pos.line X.env=pure false:=by rfl)
  (hb:attributeBase (.Name x np2) f X.env (eval (.Name x np2) X.env)=eval (.Name x np2) X.env:=by rfl)
  (ha:∀v,assign (.Subscript (.Attribute (.Name x np2) f pos3) (.Name kn kp) spos) X.env v=(do
   let ov ← holding [v] (eval (.Attribute (.Name x np2) f pos3) X.env)
   let iv ← holding [v,ov] (eval (.Name kn kp) X.env)
   standAt spos
   holding [v,ov,iv] (setItem ov iv v)
   release [v,ov,iv] []):=by intro _;rfl)
  (hs2:swapsWithSole [.Subscript (.Attribute (.Name x np2) f pos3) (.Name kn kp) spos] (.Name vn vp) pos2.line X.env=pure false:=by rfl) (hw:swappedStores [.Subscript (.Attribute (.Name x np2) f pos3) (.Name kn kp) spos] (.Name vn vp) X.env=pure none:=by rfl)
  (h1:(assignEach [.Subscript (.Attribute (.Name x np2) f pos3) (.Name kn kp) spos] X.env).map (·.2)=[assign (.Subscript (.Attribute (.Name x np2) f pos3) (.Name kn kp) spos) X.env]:=by rfl):
  FSs X E (.Assign [.Attribute (.Name x np) f pos'] e pos::.Assign [.Subscript (.Attribute (.Name x np2) f pos3) (.Name kn kp) spos] (.Name vn vp) pos2::rest) (aU (Aa i c f g ik iv) k):=by
 refine oE (sU (Je (jP hN hv hd hcd) he hs) (sU (IV (jP vN vv vd vcd) (Jx (QB (jP hN hv hd hcd) hb) (jP kN kv kd kcd) set_list ha) hs2 hw h1) h3)) λW σ H h=>?_
 obtain ⟨O0,M0,H0,ow,m,R,q⟩:=QF h
 obtain ⟨C,hC,hc,hn⟩:=Ck.ex
 refine ⟨O0,M0,H0,ow,m,R.toRel,(Ss.pu R.toRel q).imp (aL.refl _) λd q p H1 g1 np' ov=>?_⟩
 have np:H p=none:=np'
 cases d with
 |lst ds=>
  cases e1:m[ik]? with
  |none=>simp only [e1] at q;exact q.elim
  |some s1=>
   cases s1 with
   |fz d1=>
    cases d1 with
    |int n=>
     cases e2:m[iv]? with
     |none=>simp only [e1,e2] at q;exact q.elim
     |some s2=>
      cases s2 with
      |fz dv=>
       simp only [e1,e2] at q
       obtain ⟨o,ho,q⟩:=Mj q
       obtain ⟨kk,c',ns,fds⟩:=o
       by_cases z:c'=c/\ns.length<999
       ·rw [if_pos z] at q
        obtain ⟨rfl,hz⟩:=z
        obtain ⟨t,ht,q⟩:=Mj q
        obtain ⟨xs,ep,hxs⟩:=ov
        obtain ⟨_,vk,k1,k2⟩:=R.slot ik _ e1
        cases k2
        obtain ⟨_,vv',w1,w2⟩:=R.slot iv _ e2
        have pno:=R.toRel.zm np
        have sm:aL H (upd H1 p (.lst (xs.set t vv'))):=λb o e=>by
         have nb:b≠p:=λy=>by rw [y,np] at e;cases e
         rw [bj nb];exact g1 b o e
        have R2:=R.mono sm
        obtain ⟨a,C',dx,kvs,o1,o2,oc,o3,o4,o5,o6⟩:=Ku R2.toRel ho
        have:some (Value.ref C')=some (.ref C):=oc.symm.trans hC
        cases this
        have nap:a≠p:=λy=>pno (.inr ⟨i,y ▸ o1⟩)
        have o3':H1 a=some (.ins C dx kvs):=by rw [bj nap] at o3;exact o3
        subst o4
        have kpp:Kp (Op (Ow O0 ow) p) H1 (upd H1 p (.lst (xs.set t vv'))):=λb o e nb=>by rw [bj λy=>nb (.inr y)];exact e
        have mk1:∀b,Op (Ow O0 ow) p b->fP (H1 b):=λb y=>by
         rcases y with y | y
         ·exact kZ g1 (R.mutk b y)
         ·rw [y,ep];exact .inl ⟨_,rfl⟩
        have dvl:DV (gx X) (Ow O0 ow) (upd H1 p (.lst (xs.set t vv'))) (.ref p) (.lst (ds.set t dv)):=
         .lst (.inl ⟨pno,.inl bY⟩) (vK (w2.mono sm) t ((hxs.kp mk1 kpp).cJ λb y=>.inl (.inl y)))
        obtain ⟨p1,p2⟩:=zV (f:=f) dvl o5
        obtain ⟨R3,g3⟩:=R2.Ec (dx:=dx) o1 hC o6 p1 p2
        refine ⟨_,o2,a,C,dx,kvs,rfl,o3',hc,hn f hf,by simp at hz;omega,?_⟩
        refine ⟨_,w1,_,o2,a,C,dx,_,.ref p,rfl,bY,hc,hn f hf,NP f _ kvs,_,k1,p,xs,n,t,rfl,rfl,by rw [bj (Ne.symm nap)];exact ep,by rw [cH hxs];exact ht,?_⟩
        rw [lY nap]
        exact q _ _ _ R3 ((Go.refl sm).trans g3)
       ·rw [if_neg z] at q;exact q.elim
      |_=>simp only [e1,e2] at q;exact q.elim
    |_=>simp only [e1] at q;exact q.elim
   |_=>simp only [e1] at q;exact q.elim
 |_=>exact q.elim
end
section
variable {P:Program}{w:World}{K:W.Frag}{mg:Str->Option Value}{base:Heap}
end
section
variable {G:Gx}{O0 M0:Addr->Prop}{H0 H H':Hp}{ow:Os}{σ:L2.St}{m:Me}
theorem du.forget (R:du G O0 M0 H0 ow σ H m){m':Me}(hl:m'.length=m.length):du G O0 M0 H0 (λ_=>none) σ H (m'.map λ_=>Sl.un)/\Go O0 ow H (λ_=>none) H:=by
 refine ⟨⟨⟨by rw [List.length_map,hl];exact R.len,R.keep,R.m0,λb z=>R.mutk b (z.elim .inl λ⟨_,e⟩=>by cases e),λi a e=>(by cases e),λi j a e _=>(by cases e),λi _=>rfl,λi s e=>?_⟩,λj d e=>?_⟩,λb o e _=>e,λi a e=>(by cases e),λ_ n=>n⟩
 ·rw [List.getElem?_map] at e
  cases q:m'[i]? with
  |none=>rw [q] at e;cases e
  |some s0=>rw [q] at e;cases e;rfl
 ·rw [List.getElem?_map] at e
  cases q:m'[j]? with
  |none=>rw [q] at e;cases e
  |some s0=>rw [q] at e;cases e
end
section
variable {X:Cx}{E:XK}
end
def spI (G:Gx)(c f:Str)(Φ:List D->Res (List Str×List D×D)):Sp:=λvs H Q E=>∃O a us ds C dx,vs=.ref a::us/\(∀b,O b->fP (H b))/\O a/\G.mg c=some (.ref C)/\H a=some (.ins C dx [])/\DVs G O H us ds/\match Φ ds with
 | .ok (ns,fds,e)=>∀H' y,Kp (· = a) H H'->H y=none->OV G (Op O y) H' a (.ins c (iT ns fds f (.adr y)).1 (iT ns fds f (.adr y)).2)->OV G (Op O y) H' y e->Q .non H'
 |_=>False
def tIn (G:Gx)(E:XK)(f:Str)(h:Me->Res (Me×D)):TS:=λW σ H=>∃O0 M0 H0 ow m,du G O0 M0 H0 ow σ H m/\match h m with
 | .ok (m',d)=>(∃c ns ds,m'[0]? = some (.io (.ins c ns ds))/\ns.length<999)/\∀ow' σ' H1 H2 y,du G O0 M0 H0 ow' σ' H1 m'->Go O0 ow H ow' H1->aL H1 H2->H1 y=none->OV G (Op (Ow O0 ow') y) H2 y d->∀a C dx kvs,ow' 0=some a->H2 a=some (.ins C dx kvs)->W.nx σ' (upd H2 a (.ins C dx (pQ f (.ref y) kvs)))
 |_=>False
abbrev FIs (X:Cx)(E:XK)(f:Str)(l:List Stmt)(h:Me->Res (Me×D)):Prop:=PSs X l (tIn (gx X) E f h)
def vY (g:Me->Res (Fl×Me))(h:Me->Res (Me×D)):Me->Res (Me×D):=λm=>match g m with
 | .ok (.nx,m')=>h m'
 |_=>.stuck
def Fv (g:Me->Res D):Me->Res (Me×D):=λm=>(g m).bind λd=>.ok (m,d)
section
variable {X:Cx}{E:XK}{e:Expr}{g:Me->Res D}{c f x:Str}{fs:List Str}{pos pos' np:Pos}
theorem vL {st:Stmt}{rest:List Stmt}{s:Me->Res (Fl×Me)}{h:Me->Res (Me×D)}(h1:FS X E st s)(h2:FIs X E f rest h):FIs X E f (st::rest) (vY s h):=
 oE (sU h1 h2) λW σ H hE=>xq5 hE λO0 M0 H0 ow m R q=>⟨O0,M0,H0,ow,m,R,by
  unfold vY at q
  cases z:s m with
  |exc c=>rw [z] at q;exact q.elim
  |stuck=>rw [z] at q;exact q.elim
  |ok r=>
   obtain ⟨fl,m1⟩:=r
   rw [z] at q
   cases fl with
   |nx=>
    intro ow1 σ1 H1 R1 g1
    refine ⟨O0,M0,H0,ow1,m1,R1,?_⟩
    have q:(match h m1 with
     | .ok (m',d)=>(∃c ns ds,m'[0]? = some (Sl.io (.ins c ns ds))/\ns.length<999)/\∀ow' σ' H1 H2 y,du (gx X) O0 M0 H0 ow' σ' H1 m'->Go O0 ow H ow' H1->aL H1 H2->H1 y=none->OV (gx X) (Op (Ow O0 ow') y) H2 y d->∀a C dx kvs,ow' 0=some a->H2 a=some (.ins C dx kvs)->W.nx σ' (upd H2 a (.ins C dx (pQ f (.ref y) kvs)))
     |_=>False):=q
    cases z2:h m1 with
    |ok r=>
     obtain ⟨m',d⟩:=r
     rw [z2] at q
     exact ⟨q.1,λow' σ' H2 H3 y R2 g2=>q.2 ow' σ' H2 H3 y R2 (g1.trans g2)⟩
    |exc c=>rw [z2] at q;exact q
    |stuck=>rw [z2] at q;exact q
   |_=>exact q.elim⟩
theorem Vi (i:Nat)(Ck:t6 X.K X.mg c fs)(he:FN X E e g)(hi:i=0:=by rfl)(hf:f∈fs:=by decide)(hN:X.N[i]? = some x:=by rfl)(hv:Vis X.env.scope x:=by first | exact Or.inl rfl | exact Or.inr (Or.inl rfl) | exact Or.inr (Or.inr rfl))(hd:(x == ("__debug__" : Str))=false:=by decide)(hcd:(x == ("__classdict__" : Str))=false:=by decide)
  (hs:swapsWith e (some (.Attribute (.Name x np) f pos')) pos.line X.env=pure false:=by rfl):FIs X E f [.Assign [.Attribute (.Name x np) f pos'] e pos] (λm=>if mR c "" ((nU m 0).getD .non)=true then Fv g m else .stuck):=by
 subst hi
 refine oE (Lk (Je (jP hN hv hd hcd) he hs)) λW σ H hE=>xq5 hE λO0 M0 H0 ow m R q=>?_
 by_cases ob:mR c "" ((nU m 0).getD .non)=true
 case neg=>simp only [if_neg ob] at q
 simp only [if_pos ob] at q
 obtain ⟨C,hC,hc,hn⟩:=Ck.ex
 unfold Fv at q
 cases z:g m with
 |exc c=>rw [z] at q;exact q.elim
 |stuck=>rw [z] at q;exact q.elim
 |ok d=>
  rw [z] at q
  obtain ⟨⟨c',ns,ds,e0,hl⟩,q⟩:=q
  refine ⟨O0,M0,H0,ow,m,R.toRel,?_⟩
  rw [z]
  intro p H1 g1 np' ov
  have R1:=R.mono g1
  have eo:nU m 0=some (.ins c' ns ds):=by unfold nU;rw [e0]
  rw [eo] at ob
  obtain ⟨a,o1,o2,o3,C',dx,kvs,vs,oc,o4,o5,o6,o7⟩:=R1.slot 0 _ e0
  have ec:=of_decide_eq_true (Bool.and_eq_true_iff.mp (show (decide (c'=c) && !ns.contains "")=true from ob)).1
  subst ec
  have:some (Value.ref C')=some (.ref C):=oc.symm.trans hC
  cases this
  refine ⟨_,o3,a,C,dx,kvs,rfl,o4,hc,hn f hf,by rw [← o5] at hl;simp at hl;omega,?_⟩
  exact q ow σ H H1 p R (Go.refl (aL.refl _)) g1 np' ov a C dx kvs o1 o4
end
def Oq (N n:Nat)(c:Str)(h:Me->Res (Me×D)):List D->Res (List Str×List D×D):=λds=>if ds.length+1=n then match h (.io (.ins c [] [])::(ds.map Sl.fz++List.replicate (N-n) Sl.un)) with
  | .ok (m',d)=>match m'[0]? with
   |some (Sl.io (.ins c' ns fds))=>if c'=c/\ns.length<999 then .ok (ns,fds,d) else .stuck
   |_=>.stuck
  |_=>.stuck
 else .stuck
section
variable {P:Program}{w:World}{K:W.Frag}{mg:Str->Option Value}{base:Heap}
theorem Vz {x qual:Str}{st:Stmt}{f:Addr}{fd:FuncData}{N ps:List Str}{k:Nat}(c fl:Str){h:Me->Res (Me×D)}(Fu:Fun K x qual st f fd)(S:bI N ps (aG st))(hN:ps.length<=N.length)
  (hbody:∀(cdv:Value) (A:Around) (outer:List Env) (s:Shared) (H:Hp) (E:XK),gw k (A.deeper (envOfC qual (aG st) s.heap.objs.size f cdv))->
   FIs (zx (CX1 P w) P w K mg base N qual (aG st) f cdv A outer s H E) E fl (jc st) h):dm P w K mg base (CX1 P w) (k+1) f fd ps (spI ⟨K,mg⟩ c fl (Oq N.length ps.length c h)):=by
 have cond:∀{ds:List D},Oq N.length ps.length c h ds≠.stuck->ds.length+1=ps.length:=λ{ds} z=>by
  by_cases q:ds.length+1=ps.length
  ·exact q
  ·unfold Oq at z;rw [if_neg q] at z;exact absurd rfl z
 refine Es Fu S (λvs H Q E q=>?_) (λcdv A outer s H vs Q E hr q=>?_)
 ·obtain ⟨O,a,us,ds,C,dx,rfl,_,_,_,_,hd,q⟩:=q
  rw [List.length_cons,cH hd]
  exact cond λz=>by rw [z] at q;exact q
 ·obtain ⟨O,a,us,ds,C,dx,rfl,hm,oa,hC,hH,hd,q⟩:=q
  have hn:=cond (ds:=ds) λz=>by rw [z] at q;exact q
  unfold Oq at q
  rw [if_pos hn] at q
  have st:=Ol (p:=0) (N:=N) (d:=.ins c [] []) (Nat.zero_le _) hm oa ⟨C,dx,[],[],hC,hH,rfl,rfl,.nil⟩ hd hn hN
  refine ⟨_,hbody cdv A outer s H E hr,_,_,H,_,_,st,?_⟩
  show (match h (.io (.ins c [] [])::(ds.map Sl.fz++List.replicate (N.length-ps.length) Sl.un)) with
   | .ok (m',d)=>_
   |_=>False)
  cases z:h (.io (.ins c [] [])::(ds.map Sl.fz++List.replicate (N.length-ps.length) Sl.un)) with
  |exc c=>rw [z] at q;exact q
  |stuck=>rw [z] at q;exact q
  |ok r=>
   obtain ⟨m',d⟩:=r
   rw [z] at q
   cases e0:m'[0]? with
   |none=>simp only [e0] at q
   |some sl=>
    cases sl with
    |io dd=>
     cases dd with
     |ins c' ns fds=>
      simp only [e0] at q
      by_cases hz:c'=c/\ns.length<999
      ·rw [if_pos hz] at q
       obtain ⟨rfl,hl⟩:=hz
       refine ⟨⟨_,ns,fds,e0,hl⟩,λow' σ' H1 H2 y R' _ g2 ny ov a2 C2 dx2 kvs2 oa2 eh2=>?_⟩
       obtain ⟨a',k1,k2,k3,C3,dx3,kvs,vs,oc,o4,o5,o6,o7⟩:=R'.slot 0 _ e0
       have ka:a'=a:=k2
       subst ka
       rw [k1] at oa2
       cases oa2
       have e2:=g2 _ _ o4
       rw [e2] at eh2
       cases eh2
       have:some (Value.ref C2)=some (.ref C):=oc.symm.trans hC
       cases this
       subst o5 o6
       have nya:y≠a2:=λw=>by rw [w,o4] at ny;cases ny
       have sub:∀b,O b->Ow (λb=>O b/\b≠a2) ow' b\/H1 b=none:=λb w=>by
        by_cases q:b=a2
        ·exact .inl (.inr ⟨0,by rw [q];exact k1⟩)
        ·exact .inl (.inl ⟨w,q⟩)
       have sub2:∀b,Op O y b->Ow (λb=>O b/\b≠a2) ow' b\/H1 b=none:=λb w=>w.elim (sub b) λw=>.inr (by rw [w];exact ny)
       have mk2:∀b,Op O y b->fP (H2 b):=λb w=>by
        rcases w with w | w
        ·rcases sub b w with u | u
         ·exact kZ g2 (R'.mutk b u)
         ·by_cases q:b=a2
          ·rw [q,e2];exact .inr (.inr (.inr ⟨(C,_,_),rfl⟩))
          ·exact kZ g2 (R'.mutk b (.inl ⟨w,q⟩))
        ·rw [w];exact ov.mut
       have kpp:Kp (Op O y) H2 (upd H2 a2 (.ins C dx2 (pQ fl (.ref y) kvs2))):=λb o e nb=>by
        rw [bj λ(w:b=a2)=>nb (.inl (by rw [w];exact oa))];exact e
       have d2:=((o7.cJ sub2).mono g2)
       obtain ⟨p1,p2⟩:=zV (f:=fl) (v:=.ref y) (d:=.adr y) (.adr y) d2
       refine q _ y (λb o e nb=>?_) (R'.toRel.Cg ny) ⟨C,dx2,_,_,hC,bY,p1,rfl,p2.kp mk2 kpp⟩ ?_
       ·rw [bj nb];exact g2 _ _ (R'.keep b o e nb)
       ·refine OV.kp mk2 kpp (bj nya) (ov.cJ λb w=>?_)
        rcases w with w | w
        ·rcases sub b w with u | u
         ·exact .inl (.inl u)
         ·by_cases q:b=a2
          ·exact .inl (.inl (.inr ⟨0,by rw [q];exact k1⟩))
          ·exact .inl (.inl (.inl ⟨w,q⟩))
        ·exact .inl (.inr w)
      ·rw [if_neg hz] at q;exact q.elim
     |_=>simp only [e0] at q
    |_=>simp only [e0] at q
end
open Classical in
def Io (h:Addr->Res (Fl×Me))(m:Me):Res (Fl×Me):=
 if H:∃p:Bool×D,∀a:Addr,∃m',h a=.ok (.rt p.1 p.2,m')/\m'.length=m.length then .ok (.rt (Classical.choose H).1 (Classical.choose H).2,m.map λ_=>.un) else .stuck
theorem HR {h:Addr->Res (Fl×Me)}{m:Me}{fr:Bool}{d:D}(H:∀a:Addr,∃m',h a=.ok (.rt fr d,m')/\m'.length=m.length):Io h m=.ok (.rt fr d,m.map λ_=>.un):=by
 have Hx:∃p:Bool×D,∀a:Addr,∃m',h a=.ok (.rt p.1 p.2,m')/\m'.length=m.length:=⟨(fr,d),H⟩
 obtain ⟨m1,e1,_⟩:=Classical.choose_spec Hx 0
 obtain ⟨m2,e2,_⟩:=H 0
 rw [e1] at e2
 unfold Io
 rw [dif_pos Hx]
 injection e2 with e2
 injection e2 with e2 _
 injection e2 with e3 e4
 rw [e3,e4]
def Az (ow:Os)(i j:Nat)(a b:Addr):Os:=λk=>if k=i then some a else if k=j then some b else ow k
section
variable {G:Gx}{O0 M0:Addr->Prop}{H0 H H':Hp}{ow:Os}{σ:L2.St}{m:Me}
theorem du.aaA {i j:Nat}{p p1:Addr}{d d1:D}(R:du G O0 M0 H0 ow σ H m)(g:aL H H')(n:H p=none)(n1:H p1=none)(np:p≠p1)(hi:i<m.length)(hj:j<m.length)(ij:i≠j)
  (o:OV G (λb=>Ow O0 ow b\/b=p\/b=p1) H' p d) (o1:OV G (λb=>Ow O0 ow b\/b=p\/b=p1) H' p1 d1):
  du G O0 M0 H0 (Az ow i j p p1) (σ.set i (some (.ref p))) H' ((m.set i (.ow d)).set j (.hd true p1 d1))/\Go O0 ow H (Az ow i j p p1) H':=by
 have q0:=R.toRel.zm n
 have q1:=R.toRel.zm n1
 have inv:∀k b,Az ow i j p p1 k=some b->(k=i/\b=p)\/(k=j/\b=p1)\/(k≠i/\k≠j/\ow k=some b):=λk b e=>by
  unfold Az at e
  split at e
  ·rename_i q;cases e;exact .inl ⟨q,rfl⟩
  ·split at e
   ·rename_i q;cases e;exact .inr (.inl ⟨q,rfl⟩)
   ·rename_i a b;exact .inr (.inr ⟨a,b,e⟩)
 have out:∀b,Ow O0 (Az ow i j p p1) b->Ow O0 ow b\/b=p\/b=p1:=λb z=>by
  rcases z with z | ⟨k,e⟩
  ·exact .inl (.inl z)
  ·rcases inv k b e with ⟨_,z⟩ | ⟨_,z⟩ | ⟨_,_,z⟩
   ·exact .inr (.inl z)
   ·exact .inr (.inr z)
   ·exact .inl (.inr ⟨k,z⟩)
 have sub:∀b,Ow O0 (Az ow i j p p1) b->Ow O0 ow b\/H b=none:=λb z=>by
  rcases out b z with z | z | z
  ·exact .inl z
  ·rw [z];exact .inr n
  ·rw [z];exact .inr n1
 have R':=R.mono g
 have e0:Az ow i j p p1 i=some p:=if_pos rfl
 have e1:Az ow i j p p1 j=some p1:=by unfold Az;rw [if_neg (Ne.symm ij),if_pos rfl]
 have en:∀k,k≠i->k≠j->Az ow i j p p1 k=ow k:=λk a b=>by unfold Az;rw [if_neg a,if_neg b]
 have ex:∀c,((m.set i (.ow d)).set j (.hd true p1 d1))[c]? = if c=j then some (.hd true p1 d1) else if c=i then some (.ow d) else m[c]?:=λc=>by
  by_cases c1:c=j
  ·subst c1;rw [if_pos rfl,List.getElem?_set_self (by simpa using hj)]
  ·rw [if_neg c1,List.getElem?_set_ne (Ne.symm c1)]
   by_cases c0:c=i
   ·subst c0;rw [if_pos rfl,List.getElem?_set_self hi]
   ·rw [if_neg c0,List.getElem?_set_ne (Ne.symm c0)]
 refine ⟨⟨⟨by simp [R.len],R'.keep,R'.m0,λb z=>?_,λk a e=>?_,λk l a a1 a2=>?_,λk hk=>?_,λk s e=>?_⟩,λk dd e=>?_⟩,.of g,λk a e=>?_,(Go.refl (O0:=O0) (ow:=ow) g).dom⟩
 ·rcases out b z with z | z | z
  ·exact R'.mutk b z
  ·rw [z];exact o.mut
  ·rw [z];exact o1.mut
 ·rcases inv k a e with ⟨_,z⟩ | ⟨_,z⟩ | ⟨_,_,z⟩
  ·rw [z];exact λw=>q0 (.inl w)
  ·rw [z];exact λw=>q1 (.inl w)
  ·exact R.no0 k a z
 ·rcases inv k a a1 with ⟨u,z⟩ | ⟨u,z⟩ | ⟨_,_,z⟩<;>rcases inv l a a2 with ⟨v,y⟩ | ⟨v,y⟩ | ⟨_,_,y⟩
  ·rw [u,v]
  ·exact absurd (z.symm.trans y) np
  ·exact absurd (.inr ⟨l,z ▸ y⟩) q0
  ·exact absurd (y.symm.trans z) np
  ·rw [u,v]
  ·exact absurd (.inr ⟨l,z ▸ y⟩) q1
  ·exact absurd (.inr ⟨k,y ▸ z⟩) q0
  ·exact absurd (.inr ⟨k,y ▸ z⟩) q1
  ·exact R.inj k l a z y
 ·have hk':m.length<=k:=by simpa using hk
  rw [en k (by omega) (by omega)]
  exact R.out k hk'
 ·rw [ex] at e
  by_cases c1:k=j
  ·rw [if_pos c1] at e
   cases e
   rw [c1]
   exact ⟨e1,λ_=>R.toRel.Cg n1,(λz=>by cases z),o1.cJ λb z=>.inl (out b z)⟩
  ·rw [if_neg c1] at e
   by_cases c0:k=i
   ·rw [if_pos c0] at e
    cases e
    rw [c0]
    exact ⟨p,e0,R.toRel.Cg n,by rw [List.getElem?_set_self (by rw [R.len];exact hi)],o.cJ λb z=>.inl (out b z)⟩
   ·rw [if_neg c0] at e
    rw [en k c0 c1,List.getElem?_set_ne (Ne.symm c0)]
    exact ((R.slot k s e).cJ sub λ_ _ b _=>Classical.em _).mono g
 ·rw [ex] at e
  split at e
  ·cases e
  ·split at e
   ·cases e
   ·exact R.nb k dd e
 ·rcases inv k a e with ⟨_,z⟩ | ⟨_,z⟩ | ⟨_,_,z⟩
  ·rw [z];exact .inr n
  ·rw [z];exact .inr n1
  ·exact .inl (.inr ⟨k,z⟩)
end
structure MkT (P:Program)(w:World)(K:W.Frag)(mg:Str->Option Value)(base:Heap)(k:Nat)(c:Str)(ps:List Str)(sp:Sp):Prop where
 ex:∃C g fd,mg c=some (.ref C)/\Mk K C g/\dm P w K mg base (CX1 P w) k g fd ps sp/\Binds K fd ps []
def Cu (i j:Nat)(c f:Str)(Φ:List D->Res (List Str×List D×D))(fs:Me->Res (List D))(k:Me->Res (Fl×Me)):Me->Res (Fl×Me):=λm=>
 (fs m).bind λds=>match Φ ds with
  | .ok r=>if i<m.length/\j<m.length then Io (λy=>k ((m.set i (.ow (.ins c (iT r.1 r.2.1 f (.adr y)).1 (iT r.1 r.2.1 f (.adr y)).2))).set j (.hd true y r.2.2))) m else .stuck
  |_=>.stuck
section
variable {X:Cx}{E:XK}{jj k:Nat}{c f y:Str}{ps:List Str}{Φ:List D->Res (List Str×List D×D)}{py pos cpos np:Pos}{e:Expr}{es:List Expr}{fs:Me->Res (List D)}{rest:List Stmt}{kk:Me->Res (Fl×Me)}
theorem HN (i j:Nat)(Fh:MkT X.prog X.w X.K X.mg X.base k c ps (spI (gx X) c f Φ))(hr:gw jj X.A)(hx:Passes (CX1 X.prog X.w) X E)(hN:X.N.Nodup)(hi:X.N[i]? = some y)(hy:Loc X.env.scope y)(ha:FAE X E (e::es) fs)(h3:FSs X E rest kk)(hk:k+1<=jj:=by decide)(hg:Gl X c:=by rfl)(ij:i≠j:=by decide)
  (hdb:(c == ("__debug__" : Str))=false:=by decide) (he:starEach (e::es) X.env=(false,eval e X.env)::starEach es X.env:=by rfl) (hpl:(backTo cpos (starEach es X.env)).any (·.1)=false:=by rfl)
  (hs:swapsWith (.Call (.Name c np) (e::es) [] cpos) (some (.Name y py)) pos.line X.env=pure false:=by rfl)
  (hf:X.fn y=true\/X.env.scope.names.lookup y=some .local:=by first | exact .inl rfl | exact .inr rfl | assumption):
  FSs X E (.Assign [.Name y py] (.Call (.Name c np) (e::es) [] cpos) pos::rest) (Cu i j c f Φ fs kk):=by
 obtain ⟨C,gg,fd,hC,M,G,b⟩:=Fh.ex
 refine oE (sU (Bo hN hi hy (Ut M G (hr.mono hk) hg hC b .nil hx ha hdb he hpl) hs hf) h3) λW σ H hE=>xq5 hE λO0 M0 H0 ow m R q=>?_
 refine ⟨O0,M0,H0,ow,m,R.toRel,(Ss.pu R.toRel q).imp (aL.refl _) λds q vs H1 g1 hvs x dx nx ndx hne=>?_⟩
 cases z:Φ ds with
 |exc c=>rw [z] at q;exact q.elim
 |stuck=>rw [z] at q;exact q.elim
 |ok r=>
  obtain ⟨ns,fds,he'⟩:=r
  rw [z] at q
  have q:Ss (gx X) E O0 M0 H0 ow H W (if i<m.length/\j<m.length then Io (λy=>kk ((m.set i (.ow (.ins c (iT ns fds f (.adr y)).1 (iT ns fds f (.adr y)).2))).set j (.hd true y he'))) m else .stuck):=q
  by_cases hc:i<m.length/\j<m.length
  case neg=>rw [if_neg hc] at q;exact q.elim
  rw [if_pos hc] at q
  obtain ⟨li,lj⟩:=hc
  unfold Io at q
  split at q
  case isFalse=>exact q.elim
  rename_i HU
  have sp:=Classical.choose_spec HU
  generalize hfd:Classical.choose HU=fd' at sp q
  obtain ⟨fr,dd⟩:=fd'
  have hxn:H x=none:=g1.free nx
  have sm:aL H1 (upd (upd H1 dx (.own x)) x (.ins C dx [])):=λb o e=>by
   have n1:b≠x:=λy=>by rw [y,nx] at e;cases e
   have n2:b≠dx:=λy=>by rw [y,ndx] at e;cases e
   rw [bj n1,bj n2];exact e
  have R1:=R.mono g1
  show spI _ _ _ _ (V.ref x::(vs++[])) _ _ _
  rw [List.append_nil]
  refine ⟨Op (Ow O0 ow) x,x,vs,ds,C,dx,rfl,λb w=>?_,.inr rfl,hC,bY,(hvs.cJ λb w=>w.elim .inl λw=>.inr (by rw [w];exact nx)).mono sm,?_⟩
  ·rcases w with w | w
   ·exact kZ sm (R1.mutk b w)
   ·rw [w,bY];exact .inr (.inr (.inr ⟨(C,dx,[]),rfl⟩))
  ·rw [z]
   intro H' yy kp ny ov1 ov2
   refine ⟨rfl,?_⟩
   have nyx:x≠yy:=λw=>by rw [← w,bY] at ny;cases ny
   have hyn:H yy=none:=(g1.trans sm).free ny
   have gB:aL H H':=λb o e=>by
    have e1:=(g1.trans sm) b o e
    exact kp b o e1 λw=>by rw [w,hxn] at e;cases e
   have cv:∀b,(Ow O0 ow b\/b=x\/b=yy)->Op (Op (Ow O0 ow) x) yy b\/H' b=none:=λb w=>by
    rcases w with w | w | w
    ·exact .inl (.inl (.inl w))
    ·exact .inl (.inl (.inr w))
    ·exact .inl (.inr w)
   obtain ⟨R8,g8⟩:=R.aaA (i:=i) (j:=j) gB hxn hyn nyx li lj ij (ov1.cJ cv) (ov2.cJ cv)
   obtain ⟨m',eq,hlm⟩:=sp yy
   have eq:kk ((m.set i (.ow (.ins c (iT ns fds f (.adr yy)).1 (iT ns fds f (.adr yy)).2))).set j (.hd true yy he'))=.ok (.rt fr dd,m'):=eq
   refine ⟨O0,M0,H0,_,_,R8,?_⟩
   rw [eq]
   intro v ow' σ' H9 R9 g9 hv hfr
   obtain ⟨R10,g10⟩:=R9.forget (m':=m) hlm.symm
   refine q v _ σ' H9 R10 ((g8.trans g9).trans g10) (hv.cJ λb z=>.inl (z.elim .inl λ⟨_,e⟩=>by cases e)) λz=>?_
   rcases hfr z with ⟨p0,u1,u2,u3⟩ | t
   ·exact .inl ⟨p0,u1,u2,u3.cJ λb z=>.inl (z.elim (λw=>.inl (w.elim .inl λ⟨_,e⟩=>by cases e)) .inr)⟩
   ·exact .inr t
end
theorem Cm {X:Cx}{pins:List (Addr×Obj)}{σ:L2.St}{H:Hp}{h':Heap}:∀(L:List Addr) (s:Shared),Inv X pins σ H s->L.Nodup->(∀b∈L,wJ X pins H b)->(∀b∈L,∃o,s.heap.get? b=some o)->(∀b∈L,∃o,h'.get? b=some o/\o.isFreed=false)->
  (∀b o,b∉L->s.heap.get? b=some o->h'.get? b=some o)->∃h1,Inv X pins σ H { s with heap:=h1 }/\h1.objs.size=s.heap.objs.size/\∀b u,h1.get? b=some u->h'.get? b=some u
 |[],s,I,_,_,_,_,k=>⟨s.heap,I,rfl,λb u e=>k b u (by simp) e⟩
 |e::L,s,I,nd,fp,he,hn,k=>by
  obtain ⟨nd1,nd2⟩:=List.nodup_cons.mp nd
  obtain ⟨oe,q1,q2⟩:=hn e List.mem_cons_self
  obtain ⟨o0,q0⟩:=he e List.mem_cons_self
  obtain ⟨f0,f1,f2,f3,f4,f5⟩:=fp e List.mem_cons_self
  have I1:Inv X pins σ H { s with heap:=s.heap.update e λ_=>oe }:=I.turned (t':=s.toks) (λb o hb x=>(Heap.get?_update_other _ _ (Ne.symm hb)).trans x) f0 f1 f3 f4 f5
  obtain ⟨h1,I2,z,kk⟩:=Cm (h':=h') L { s with heap:=s.heap.update e λ_=>oe } I1 nd2 (λb hb=>fp b (List.mem_cons_of_mem _ hb)) (λb hb=>by
   obtain ⟨o,ho⟩:=he b (List.mem_cons_of_mem _ hb)
   exact ⟨o,(Heap.get?_update_other _ _ (λ(y:e=b)=>nd1 (by rw [y];exact hb))).trans ho⟩) (λb hb=>hn b (List.mem_cons_of_mem _ hb)) λb o hb x=>by
   have x:(s.heap.update e λ_=>oe).get? b=some o:=x
   by_cases y:b=e
   ·subst y
    rw [Heap.get?_update_self (λ_=>oe) q0 q2] at x
    cases x
    exact q1
   ·rw [Heap.get?_update_other _ _ (Ne.symm y)] at x
    exact k b o (λw=>(List.mem_cons.mp w).elim y hb) x
  exact ⟨h1,I2,z.trans (Heap.SameBut.update _ _ _).1,kk⟩
def Itz (K : W.Frag) (a b : Addr) : It :=
  ⟨λi H => ∃ xs ys x y, SqL K H a xs ∧ SqL K H b ys ∧ xs[i]? = some x ∧ ys[i]? = some y,
   λi H x H' => ∃ y1 y2 l, (∀ xs, SqL K H a xs → xs[i]? = some y1) ∧ (∀ ys, SqL K H b ys → ys[i]? = some y2) ∧ x = .ref l ∧ H l = none ∧ H' = upd H l (.tup [y1, y2]),
   λi H => ∃ xs ys, SqL K H a xs ∧ SqL K H b ys ∧ (xs.length ≤ i ∨ ys.length ≤ i)⟩
theorem Inv.TJ {X:Cx}{pins:List (Addr×Obj)}{σ:L2.St}{H:Hp}{s:Shared}{h':Heap}{t':Nat}(L:List Addr)(I:Inv X pins σ H s)(fp:∀b∈L,wJ X pins H b)(k:∀b o,b∉L->s.heap.get? b=some o->h'.get? b=some o):Inv X pins σ H { s with heap:=h',toks:=t' }:=by
 have nit:∀b u,H b=some u->b∉L:=λb u e z=>by have:=(fp b z).1;rw [this] at e;cases e
 by_cases hL:X.env.locals∈L
 ·exact absurd rfl (fp _ hL).2.1
 refine I.step (g':=s.gens) (d':=s.drawn) (ch:=L) (λb hb=>?_) (λb o _ _ hc e _=>k b o hc e) (λb o _ _ hc e _=>⟨o.slots,k b o hc e⟩) (λ_ _ _ _ n=>n)
  (λb o hc e=>⟨o,k b o hc e⟩) (λ_ _ e=>e) (λ_ _ _ e=>e) (λb ps e=>⟨#[],by rw [e];simp⟩) (λm hm=>?_) (λb u e=>?_) I.bare
 ·obtain ⟨_,h1,_,h2,h3,h4⟩:=fp b hb
  exact ⟨h2,h1,h3,h4⟩
 ·obtain ⟨o,es,ep,ho,r⟩:=hm
  exact ⟨o,es,ep,k _ o hL ho,r⟩
 ·refine (I.hok b u e).stay (λc v hc q=>k c v ?_ q) (λ_ q=>q) λ_ _ q=>q
  rcases hc with z | z
  ·rw [z];exact nit b u e
  ·exact nit c _ z
theorem PJ {P:Program}{w:World}{K:W.Frag}{elts:List Expr}{x1}{pos:Pos}(z TI TO i1 i2 a b:Addr)(D:ZipApart z TI TO i1 i2 a b):
  Turn P w K (.Tuple elts x1 pos) (Itz K a b) [z,TI,TO,i1,i2] z (λi h=>IsZip h z TI TO .none/\IsPair h TI (.ref i1) (.ref i2)/\(∃u v,IsPair h TO u v)/\h.IsListIter i1 a i/\h.IsListIter i2 b i) where
 mem:=by simp
 obj:=λi h ⟨q1,q2,⟨u,v,q3⟩,⟨o4,e4,c4,d4⟩,⟨o5,e5,c5,d5⟩⟩ c hc=>by
  have ec:c=z\/c=TI\/c=TO\/c=i1\/c=i2:=by simpa using hc
  rcases ec with rfl | rfl | rfl | rfl | rfl
  ·exact ⟨_,q1,λv z=>by cases (show Data.fields _=Data.cell v from z)⟩
  ·exact ⟨_,q2,λv z=>by cases (show Data.seq _ _=Data.cell v from z)⟩
  ·exact ⟨_,q3,λv z=>by cases (show Data.seq _ _=Data.cell v from z)⟩
  ·exact ⟨_,e4,λv z=>by rw [d4] at z;cases z⟩
  ·exact ⟨_,e5,λv z=>by rw [d5] at z;cases z⟩
 keep:=λi h h' ⟨q1,q2,⟨u,v,q3⟩,q4,q5⟩ k=>⟨k z (by simp) _ q1,k TI (by simp) _ q2,⟨u,v,k TO (by simp) _ q3⟩,q4.at λo x=>k i1 (by simp) o x,q5.at λo x=>k i2 (by simp) o x⟩
 item:=by
  intro X hP hw hK hc i pins s σ H E I hf st hg
  subst hP hw hK
  obtain ⟨xs,ys,x,y,hq,hq2,hx,hy⟩:=hg
  obtain ⟨q1,q2,⟨u,v,q3⟩,q4,q5⟩:=st
  obtain ⟨its,rv,p,hz⟩:=I.list hq
  obtain ⟨its2,rv2,p2,hz2⟩:=I.list hq2
  obtain ⟨ux,hu,ru⟩:=rv.get hx
  obtain ⟨uy,hu2,ru2⟩:=rv2.get hy
  refine wpAny_pyNext_zip_item D q1 q2 q3 q4 q5 p.isList p2.isList (x:=ux) (y:=uy) (by simpa using hu) (by simpa using hu2) λh' a1 a2 a3 a4 a5 a6 k=>?_
  obtain ⟨o4,e4,c4,d4⟩:=id a3
  obtain ⟨o5,e5,c5,d5⟩:=id a4
  obtain ⟨p4,f4,_,_⟩:=id q4
  obtain ⟨p5,f5,_,_⟩:=id q5
  obtain ⟨h1,I1,z1,k1⟩:=Cm (h':=h') [z,TO,i1,i2] s I (by simp [Ne.symm D.TOz,Ne.symm D.i1z,Ne.symm D.i2z,D.TOi1,D.TOi2,D.i12]) (λc hc=>hf c (by simp at hc ⊢;rcases hc with rfl | rfl | rfl | rfl<;>simp)) (λc hc=>by
   have ec:c=z\/c=TO\/c=i1\/c=i2:=by simpa using hc
   rcases ec with rfl | rfl | rfl | rfl
   ·exact ⟨_,q1⟩
   ·exact ⟨_,q3⟩
   ·exact ⟨_,f4⟩
   ·exact ⟨_,f5⟩) (λc hc=>by
   have ec:c=z\/c=TO\/c=i1\/c=i2:=by simpa using hc
   rcases ec with rfl | rfl | rfl | rfl
   ·exact ⟨_,a1,rfl⟩
   ·exact ⟨_,a2,rfl⟩
   ·exact ⟨_,e4,Ba d4⟩
   ·exact ⟨_,e5,Ba d5⟩) λc o hc e=>k c o (λy=>hc (by simp [y])) (λy=>hc (by simp [y])) (λy=>hc (by simp [y])) (λy=>hc (by simp [y])) e
  have I2:Inv X pins σ (upd H s.heap.objs.size (.tup [x,y])) { s with heap:=h',toks:=s.toks }:=
   I1.laid (t':=s.toks) k1 (Nat.le_of_eq z1) (show ie X.prog X.w _ _ _ (.tup [x,y]) from ⟨(show 2<=sizeLine by decide),[ux,uy],.cons ru (.cons ru2 .nil),⟨_,a5,rfl,_,rfl⟩⟩)
  have fr:H s.heap.objs.size=none:=I.hok.fresh (Nat.le_refl _)
  have nn:∀c,(∃o,s.heap.get? c=some o)->H c=none->upd H s.heap.objs.size (.tup [x,y]) c=none:=λc ⟨o,ho⟩ e=>by rw [bj (Nat.ne_of_lt (Heap.lt_size ho))];exact e
  have all:∀c∈[z,TI,TO,i1,i2],∃o,s.heap.get? c=some o:=λc hc=>by
   have ec:c=z\/c=TI\/c=TO\/c=i1\/c=i2:=by simpa using hc
   rcases ec with rfl | rfl | rfl | rfl | rfl
   ·exact ⟨_,q1⟩
   ·exact ⟨_,q2⟩
   ·exact ⟨_,q3⟩
   ·exact ⟨_,f4⟩
   ·exact ⟨_,f5⟩
  have hTI:IsPair h' TI (.ref i1) (.ref i2):=k _ _ D.TIz D.TITO D.TIi1 D.TIi2 q2
  refine ⟨_,rfl,wpAny_letOwnedTupleGo_zip a1 λh2 e2 sb=>?_⟩
  have fz:=hf z (by simp)
  obtain ⟨g0,g1,g2,g3,g4,g5⟩:=fz
  refine ⟨.ref s.heap.objs.size,_,I2.turned (t':=s.toks) (λc o hc y=>(sb.2 c hc).trans y) (nn z ⟨_,q1⟩ g0) g1 g3 g4 g5,rfl,⟨x,y,_,λzs hz'=>by rw [I.wY hz' hq];exact hx,λzs hz'=>by rw [I.wY hz' hq2];exact hy,rfl,fr,rfl⟩,⟨e2,sb.extBut _ _ D.TIz hTI,⟨_,_,sb.extBut _ _ D.TOz a2⟩,a3.at λo y=>(sb.2 i1 D.i1z).trans y,a4.at λo y=>(sb.2 i2 D.i2z).trans y⟩,λc hc=>nn c (all c hc) (hf c hc).1⟩
 done:=by
  intro X hP hw hK hc i pins s σ H E I hf st hg
  subst hP hw hK
  obtain ⟨xs,ys,hq,hq2,hx⟩:=hg
  obtain ⟨q1,q2,⟨u,v,q3⟩,q4,q5⟩:=st
  obtain ⟨its,rv,p,hz⟩:=I.list hq
  obtain ⟨its2,rv2,p2,hz2⟩:=I.list hq2
  have hl:=rv.length
  have hl2:=rv2.length
  exact wpAny_pyNext_zip_end (I.ok.hd hc) D q1 q2 q3 q4 q5 p.isList p2.isList (hx.imp (λh=>by simp;omega) λh=>by simp;omega) λh' k=>⟨rfl,Inv.TJ [z,TO,i1,i2] I (λc hc=>hf c (by simp at hc ⊢;rcases hc with rfl | rfl | rfl | rfl<;>simp)) λc o hc e=>k c o (λy=>hc (by simp [y])) (λy=>hc (by simp [y])) (λy=>hc (by simp [y])) (λy=>hc (by simp [y])) e⟩
 self:=λ_ _ _ _ _ st h=>wpAny_pyIter_zip st.1 h
section
variable {X:Cx}
def aaZ (K:W.Frag)(ta:TA):TI:=λσ H R=>ta σ H λvs H1=>∃p q,vs=[.ref p,.ref q]/\(∃xs,SqL K H1 p xs)/\(∃xs,SqL K H1 q xs)/\R (Itz K p q) H1
theorem boot_zip:bootBuiltins "zip" = some (.type "zip"):=by decide +kernel
theorem vals2 {a b:V}{us:List Value}(r:Vals [a,b] us):∃u v,us=[u,v]/\RelV a u/\RelV b v:=by
 cases r with
 |cons r1 r2=>
  cases r2 with
  |cons r2 r3=>cases r3;exact ⟨_,_,rfl,r1,r2⟩
theorem Qu {elts:List Expr}{x1}{pt:Pos}{a b:Expr}{ta:TA}{p pos:Pos}(hg:Gl X "zip")(hm:X.mg "zip" = none)(ha:PA X [a,b] ta)(hs:starEach [a,b] X.env=[(false,eval a X.env),(false,eval b X.env)]:=by rfl)(hs2:starEach [b] X.env=[(false,eval b X.env)]:=by rfl):PI X (.Tuple elts x1 pt) (.Call (.Name "zip" p) [a,b] [] pos) (aaZ X.K ta):=by
 intro pins s σ H R I h
 refine Call_ (yr I hg hm boot_zip (PyProof.Rows.callWith_type1 (thn (ha pos pins s σ H _ I h) λus s1 hE=>xq2 hE λvs H1 I1 r1 q1=>?_) (by rw [hs,hs2]) (by rw [hs2];rfl)))
 obtain ⟨l,l2,e,⟨xs,hq⟩,⟨ys,hq2⟩,q⟩:=q1
 subst e
 obtain ⟨u,v,rfl,rx,ry⟩:=vals2 r1
 cases rx
 cases ry
 obtain ⟨its,rv,pl,hz⟩:=I1.list hq
 obtain ⟨its2,rv2,pl2,hz2⟩:=I1.list hq2
 have lt1:l<s1.heap.objs.size:=by obtain ⟨o,e,_⟩:=pl.isList;exact Heap.lt_size e
 have lt2:l2<s1.heap.objs.size:=by obtain ⟨o,e,_⟩:=pl2.isList;exact Heap.lt_size e
 refine call_zip_2 pl.isList pl2.isList λh' e1 e2 e3 e4 e5 sz k=>?_
 have I2:Inv X pins σ H1 { s1 with heap:=h' }:=I1.kept (t':=s1.toks) k
 have D:ZipApart (s1.heap.objs.size+4) (s1.heap.objs.size+2) (s1.heap.objs.size+3) s1.heap.objs.size (s1.heap.objs.size+1) l l2:=zipApart_new lt1 lt2
 refine wpAny_pyIter_zip (s:={ s1 with heap:=h' }) e1 ?_
 refine ⟨_,[s1.heap.objs.size+4,s1.heap.objs.size+2,s1.heap.objs.size+3,s1.heap.objs.size,s1.heap.objs.size+1],_,_,H1,rfl,I2,PJ _ _ _ _ _ l l2 D,⟨e1,e2,⟨_,_,e3⟩,e4,e5⟩,λb hb=>?_,q⟩
 have hb':s1.heap.objs.size<=b:=by
  rcases List.mem_cons.mp hb with z | hb
  ·rw [z];exact Nat.le_add_right _ _
  rcases List.mem_cons.mp hb with z | hb
  ·rw [z];exact Nat.le_add_right _ _
  rcases List.mem_cons.mp hb with z | hb
  ·rw [z];exact Nat.le_add_right _ _
  rcases List.mem_cons.mp hb with z | hb
  ·rw [z];exact Nat.le_refl _
  ·rw [List.mem_singleton.mp hb];exact Nat.le_add_right _ _
 exact I1.Q7 hb' (I1.hok.fresh hb')
def Cw:List D->List D->List D
 |a::as,b::bs=>.tup [a,b]::Cw as bs
 |_,_=>[]
theorem xg:∀as bs:List D,(Cw as bs).length=min as.length bs.length
 |[],_=>by simp [Cw]
 |_::_,[]=>by simp [Cw]
 |a::as,b::bs=>by rw [Cw,List.length_cons,xg as bs];simp
theorem Ej:∀{as bs:List D} {i:Nat} {a b:D},as[i]? = some a->bs[i]? = some b->(Cw as bs)[i]? = some (.tup [a,b])
 |[],_,_,_,_,h,_=>by simp at h
 |_::_,[],_,_,_,_,h=>by simp at h
 |x::as,y::bs,0,a,b,h1,h2=>by
  have h1:x=a:=by simpa using h1
  have h2:y=b:=by simpa using h2
  rw [h1,h2];rfl
 |x::as,y::bs,i+1,a,b,h1,h2=>Ej (as:=as) (bs:=bs) (i:=i) (by simpa using h1) (by simpa using h2)
theorem RZ {G:Gx}{a b:Addr}{ds es:List D}{P:(Addr->Prop)->Hp->Prop}(h:∀O' H2,P O' H2->∃xs,SqL G.K H2 a xs/\DVs G O' H2 xs ds)(h':∀O' H2,P O' H2->∃xs,SqL G.K H2 b xs/\DVs G O' H2 xs es):Bj G (Itz G.K a b) (Cw ds es) P:=by
 intro O' H2 ev
 obtain ⟨xs,hq,hd⟩:=h O' H2 ev
 obtain ⟨ys,hq2,hd2⟩:=h' O' H2 ev
 have l1:=cH hd
 have l2:=cH hd2
 refine ⟨λi hi=>?_,λi x H' hi y=>?_,xs,ys,hq,hq2,by rw [xg];omega⟩
 ·rw [xg] at hi
  have i1:i<xs.length:=by omega
  have i2:i<ys.length:=by omega
  exact ⟨xs,ys,xs[i],ys[i],hq,hq2,by simp,by simp⟩
 ·obtain ⟨y1,y2,l,k1,k2,rfl,fr,rfl⟩:=y
  obtain ⟨d1,e1,v1⟩:=t7 hd (k1 xs hq)
  obtain ⟨d2,e2,v2⟩:=t7 hd2 (k2 ys hq2)
  exact ⟨dG fr _,.tup [d1,d2],Ej e1 e2,.tup (SqU.of bY) (.cons (v1.mono (dG fr _)) (.cons (v2.mono (dG fr _)) .nil))⟩
def qC (f:Me->Res (List D)):Me->Res (List D):=λm=>(f m).bind λd=>match d with
 |[.lst ds,.lst es]=>.ok (Cw ds es)
 |_=>.stuck
theorem FP {E:XK}{fs:Me->Res (List D)}{elts:List Expr}{x1}{pt:Pos}{a b:Expr}{p pos:Pos}(hg:Gl X "zip")(hm:X.mg "zip" = none)(ha:FAE X E [a,b] fs)(hs:starEach [a,b] X.env=[(false,eval a X.env),(false,eval b X.env)]:=by rfl)(hs2:starEach [b] X.env=[(false,eval b X.env)]:=by rfl):FI X E (.Tuple elts x1 pt) (.Call (.Name "zip" p) [a,b] [] pos) (qC fs):=
 pG (Qu hg hm ha hs hs2) λσ H R hE=>xq5 hE λO0 M0 H0 ow m Re q=>⟨O0,M0,H0,ow,m,Re,q.bind.imp (aL.refl _) λds q vs H' g hv=>by
  have z:∃xs ys,ds=[.lst xs,.lst ys]:=by
   cases ds with
   |nil=>exact q.elim
   |cons d ds=>cases d with
    |lst xs=>cases ds with
     |nil=>exact q.elim
     |cons e ds=>cases e with
      |lst ys=>cases ds with
       |nil=>exact ⟨xs,ys,rfl⟩
       |cons _ _=>exact q.elim
      |_=>exact q.elim
    |_=>exact q.elim
  obtain ⟨ds,es,rfl⟩:=z
  cases hv with
  |cons h1 h3=>cases h3 with
  |cons h2 h4=>
   cases h4
   cases h1 with
   |lst hl hd=>
    cases h2 with
    |lst hl2 hd2=>exact ⟨_,_,rfl,⟨_,hl.sq⟩,⟨_,hl2.sq⟩,q _ H' g (RZ (λO' H2 ev=>⟨_,(qx ev.2 hl).sq,hd.go (Re.mono g).mutk ev⟩) λO' H2 ev=>⟨_,(qx ev.2 hl2).sq,hd2.go (Re.mono g).mutk ev⟩)⟩⟩
theorem GD {E:XK}{fs:Me->Res (List D)}{elts:List Expr}{x1}{pt:Pos}{a b:Expr}{p pos:Pos}(hg:Gl X "zip")(hm:X.mg "zip" = none)(ha:FAB X E [a,b] fs)(hs:starEach [a,b] X.env=[(false,eval a X.env),(false,eval b X.env)]:=by rfl)(hs2:starEach [b] X.env=[(false,eval b X.env)]:=by rfl):FIw X E (.Tuple elts x1 pt) (.Call (.Name "zip" p) [a,b] [] pos) (qC fs):=
 pG (Qu hg hm ha hs hs2) λσ H R hE=>xq5 hE λO0 M0 H0 ow m Re q=>⟨O0,M0,H0,ow,m,Re,q.bind.imp (aL.refl _) λds q vs H' g hv=>by
  have z:∃xs ys,ds=[.lst xs,.lst ys]:=by
   cases ds with
   |nil=>exact q.elim
   |cons d ds=>cases d with
    |lst xs=>cases ds with
     |nil=>exact q.elim
     |cons e ds=>cases e with
      |lst ys=>cases ds with
       |nil=>exact ⟨xs,ys,rfl⟩
       |cons _ _=>exact q.elim
      |_=>exact q.elim
    |_=>exact q.elim
  obtain ⟨ds,es,rfl⟩:=z
  cases hv with
  |cons h1 h3=>cases h3 with
  |cons h2 h4=>
   cases h4
   obtain ⟨l,xs,rfl,hl,hd⟩:=oF h1
   obtain ⟨l2,ys,rfl,hl2,hd2⟩:=oF h2
   exact ⟨_,_,rfl,⟨_,hl⟩,⟨_,hl2⟩,q _ H' g (RZ (λO' H2 ⟨sub,g2⟩=>⟨_,xn hl g2,hd.go (Re.mono g).mutk ⟨sub,.of g2⟩⟩) λO' H2 ⟨sub,g2⟩=>⟨_,xn hl2 g2,hd2.go (Re.mono g).mutk ⟨sub,.of g2⟩⟩)⟩⟩
end
section
variable {X:Cx}{E:XK}{e:Expr}{fa:Me->Res (D×Me)}{pos apos cpos np:Pos}{x:Str}
end
end F
namespace L2
open PySem PySem.Spec PyProof.Rows
section
variable {X:Cx}{tg:Expr}
end
end L2
namespace F
open PySem PySem.Spec PyProof.Rows L2 Hd
section
variable {X:Cx}{E:XK}{tg e a b c:Expr}{f:Me->Res D}{fs:Me->Res (List D)}{fa:Me->Res (D×Me)}{p pos:Pos}
def IK:Me->Res (Fl×Me):=λ_=>.stuck
theorem Hw {st:Stmt}:FS X E st IK:=λ_ _ _ _ _ _ ⟨_,_,_,_,_,_,z⟩=>z.elim
variable {x:Str}{np apos cpos:Pos}
end
section
variable {X:Cx}{E:XK}{e ke:Expr}{f fk:Me->Res D}{pos np apos cpos:Pos}{x:Str}
end
end F
namespace L2
open PySem PySem.Spec PyProof.Rows
section
variable {X:Cx}{e st:Expr}{te:TE}{tst:TO}{p2 pos:Pos}
end
end L2
namespace F
open PySem PySem.Spec PyProof.Rows L2 Hd
section
variable {X:Cx}{E:XK}{e st:Expr}{f:Me->Res D}{fk:Me->Res (Option Int)}{p2 pos:Pos}
end
section
variable {X:Cx}{E:XK}{e ke:Expr}{f fk:Me->Res D}{fa:Me->Res (D×Me)}{x:Str}{np apos cpos pos spos:Pos}
end
section
variable {X:Cx}
variable {E:XK}{a b:Expr}{pos:Pos}{fa fb:Me->Res D}
end
def rE (Φ:List D->Res (Bool×D))(fs:Me->Res (List D)):Me->Res D:=λm=>(fs m).bind λds=>(Φ ds).bind λr=>if gj r.2=true then .ok r.2 else .stuck
theorem Wo {X:Cx}{E:XK}{j k:Nat}{x:Str}{ps:List Str}{Φ:List D->Res (Bool×D)}{p pos:Pos}{e:Expr}{es:List Expr}{fs:Me->Res (List D)}(Fh:FF X.prog X.w X.K X.mg X.base k x ps Φ)(hr:gw j X.A)(hx:Passes (CX1 X.prog X.w) X E)(ha:FAB X E (e::es) fs)(hk:k<=j:=by decide)(hg:Gl X x:=by rfl)
  (hdb:(x == ("__debug__" : Str))=false:=by decide) (he:starEach (e::es) X.env=(false,eval e X.env)::starEach es X.env:=by rfl) (hpl:(backTo pos (starEach es X.env)).any (·.1)=false:=by rfl):
  FE X E (.Call (.Name x p) (e::es) [] pos) (rE Φ fs):=by
 obtain ⟨f,fd,G,b,kp,m⟩:=Fh.ex
 refine cF (zW G (hr.mono hk) hg m kp b .nil hx ha hdb he hpl) λσ H Q hE=>xq5 hE λO0 M0 H0 ow m R q=>⟨O0,M0,H0,ow,m,R,q.bind.imp (aL.refl _) λds q vs H1 g1 hv=>?_⟩
 show spF _ _ (vs++[]) _ _ _
 rw [List.append_nil]
 refine ⟨_,ds,λ_ z=>z.elim,hv.any,q.bind.imp g1 λr q v H' g2 hv' _=>?_⟩
 obtain ⟨hf,q⟩:=xJ q
 exact q v H' (g1.trans g2) (hv'.gj hf)
end F
namespace Hd
open PySem L2
end Hd
namespace F
open PySem L2 Hd
section
variable {X:Cx}{E:XK}{es:List Expr}{b:Expr}{fs:Me->Res (List D)}{fa fb:Me->Res D}{pos:Pos}
end
open PySem PySem.Spec PyProof.Rows L2 Hd
section
variable {G:Gx}{O:Addr->Prop}{H0 H H' H1:Hp}
theorem mj.mono (g:aL H1 H'):∀{qs:List Addr} {vs:List V} {ds:List D},mj G H0 H1 qs vs ds->mj G H0 H' qs vs ds
 |_,_,_,.nil=>.nil
 |_,_,_,.flat h f t=>.flat (h.mono g) f (mj.mono g t)
 |_,_,_,.new n e hs f nq t=>.new n (g _ _ e) (hs.mono g) f nq (mj.mono g t)
theorem mj.dvs:∀{qs:List Addr} {vs:List V} {ds:List D},mj G H0 H' qs vs ds->(∀q∈qs,¬O q)->DVs G O H' vs ds
 |_,_,_,.nil,_=>.nil
 |_,_,_,.flat h f t,hq=>.cons (h.gj f) (mj.dvs t hq)
 |_,_,_,.new n e hs f nq t,hq=>.cons (.lst (.inl ⟨hq _ List.mem_cons_self,.inl e⟩) (hs.gj f)) (mj.dvs t λq z=>hq q (List.mem_cons_of_mem _ z))
theorem mj.len:∀{qs:List Addr} {vs:List V} {ds:List D},mj G H0 H' qs vs ds->vs.length=ds.length
 |_,_,_,.nil=>rfl
 |_,_,_,.flat _ _ t=>congrArg (· + 1) (mj.len t)
 |_,_,_,.new _ _ _ _ _ t=>congrArg (· + 1) (mj.len t)
def Cq:List D->List Addr->List D
 |[],_=>[]
 | .lst es::ds,as=>match as with
  |a::as=>.adr a::Cq ds as
  |[]=>.lst es::Cq ds []
 |d::ds,as=>d::Cq ds as
def oX:List D->List D
 |[]=>[]
 | .lst es::ds=>.lst es::oX ds
 |_::ds=>oX ds
theorem HQ {d:D}{ds:List D}{as:List Addr}(f:gj d=true):Cq (d::ds) as=d::Cq ds as/\oX (d::ds)=oX ds:=by
 cases d with
 |lst es=>cases f
 |_=>exact ⟨rfl,rfl⟩
theorem mj.hid:∀{qs:List Addr} {vs:List V} {ds:List D},mj G H0 H' qs vs ds->DVs G O H' vs (Cq ds qs)
 |_,_,_,.nil=>.nil
 |_,_,_,.flat h f t=>by rw [(HQ f).1];exact .cons (h.gj f) (mj.hid t)
 |_,_,_,.new n e hs f nq t=>.cons (.adr _) (mj.hid t)
inductive rM (G:Gx)(H0 H':Hp):List Addr->List D->Prop where
 |nil:rM G H0 H' [] []
 |cons {q:Addr} {xs:List V} {es:List D} {qs:List Addr} {ds:List D}:H0 q=none->H' q=some (.lst xs)->DVs G (λ_=>False) H' xs es->qJ es=true->q∉qs->rM G H0 H' qs ds->rM G H0 H' (q::qs) (.lst es::ds)
theorem mj.ls:∀{qs:List Addr} {vs:List V} {ds:List D},mj G H0 H' qs vs ds->rM G H0 H' qs (oX ds)
 |_,_,_,.nil=>.nil
 |_,_,_,.flat h f t=>by rw [(HQ (as:=[]) f).2];exact mj.ls t
 |_,_,_,.new n e hs f nq t=>.cons n e hs f nq (mj.ls t)
theorem rM.len:∀{qs:List Addr} {ds:List D},rM G H0 H' qs ds->qs.length=ds.length
 |_,_,.nil=>rfl
 |_,_,.cons _ _ _ _ _ t=>congrArg (· + 1) (rM.len t)
theorem rM.nd:∀{qs:List Addr} {ds:List D},rM G H0 H' qs ds->qs.Nodup
 |_,_,.nil=>List.nodup_nil
 |_,_,.cons _ _ _ _ n t=>List.nodup_cons.mpr ⟨n,rM.nd t⟩
theorem rM.free:∀{qs:List Addr} {ds:List D},rM G H0 H' qs ds->∀q∈qs,H0 q=none
 |_,_,.nil,_,h=>by cases h
 |_,_,.cons n _ _ _ _ t,q,h=>by
  rcases List.mem_cons.mp h with rfl | h
  ·exact n
  ·exact rM.free t q h
theorem rM.at:∀{qs:List Addr} {ds:List D},rM G H0 H' qs ds->∀(k:Nat) (a:Addr),qs[k]? = some a->∃es xs,ds[k]? = some (D.lst es)/\H' a=some (.lst xs)/\DVs G (λ_=>False) H' xs es/\qJ es=true
 |_,_,.nil,k,a,h=>by simp at h
 |_,_,.cons _ e hs f _ _,0,a,h=>by simp at h;subst h;exact ⟨_,_,rfl,e,hs,f⟩
 |_,_,.cons _ _ _ _ _ t,k+1,a,h=>rM.at t k a (by simpa using h)
theorem rM.imp (g:∀q,H q=none->H0 q=none):∀{qs:List Addr} {ds:List D},rM G H H' qs ds->rM G H0 H' qs ds
 |_,_,.nil=>.nil
 |_,_,.cons n e hs f nq t=>.cons (g _ n) e hs f nq (rM.imp g t)
end
def nT:Me->Nat->List Addr->List D->Me
 |m,j,a::as,d::ds=>nT (m.set j (.hd true a d)) (j+1) as ds
 |m,_,_,_=>m
def owH (ow:Os)(j:Nat)(as:List Addr):Os:=λk=>if j<=k/\k<j+as.length then as[k-j]? else ow k
theorem yL:∀(as:List Addr) (ds:List D) (m:Me) (j:Nat),(nT m j as ds).length=m.length
 |[],_,_,_=>by rw [nT];intro _ _ _ _ z;cases z
 |_::_,[],_,_=>by rw [nT];intro _ _ _ _ _ z;cases z
 |a::as,d::ds,m,j=>by rw [nT,yL as ds];simp
theorem vD:∀(as:List Addr) (ds:List D) (m:Me) (j k:Nat),k<j\/j+as.length<=k->(nT m j as ds)[k]? = m[k]?
 |[],_,_,_,_,_=>by rw [nT];intro _ _ _ _ z;cases z
 |_::_,[],_,_,_,_=>by rw [nT];intro _ _ _ _ _ z;cases z
 |a::as,d::ds,m,j,k,h=>by
  rw [List.length_cons] at h
  rw [nT,vD as ds _ _ _ (by omega),List.getElem?_set_ne (by omega)]
theorem BW:∀(as:List Addr) (ds:List D) (m:Me) (j i:Nat) (a:Addr) (d:D),j+as.length<=m.length->as[i]? = some a->ds[i]? = some d->(nT m j as ds)[j+i]? = some (.hd true a d)
 |[],_,_,_,_,_,_,_,h,_=>by simp at h
 |_::_,[],_,_,_,_,_,_,_,h=>by simp at h
 |b::as,e::ds,m,j,0,a,d,hl,h1,h2=>by
  simp at h1 h2
  rw [List.length_cons] at hl
  rw [nT,vD as ds _ _ _ (by omega),Nat.add_zero,List.getElem?_set_self (by omega),h1,h2]
 |b::as,e::ds,m,j,i+1,a,d,hl,h1,h2=>by
  rw [List.length_cons] at hl
  rw [nT,show j+(i+1)=(j+1)+i by omega]
  exact BW as ds _ (j+1) i a d (by rw [List.length_set];omega) (by simpa using h1) (by simpa using h2)
section
variable {G:Gx}{O0 M0:Addr->Prop}{H0 H H':Hp}{ow:Os}{σ:L2.St}{m:Me}
theorem du.hide {as:List Addr}{ls:List D}{j:Nat}(R:du G O0 M0 H0 ow σ H m)(g:aL H H')(L:rM G H H' as ls)(hj:j+as.length<=m.length):
  du G O0 M0 H0 (owH ow j as) σ H' (nT m j as ls)/\Go O0 ow H (owH ow j as) H':=by
 have nw:∀a∈as,¬Ow O0 ow a:=λa h=>R.toRel.zm (L.free a h)
 have inv:∀k b,owH ow j as k=some b->(∃i,k=j+i/\as[i]? = some b)\/((k<j\/j+as.length<=k)/\ow k=some b):=λk b e=>by
  unfold owH at e
  split at e
  ·rename_i q;exact .inl ⟨k-j,by omega,e⟩
  ·rename_i q;exact .inr ⟨by omega,e⟩
 have eo:∀k,(k<j\/j+as.length<=k)->owH ow j as k=ow k:=λk h=>by unfold owH;rw [if_neg (by omega)]
 have ei:∀i a,as[i]? = some a->owH ow j as (j+i)=some a:=λi a h=>by
  have:=rP h
  unfold owH;rw [if_pos (by omega),show j+i-j=i by omega];exact h
 have out:∀b,Ow O0 (owH ow j as) b->Ow O0 ow b\/b∈as:=λb z=>by
  rcases z with z | ⟨k,e⟩
  ·exact .inl (.inl z)
  ·rcases inv k b e with ⟨i,_,z⟩ | ⟨_,z⟩
   ·exact .inr (List.mem_of_getElem? z)
   ·exact .inl (.inr ⟨k,z⟩)
 have sub:∀b,Ow O0 (owH ow j as) b->Ow O0 ow b\/H b=none:=λb z=>(out b z).imp id λh=>L.free b h
 have R':=R.mono g
 refine ⟨⟨⟨by rw [yL];exact R.len,R'.keep,R'.m0,λb z=>?_,λk a e=>?_,λk l a a1 a2=>?_,λk hk=>?_,λk s e=>?_⟩,λk dd e=>?_⟩,.of g,λk a e=>?_,(Go.refl (O0:=O0) (ow:=ow) g).dom⟩
 ·rcases out b z with z | z
  ·exact R'.mutk b z
  ·obtain ⟨i,hi⟩:=List.getElem?_of_mem z
   obtain ⟨es,xs,_,e,_⟩:=L.at i b hi
   exact .inl ⟨xs,e⟩
 ·rcases inv k a e with ⟨i,_,z⟩ | ⟨_,z⟩
  ·exact λw=>nw a (List.mem_of_getElem? z) (.inl w)
  ·exact R.no0 k a z
 ·rcases inv k a a1 with ⟨i,u,z⟩ | ⟨_,z⟩<;>rcases inv l a a2 with ⟨i',v,y⟩ | ⟨_,y⟩
  ·have:i=i':=by
    have h1:=rP z
    have h2:=rP y
    rw [List.getElem?_eq_getElem h1] at z
    rw [List.getElem?_eq_getElem h2] at y
    injection z with z
    injection y with y
    rcases Nat.lt_trichotomy i i' with w | w | w
    ·exact absurd (z.trans y.symm) ((List.pairwise_iff_getElem.mp L.nd) i i' h1 h2 w)
    ·exact w
    ·exact absurd (y.trans z.symm) ((List.pairwise_iff_getElem.mp L.nd) i' i h2 h1 w)
   omega
  ·exact absurd (.inr ⟨l,y⟩) (nw a (List.mem_of_getElem? z))
  ·exact absurd (.inr ⟨k,z⟩) (nw a (List.mem_of_getElem? y))
  ·exact R.inj k l a z y
 ·rw [yL] at hk
  rw [eo k (by omega)]
  exact R.out k hk
 ·by_cases c:j<=k/\k<j+as.length
  ·have hi:k-j<as.length:=by omega
   obtain ⟨es,xs,e1,e2,e3,e4⟩:=L.at (k-j) as[k-j] (List.getElem?_eq_getElem hi)
   have w:=BW as ls m j (k-j) _ _ hj (List.getElem?_eq_getElem hi) e1
   rw [show j+(k-j)=k by omega] at w
   rw [w] at e
   cases e
   have w2:=ei (k-j) _ (List.getElem?_eq_getElem hi)
   rw [show j+(k-j)=k by omega] at w2
   exact ⟨w2,λ_=>R.toRel.Cg (L.free _ (List.getElem_mem hi)),(λz=>by cases z),xs,e2,e3.gj e4⟩
  ·rw [vD as ls m j k (by omega)] at e
   rw [eo k (by omega)]
   exact ((R.slot k s e).cJ sub λ_ _ b _=>Classical.em _).mono g
 ·by_cases c:j<=k/\k<j+as.length
  ·have hi:k-j<as.length:=by omega
   obtain ⟨es,xs,e1,e2,e3,e4⟩:=L.at (k-j) as[k-j] (List.getElem?_eq_getElem hi)
   have w:=BW as ls m j (k-j) _ _ hj (List.getElem?_eq_getElem hi) e1
   rw [show j+(k-j)=k by omega] at w
   rw [w] at e
   cases e
  ·rw [vD as ls m j k (by omega)] at e
   exact R.nb k dd e
 ·rcases inv k a e with ⟨i,_,z⟩ | ⟨_,z⟩
  ·exact .inr (L.free a (List.mem_of_getElem? z))
  ·exact .inl (.inr ⟨k,z⟩)
end
def tAI (is:List Nat)(G:Gx)(E:XK)(f:Me->Res (List D)):TA:=λσ H Q=>∃O0 M0 H0 ow m,Rel G O0 M0 H0 ow σ H m/\Pu G E (f m) H λds=>∀vs H' qs,aL H H'->mj G H0 H' qs vs ds->(∀q∈qs,¬O0 q/\(H q=none\/∃i∈is,ow i=some q))->Q vs H'
abbrev FAI (is:List Nat)(X:Cx)(E:XK)(es:List Expr)(f:Me->Res (List D)):Prop:=PA X es (tAI is (gx X) E f)
def j6 (fa:Me->Res D)(fs:Me->Res (List D)):Me->Res (List D):=λm=>(fa m).bind λx=>if gj x=true then (fs m).bind λxs=>.ok (x::xs) else .stuck
def gF (fa:Me->Res D)(fs:Me->Res (List D)):Me->Res (List D):=λm=>(fa m).bind λx=>if jd x=true then (fs m).bind λxs=>.ok (x::xs) else .stuck
def owF (m:Me)(i:Nat):Option D:=match m[i]? with
 |some (.ow d)=>if jd d=true then some d else none
 |_=>none
def sW (i:Nat)(fs:Me->Res (List D)):Me->Res (List D):=λm=>(ofO (owF m i)).bind λx=>(fs m).bind λxs=>.ok (x::xs)
def sJ (fs:Me->Res (List D)):Me->Res (Fl×Me):=λm=>(fs m).bind λds=>if ds.length<=sizeLine then .ok (.rt true (.tup ds),m.map λ_=>.un) else .stuck
section
variable {X:Cx}{E:XK}{is:List Nat}{e:Expr}{es:List Expr}{x:Str}{np pos pos':Pos}{fa:Me->Res D}{fs:Me->Res (List D)}
theorem xT:FAI [] X E [] az:=nF u5 λσ H Q hE=>xq5 hE λO0 M0 H0 ow m R q=>q [] H [] (aL.refl _) .nil λ_ z=>by cases z
theorem sI (ha:FE X E e fa)(hr:FAI is X E es fs)(hs:starEach (e::es) X.env=(false,eval e X.env)::starEach es X.env:=by rfl):FAI is X E (e::es) (j6 fa fs):=
 nF (lW ha hr hs) λσ H Q hE=>xq5 hE λO0 M0 H0 ow m R q=>⟨O0,M0,H0,ow,m,R,q.bind.imp (aL.refl _) λd q v H1 g1 hv=>⟨O0,M0,H0,ow,m,R.mono g1,by
  obtain ⟨hf,q⟩:=t8 q
  exact q.bind.imp g1 λds q vs H2 qs g2 ti hq=>q (v::vs) H2 qs (g1.trans g2) (.flat ((hv.mono g2).gj hf) hf ti) λz hz=>⟨(hq z hz).1,(hq z hz).2.imp g1.free id⟩⟩⟩
theorem pL (ha:FN X E e fa)(hr:FAI is X E es fs)(hs:starEach (e::es) X.env=(false,eval e X.env)::starEach es X.env:=by rfl):FAI is X E (e::es) (gF fa fs):=
 nF (lW ha hr hs) λσ H Q hE=>xq5 hE λO0 M0 H0 ow m R q=>⟨O0,M0,H0,ow,m,R,q.bind.imp (aL.refl _) λd q p H1 g1 n ov=>⟨O0,M0,H0,ow,m,R.mono g1,by
  obtain ⟨hf,q⟩:=t8 q
  cases d with
  |lst es=>
   obtain ⟨xs,e,hs⟩:=ov
   refine q.bind.imp g1 λds q vs H2 qs g2 ti hq=>q (.ref p::vs) H2 (p::qs) (g1.trans g2) (.new (R.Cg n) (g2 _ _ e) ((hs.gj hf).mono g2) hf (λhp=>?_) ti) λz hz=>?_
   ·rcases (hq p hp).2 with w | ⟨i,_,w⟩
    ·rw [w] at e;cases e
    ·exact R.zm n (.inr ⟨i,w⟩)
   ·rcases List.mem_cons.mp hz with rfl | hz
    ·exact ⟨λw=>R.zm n (.inl w),.inl n⟩
    ·exact ⟨(hq z hz).1,(hq z hz).2.imp g1.free id⟩
  |_=>cases hf⟩⟩
theorem DQ (i:Nat)(hr:FAI is X E es fs)(hni:i∉is:=by decide)(hN:X.N[i]? = some x:=by rfl)(hv:Vis X.env.scope x:=by first | exact Or.inl rfl | exact Or.inr (Or.inl rfl) | exact Or.inr (Or.inr rfl))(hd:(x == ("__debug__" : Str))=false:=by decide)(hcd:(x == ("__classdict__" : Str))=false:=by decide)
  (hs:starEach (.Name x np::es) X.env=(false,eval (.Name x np) X.env)::starEach es X.env:=by rfl):FAI (i::is) X E (.Name x np::es) (sW i fs):=
 nF (lW (jP hN hv hd hcd) hr hs) λσ H Q hE=>xq5 hE λO0 M0 H0 ow m R q=>by
  obtain ⟨d,hd,q⟩:=q.bind.ofO
  unfold owF at hd
  split at hd
  ·rename_i d' q1
   split at hd
   ·rename_i hf
    cases hd
    obtain ⟨a,e1,e2,e3,ov⟩:=R.slot i _ q1
    refine ⟨_,e3,O0,M0,H0,ow,m,R,q.bind.imp (aL.refl _) λds q vs H2 qs g2 ti hq=>?_⟩
    cases d with
    |lst es=>
     obtain ⟨xs,e,hs⟩:=ov
     refine q (.ref a::vs) H2 (a::qs) g2 (.new e2 (g2 _ _ e) ((hs.gj hf).mono g2) hf (λhp=>?_) ti) λz hz=>?_
     ·rcases (hq a hp).2 with w | ⟨i',hi',w⟩
      ·rw [w] at e;cases e
      ·exact hni (R.inj i i' a e1 w ▸ hi')
     ·rcases List.mem_cons.mp hz with rfl | hz
      ·exact ⟨R.no0 i z e1,.inr ⟨i,List.mem_cons_self,e1⟩⟩
      ·exact ⟨(hq z hz).1,(hq z hz).2.imp id λ⟨k,hk,w⟩=>⟨k,List.mem_cons_of_mem _ hk,w⟩⟩
    |_=>cases hf
   ·cases hd
  ·cases hd
theorem xu {x1}(h:FAI is X E es fs):FS X E (.Return (some (.Tuple es x1 pos')) pos) (sJ fs):=eE (DR (K7 h)) λW σ H hE=>xq5 hE λO0 M0 H0 ow m R q=>
 ⟨O0,M0,H0,ow,m,R.toRel,(Ss.pu R.toRel q).imp (aL.refl _) λds q vs H1 qs g1 ti hq=>by
  by_cases hz:ds.length<=sizeLine
  ·rw [if_pos hz] at q
   refine ⟨by rw [ti.len];exact hz,λp H' g e=>?_⟩
   obtain ⟨R2,g2⟩:=(R.mono (g1.trans g)).forget (m':=m) rfl
   have ti2:=ti.mono g
   have dv:=ti2.dvs (O:=Ow O0 λ_=>none) (λq hq'=>by rw [vH];exact (hq q hq').1)
   exact q (.ref p) _ σ H' R2 ((Go.refl (g1.trans g)).trans g2) (.tup (SqU.of e) dv) λ_=>.inr ⟨p,vs,ds,qs,rfl,rfl,SqU.of e,ti2⟩
  ·rw [if_neg hz] at q;exact q.elim⟩
end
section
variable {X:Cx}{E:XK}{j k:Nat}{c m:Str}{ps:List Str}{Φ:List D->Res (Bool×D)}{apos pos:Pos}{o e:Expr}{es:List Expr}{f0:Me->Res D}{fs:Me->Res (List D)}{pl:Sem Bool}
theorem BL (Fh:FMd X.prog X.w X.K X.mg X.base k c m ps Φ)(hr:gw j X.A)(hx:Passes (CX1 X.prog X.w) X E)(h0:FV X E o f0)(hk:k<=j:=by decide)
  (ht:eval (.Call (.Attribute o m apos) [] [] pos) X.env=(do
   let ov ← eval o X.env
   standAt apos.atName
   let (f,first) ← holding [ov] (getMethod ov m pl)
   callWith pos f first (backTo pos (starEach [] X.env)) (backToKw pos (keywordEach [] X.env))):=by rfl):
  FN X E (.Call (.Attribute o m apos) [] [] pos) (gJ c m Φ f0 az):=
 RM Fh hr hx h0 hk ht λσ H Q hE=>xq5 hE λO0 M0 H0 ow me R q=>⟨O0,M0,H0,ow,me,R,q.bind.imp (aL.refl _) λd q=>by
  obtain ⟨ob,q⟩:=t8 q
  have q:Pu (gx X) E ((Φ [d]).bind λr=>if (r.1 && jd r.2)=true then .ok r.2 else .stuck) H _:=q
  refine ⟨ob,q.bind.imp (aL.refl _) λr q v H1 H' g1 g2 hv fr=>?_⟩
  obtain ⟨hf,q⟩:=xJ q
  obtain ⟨p,rfl,n,ov⟩:=Gk (zZ R.mutk g1) hf fr
  exact q p H' (g1.trans g2) (g1.free n) ov⟩
end
open Classical in
def Dp (n:Nat)(h:List Addr->Res (Fl×Me))(m:Me):Res (Fl×Me):=
 if H:∃p:Bool×D,∀as:List Addr,as.length=n->as.Nodup->∃m',h as=.ok (.rt p.1 p.2,m')/\m'.length=m.length then .ok (.rt (Classical.choose H).1 (Classical.choose H).2,m.map λ_=>.un) else .stuck
theorem Bp {n:Nat}{h:List Addr->Res (Fl×Me)}{m:Me}{fr:Bool}{d:D}(H:∀as:List Addr,as.length=n->as.Nodup->∃m',h as=.ok (.rt fr d,m')/\m'.length=m.length):Dp n h m=.ok (.rt fr d,m.map λ_=>.un):=by
 have Hx:∃p:Bool×D,∀as:List Addr,as.length=n->as.Nodup->∃m',h as=.ok (.rt p.1 p.2,m')/\m'.length=m.length:=⟨(fr,d),H⟩
 obtain ⟨m1,e1,_⟩:=Classical.choose_spec Hx (List.range n) List.length_range List.nodup_range
 obtain ⟨m2,e2,_⟩:=H (List.range n) List.length_range List.nodup_range
 rw [e1] at e2
 unfold Dp
 rw [dif_pos Hx]
 injection e2 with e2
 injection e2 with e2 _
 injection e2 with e3 e4
 rw [e3,e4]
def HJ (i j:Nat)(Φ:List D->Res (Bool×D))(fs:Me->Res (List D))(k:Me->Res (Fl×Me)):Me->Res (Fl×Me):=λm=>
 (fs m).bind λds=>match Φ ds with
  | .ok (true,.tup es)=>if j+(oX es).length<=m.length then Dp (oX es).length (λas=>k ((nT m j as (oX es)).set i (.fz (.tup (Cq es as))))) m else .stuck
  |_=>.stuck
section
variable {X:Cx}{E:XK}{jj k:Nat}{x y:Str}{ps:List Str}{Φ:List D->Res (Bool×D)}{py pos cpos np:Pos}{e:Expr}{es:List Expr}{fs:Me->Res (List D)}{rest:List Stmt}{kk:Me->Res (Fl×Me)}
theorem SN (i j:Nat)(Fh:FF X.prog X.w X.K X.mg X.base k x ps Φ)(hr:gw jj X.A)(hx:Passes (CX1 X.prog X.w) X E)(hN:X.N.Nodup)(hi:X.N[i]? = some y)(hy:Loc X.env.scope y)(ha:FAE X E (e::es) fs)(h3:FSs X E rest kk)(hk:k<=jj:=by decide)(hg:Gl X x:=by rfl)
  (hdb:(x == ("__debug__" : Str))=false:=by decide) (he:starEach (e::es) X.env=(false,eval e X.env)::starEach es X.env:=by rfl) (hpl:(backTo cpos (starEach es X.env)).any (·.1)=false:=by rfl)
  (hs:swapsWith (.Call (.Name x np) (e::es) [] cpos) (some (.Name y py)) pos.line X.env=pure false:=by rfl)
  (hf:X.fn y=true\/X.env.scope.names.lookup y=some .local:=by first | exact .inl rfl | exact .inr rfl | assumption):
  FSs X E (.Assign [.Name y py] (.Call (.Name x np) (e::es) [] cpos) pos::rest) (HJ i j Φ fs kk):=by
 obtain ⟨f,fd,G,b,kp,hm⟩:=Fh.ex
 refine oE (sU (Bo hN hi hy (zW G (hr.mono hk) hg hm kp b .nil hx ha hdb he hpl) hs hf) h3) λW σ H hE=>xq5 hE λO0 M0 H0 ow m R q=>?_
 refine ⟨O0,M0,H0,ow,m,R.toRel,(Ss.pu R.toRel q).imp (aL.refl _) λds q vs H1 g1 hvs=>?_⟩
 show spF _ _ (vs++[]) _ _ _
 rw [List.append_nil]
 refine ⟨_,ds,(R.mono g1).mutk,hvs,?_⟩
 cases z:Φ ds with
 |exc c=>rw [z] at q;exact q.elim
 |stuck=>rw [z] at q;exact q.elim
 |ok r=>
  obtain ⟨b,d⟩:=r
  cases b with
  |false=>rw [z] at q;exact q.elim
  |true=>
  cases d with
  |tup es=>
   rw [z] at q
   have q:Ss (gx X) E O0 M0 H0 ow H W (if j+(oX es).length<=m.length then Dp (oX es).length (λas=>kk ((nT m j as (oX es)).set i (.fz (.tup (Cq es as))))) m else .stuck):=q
   by_cases hc:j+(oX es).length<=m.length
   case neg=>rw [if_neg hc] at q;exact q.elim
   rw [if_pos hc] at q
   unfold Dp at q
   split at q
   case isFalse=>exact q.elim
   rename_i HU
   have sp:=Classical.choose_spec HU
   generalize hfd:Classical.choose HU=fd' at sp q
   obtain ⟨fr,dd⟩:=fd'
   intro v H' g2 hv hfr
   rcases hfr rfl with ⟨p,rfl,n,ov⟩ | ⟨p,xs,ds',qs,e1,rfl,sq,ti⟩
   ·exact ov.elim
   ·cases e1
    have L:=ti.ls.imp (H0:=H) λq w=>g1.free w
    have ln:=L.len
    obtain ⟨R2,g3⟩:=R.hide (j:=j) (g1.trans g2) L (by rw [ln];exact hc)
    have dv:DV (gx X) (Ow O0 (owH ow j qs)) H' (.ref p) (.tup (Cq es qs)):=.tup sq ti.hid
    have R3:=R2.set (i:=i) dv
    obtain ⟨m',eq,hlm⟩:=sp qs ln L.nd
    refine ⟨O0,M0,H0,_,_,R3,?_⟩
    have eq:kk ((nT m j qs (oX es)).set i (.fz (.tup (Cq es qs))))=.ok (.rt fr dd,m'):=eq
    rw [eq]
    intro v ow' σ' H9 R9 g9 hv hfr
    obtain ⟨R10,g10⟩:=R9.forget (m':=m) hlm.symm
    refine q v _ σ' H9 R10 (((g3.trans Go.set).trans g9).trans g10) (hv.cJ λb z=>.inl (z.elim .inl λ⟨_,e⟩=>by cases e)) λz=>?_
    rcases hfr z with ⟨p0,u1,u2,u3⟩ | t
    ·exact .inl ⟨p0,u1,u2,u3.cJ λb z=>.inl (z.elim (λw=>.inl (w.elim .inl λ⟨_,e⟩=>by cases e)) .inr)⟩
    ·exact .inr t
  |_=>rw [z] at q;exact q.elim
end
def vwT (m:Me):List Nat->List D->List D
 |[],ds=>ds
 |j::js,ds=>vwT m js (match m[j]? with
  |some (.hd _ A e)=>ds.map (zF A e)
  |_=>ds)
def fK (i:Nat)(js:List Nat):Me->Res D:=λm=>match m[i]? with
 |some (.fz (.tup ds))=>.ok (.tup (vwT m js ds))
 |_=>.stuck
theorem Ql {G:Gx}{O0 M0:Addr->Prop}{H0:Hp}{ow:Os}{σ:L2.St}{H:Hp}{m:Me}(R:Rel G O0 M0 H0 ow σ H m):∀(js:List Nat) {vs:List V} {ds:List D},DVs G (λ_=>False) H vs ds->DVs G (λ_=>False) H vs (vwT m js ds)
 |[],_,_,h=>h
 |j::js,vs,ds,h=>by
  refine Ql R js ?_
  split
  ·rename_i w A e q
   obtain ⟨x1,x2,x3,x4⟩:=R.slot j _ q
   exact FZ ((x4.cJ (O':=λ_=>False) λ_ z=>z.elim).dv id) h
  ·exact h
theorem Hj {X:Cx}{E:XK}{x:Str}{np:Pos}(i:Nat)(js:List Nat)(hN:X.N[i]? = some x:=by rfl)(hv:Vis X.env.scope x:=by first | exact Or.inl rfl | exact Or.inr (Or.inl rfl) | exact Or.inr (Or.inr rfl))(hd:(x == ("__debug__" : Str))=false:=by decide)(hcd:(x == ("__classdict__" : Str))=false:=by decide):FV X E (.Name x np) (fK i js):=
 cF (jP hN hv hd hcd) λσ H Q hE=>xq5 hE λO0 M0 H0 ow m R q=>by
  unfold fK at q
  split at q
  ·rename_i ds z
   obtain ⟨_,v,e,dv⟩:=R.slot i _ z
   refine ⟨v,e,q v H (aL.refl _) ?_⟩
   have dv:=dv.cJ (O':=λ_=>False) λ_ z=>z.elim
   cases dv with
   |tup h hs=>exact .tup h (Ql R js hs)
  ·exact q.elim
def tAV (G:Gx)(E:XK)(f:Me->Res (List D)):TA:=λσ H Q=>∃O0 M0 H0 ow m,Rel G O0 M0 H0 ow σ H m/\Pu G E (f m) H λds=>∀vs H',aL H H'->DVs G (λ_=>False) H' vs ds->Q vs H'
abbrev FAV (X:Cx)(E:XK)(es:List Expr)(f:Me->Res (List D)):Prop:=PA X es (tAV (gx X) E f)
section
variable {X:Cx}{E:XK}{j k:Nat}{x:Str}{ps:List Str}{Φ:List D->Res (Bool×D)}{p pos:Pos}{e:Expr}{es:List Expr}{fa:Me->Res D}{fs:Me->Res (List D)}
theorem Vw:FAV X E [] az:=nF u5 λσ H Q hE=>xq5 hE λO0 M0 H0 ow m R q=>q [] H (aL.refl _) .nil
theorem yl (ha:FV X E e fa)(hr:FAV X E es fs)(hs:starEach (e::es) X.env=(false,eval e X.env)::starEach es X.env:=by rfl):FAV X E (e::es) (aa fa fs):=
 nF (lW ha hr hs) λσ H Q hE=>xq5 hE λO0 M0 H0 ow m R q=>⟨O0,M0,H0,ow,m,R,q.bind.imp (aL.refl _) λd q v H1 g1 hv=>⟨O0,M0,H0,ow,m,R.mono g1,q.bind.imp g1 λds q vs H2 g2 hvs=>q _ H2 (g1.trans g2) (.cons (hv.mono g2) hvs)⟩⟩
theorem W5 (Fh:FF X.prog X.w X.K X.mg X.base k x ps Φ)(hr:gw j X.A)(hx:Passes (CX1 X.prog X.w) X E)(ha:FAV X E (e::es) fs)(hk:k<=j:=by decide)(hg:Gl X x:=by rfl)
  (hdb:(x == ("__debug__" : Str))=false:=by decide) (he:starEach (e::es) X.env=(false,eval e X.env)::starEach es X.env:=by rfl) (hpl:(backTo pos (starEach es X.env)).any (·.1)=false:=by rfl):
  FE X E (.Call (.Name x p) (e::es) [] pos) (rE Φ fs):=by
 obtain ⟨f,fd,G,b,kp,m⟩:=Fh.ex
 refine cF (zW G (hr.mono hk) hg m kp b .nil hx ha hdb he hpl) λσ H Q hE=>xq5 hE λO0 M0 H0 ow m R q=>⟨O0,M0,H0,ow,m,R,q.bind.imp (aL.refl _) λds q vs H1 g1 hv=>?_⟩
 show spF _ _ (vs++[]) _ _ _
 rw [List.append_nil]
 refine ⟨_,ds,λ_ z=>z.elim,hv,q.bind.imp g1 λr q v H' g2 hv' _=>?_⟩
 obtain ⟨hf,q⟩:=xJ q
 exact q v H' (g1.trans g2) (hv'.gj hf)
end
section
variable {X:Cx}{E:XK}{b e:Expr}{fb f:Me->Res D}{pos apos cpos:Pos}
end
def gH:Me->Addr->Nat->Option (Nat×Bool×D)
 |[],_,_=>none
 | .hd w b d::m,a,k=>if b=a then some (k,w,d) else gH m a (k+1)
 |_::m,a,k=>gH m a (k+1)
theorem Gz:∀{m:Me} {a:Addr} {k:Nat} {r:Nat×Bool×D},gH m a k=some r->∃i,r.1=k+i/\m[i]? = some (.hd r.2.1 a r.2.2)
 |[],_,_,_,h=>by cases h
 |s::m,a,k,r,h=>by
  have go:gH m a (k+1)=some r->∃i,r.1=k+i/\(s::m)[i]? = some (.hd r.2.1 a r.2.2):=λh=>by
   obtain ⟨i,h1,h2⟩:=Gz h
   exact ⟨i+1,by omega,by simpa using h2⟩
  cases s with
  |hd w b d=>
   have h:(if b=a then some (k,w,d) else gH m a (k+1))=some r:=h
   by_cases q:b=a
   ·rw [if_pos q] at h
    cases h
    exact ⟨0,rfl,by rw [q];rfl⟩
   ·rw [if_neg q] at h;exact go h
  |un=>exact go h
  |fz d=>exact go h
  |ow d=>exact go h
  |io d=>exact go h
  |bw d=>exact go h
def zL (fb:Me->Res D):Me->Res (Fl×Me):=λm=>(fb m).bind λc=>match c with
 | .adr a=>(ofO (gH m a 0)).bind λo=>match o.2.2 with
  | .lst ds=>.ok (.nx,m.set o.1 (.hd o.2.1 a (.lst ds.reverse)))
  |_=>.stuck
 |_=>.stuck
def zU (fb fv:Me->Res D):Me->Res (Fl×Me):=λm=>(fb m).bind λc=>match c with
 | .adr a=>(ofO (gH m a 0)).bind λo=>match o.2.2 with
  | .lst ds=>if ds.length<sizeLine then (fv m).bind λd=>.ok (.nx,m.set o.1 (.hd o.2.1 a (.lst (ds++[d])))) else .stuck
  |_=>.stuck
 |_=>.stuck
section
variable {X:Cx}{E:XK}{b e:Expr}{fb f:Me->Res D}{pos apos cpos:Pos}
theorem Ov (hb:FE X E b fb)
  (hbase:attributeBase b "reverse" X.env (eval b X.env)=eval b X.env:=by rfl) (hline:(apos.endLine == cpos.line)=true:=by rfl)
  (hsw:swapsWith (.Call (.Attribute b "reverse" apos) [] [] cpos) none pos.line X.env=pure false:=by rfl):FS X E (.Expr (.Call (.Attribute b "reverse" apos) [] [] cpos) pos) (zL fb):=
 eE (w6 (W6 PySem.F.plainAttrs_list PySem.F.slot_list_reverse PySem.F.type_list_reverse Jh hb hbase hline) hsw) λW σ H hE=>xq5 hE λO0 M0 H0 ow m R q=>
  ⟨O0,M0,H0,ow,m,R.toRel,(Ss.pu R.toRel q).imp (aL.refl _) λc q vc H1 g1 hc=>by
   have R1:=R.mono g1
   cases c with
   |adr a=>
    cases hc
    obtain ⟨o,ho,q⟩:=Ss.ofO q
    obtain ⟨j,w,dd⟩:=o
    obtain ⟨i,e1,ho⟩:=Gz ho
    have e1:j=0+i:=e1
    rw [Nat.zero_add] at e1
    subst e1
    cases dd with
    |lst ds=>
     have q:Ss (gx X) E O0 M0 H0 ow H W (.ok (.nx,m.set j (.hd w a (.lst ds.reverse)))):=q
     obtain ⟨x1,x2,x3,xs,e4,e5⟩:=R1.slot j _ ho
     obtain ⟨R2,g2⟩:=R1.Wi (o:=.lst xs.reverse) (d':=.lst ds.reverse) ho (.inl ⟨_,rfl⟩) (λkp=>⟨_,L2.bY,(MF e5).kp R1.mutk kp⟩)
     exact ⟨.inl ⟨rfl,xs,SqL.of e4⟩,a,xs,rfl,rfl,e4,q _ _ _ R2 ((Go.refl g1).trans g2)⟩
    |_=>exact q.elim
   |_=>exact q.elim⟩
theorem Nu (hb:FE X E b fb)(he:FE X E e f)
  (hbase:attributeBase b "append" X.env (eval b X.env)=eval b X.env:=by rfl)
  (hfew:((backTo cpos (starEach [e] X.env)).all (λx=>!x.1) && (backToKw cpos (keywordEach [] X.env)).all (λx=>x.1.isSome) && decide ([e].length+([]:List Keyword).length+(if ([]:List Keyword).isEmpty then 0 else 1)<30))=true:=by rfl)
  (hline:(apos.endLine == cpos.line)=true:=by rfl) (hs:starEach [e] X.env=(false,eval e X.env)::starEach [] X.env:=by rfl) (hplain:(backTo cpos (starEach [] X.env)).any (·.1)=false:=by rfl)
  (hsw:swapsWith (.Call (.Attribute b "append" apos) [e] [] cpos) none pos.line X.env=pure false:=by rfl):
  FS X E (.Expr (.Call (.Attribute b "append" apos) [e] [] cpos) pos) (zU fb f):=
 eE (w6 (V4 PySem.F.plainAttrs_list PySem.F.slot_list_append PySem.F.type_list_append yG hb (lW he u5 hs) hbase hfew hline hs hplain) hsw) λW σ H hE=>xq5 hE λO0 M0 H0 ow m R q=>
  ⟨O0,M0,H0,ow,m,R.toRel,(Ss.pu R.toRel q).imp (aL.refl _) λc q vc H1 g1 hc=>by
   have R1:=R.mono g1
   cases c with
   |adr a=>
    cases hc
    obtain ⟨o,ho,q⟩:=Ss.ofO q
    obtain ⟨j,w,dd⟩:=o
    obtain ⟨i,e1,ho⟩:=Gz ho
    have e1:j=0+i:=e1
    rw [Nat.zero_add] at e1
    subst e1
    cases dd with
    |lst ds=>
     have q':Ss (gx X) E O0 M0 H0 ow H W (if ds.length<sizeLine then (f m).bind λd=>.ok (.nx,m.set j (.hd w a (.lst (ds++[d])))) else .stuck):=q
     clear q
     by_cases hz:ds.length<sizeLine
     ·rw [if_pos hz] at q'
      obtain ⟨x1,x2,x3,xs,e4,e5⟩:=R1.slot j _ ho
      refine ⟨.inl ⟨rfl,xs,SqL.of e4⟩,O0,M0,H0,ow,m,R1.toRel,(Ss.pu R1.toRel (q'.go (Go.refl g1))).imp (aL.refl _) λd q v H2 g2 hv=>?_⟩
      have R2:=R1.mono g2
      obtain ⟨R3,g3⟩:=R2.Wi (o:=.lst (xs++[v])) (d':=.lst (ds++[d])) ho (.inl ⟨_,rfl⟩) (λkp=>⟨_,L2.bY,(qY (e5.mono g2) (.cons hv .nil)).kp R2.mutk kp⟩)
      exact ⟨a,xs,v,rfl,rfl,g2 _ _ e4,by rw [cH e5];exact hz,q _ _ _ R3 ((Go.refl g2).trans g3)⟩
     ·rw [if_neg hz] at q';exact q'.elim
    |_=>exact q.elim
   |_=>exact q.elim⟩
end
def jw:D->Option D
 | .tup ds=>wy (.tup ds)
 |_=>none
section
variable {X:Cx}{E:XK}{e:Expr}{f:Me->Res D}{p pos:Pos}
theorem Nf {j:Nat}(hr:gw j X.A):qj X (.builtin "repr") (λxs H Q=>∃x d r,xs=[x]/\DV (gx X) (λ_=>False) H x d/\jw d=some r/\∀v,DV (gx X) (λ_=>False) H v r->Q v H):=by
 intro pins s σ H xs us Q I rv ⟨x,d,r,e,hx,hd,k⟩
 subst e
 obtain ⟨u,rfl,ru⟩:=rv.one
 cases d with
 |tup ds=>
  have hd:wy (.tup ds)=some r:=hd
  unfold wy at hd
  cases ep:toPy (.tup ds) with
  |none=>rw [ep] at hd;cases hd
  |some pd=>
   rw [ep] at hd
   obtain ⟨hp,rfl⟩:=oif hd
   obtain ⟨as,rd⟩:=Hd.DV.reads I (xX (.inl hx) ep) ru
   obtain ⟨a,xs,rfl,_,_⟩:=uX (.inl hx)
   cases ru
   have hu:=hr.units
   exact repr_of_reads' rd hp.1 (λz=>by rw [hp.2.1] at z;cases z) hr.gd (by have:=hp.2.2.2;omega) (λb o z=>z) (λh' v tk kp=>⟨.str pd.shown,H,I.kept kp,⟨v,rfl⟩,k _ (.str _)⟩) hp.2.2.1
 |_=>cases hd
theorem Lp {j:Nat}{x:Str}(hr:gw j X.A)(hg:Gl X x)(hm:X.mg x=none)(hv:bootBuiltins x=some (.builtin "repr"))(h:FV X E e f)(hn:x≠"__name__":=by decide)(hdb:(x == ("__debug__" : Str))=false:=by decide)
  (he:starEach [e] X.env=(false,eval e X.env)::starEach [] X.env:=by rfl) (hpl:(backTo pos (starEach [] X.env)).any (·.1)=false:=by rfl):FE X E (.Call (.Name x p) [e] [] pos) (fUn jw f):=
 cF (An (Nf hr) hg hm hv (lW h u5 he) hn hdb he hpl) λσ H Q hE=>xq5 hE λO0 M0 H0 ow m R q=>⟨O0,M0,H0,ow,m,R,q.bind.imp (aL.refl _) λd q v H1 g1 hv=>by
  obtain ⟨r,hr,k⟩:=q.ofO
  refine ⟨v,d,r,rfl,hv,hr,λu hu=>k u H1 g1 ?_⟩
  cases d with
  |tup ds=>
   have hd:wy (.tup ds)=some r:=hr
   unfold wy at hd
   split at hd
   ·obtain ⟨_,rfl⟩:=oif hd
    cases hu
    exact .str _
   ·cases hd
  |_=>cases hr⟩
end
end F
namespace K37
open PySem L2 Hd F
section
def j7 : Me → Res Bool :=
 (aQ gNe (aj 3) (fC (.int 0)))
def j8 : Me → Res (Fl × Me) :=
 (aU (bf 4 (aA fY (aj 2) (aj 3)))
 (aU (bf 2 (aD 3))
 (bf 3 (aD 4))))
def qy : Me → Res (Fl × Me) :=
 (rR j7 j8)
def nA (l_3 : Me → Res (Fl × Me)) : Me → Res (Fl × Me) :=
 (aU (bf 2 (bJ DY (aa (aj 0) az)))
 (aU (bf 3 (bJ DY (aa (aj 1) az)))
 (aU l_3
 (bT (aD 2)))))
def mQ : Me → Res (Fl × Me) :=
 (nA qy)
def d7:List D->Res (Bool×D):=c7 5 2 mQ
def Am (φ_common_divisor : List D → Res (Bool × D)) : Me → Res (Fl × Me) :=
 (aU (bf 2 (fFn φ_common_divisor (aa (aD 0) (aa (aD 1) az))))
 (aU (gIf (aQ gLt (aj 1) (fC (.int 0))) (bf 2 (fUn rJ (aj 2))) gNx)
 (bT (gm (aa (aA jL (aj 0) (aj 2)) (aa (aA jL (aj 1) (aj 2)) az))))))
def Cv : Me → Res (Fl × Me) :=
 (Am d7)
def gA:List D->Res (Bool×D):=c7 3 2 Cv
def J8 (φ_lowest : List D → Res (Bool × D)) : Me → Res (Fl × Me) :=
 (bT (fFn φ_lowest (aa (aA eX (aA eV (aA gIx (aj 0) (fC (.int 0))) (aA gIx (aj 1) (fC (.int 1)))) (aA eV (aA gIx (aj 1) (fC (.int 0))) (aA gIx (aj 0) (fC (.int 1))))) (aa (aA eV (aA gIx (aj 0) (fC (.int 1))) (aA gIx (aj 1) (fC (.int 1)))) az))))
def GX : Me → Res (Fl × Me) :=
 (J8 gA)
def GZ:List D->Res (Bool×D):=c7 2 2 GX
def G4 (φ_lowest : List D → Res (Bool × D)) : Me → Res (Fl × Me) :=
 (bT (fFn φ_lowest (aa (aA eV (aA gIx (aj 0) (fC (.int 0))) (aA gIx (aj 1) (fC (.int 0)))) (aa (aA eV (aA gIx (aj 0) (fC (.int 1))) (aA gIx (aj 1) (fC (.int 1)))) az))))
def zH : Me → Res (Fl × Me) :=
 (G4 gA)
def z8:List D->Res (Bool×D):=c7 2 2 zH
def Fo : Me → Res (Fl × Me) :=
 (bT (iI gLt (aA eV (aA gIx (aj 0) (fC (.int 0))) (aA gIx (aj 1) (fC (.int 1)))) (aA eV (aA gIx (aj 1) (fC (.int 0))) (aA gIx (aj 0) (fC (.int 1))))))
def Gh : Me → Res (Fl × Me) :=
 Fo
def uh:List D->Res (Bool×D):=c7 2 2 Gh
def pO : Me → Res (Fl × Me) :=
 (bf 1 (aA jL (aA eV (aj 1) (aA gIx (aj 2) (fC (.int 1)))) (fFn d7 (aa (aD 1) (aa (aA gIx (aj 2) (fC (.int 1))) az)))))
def xV : Me → Res (Fl × Me) :=
 (lZ (lq (aD 0)) (hName 2) pO)
def wF (l_2 : Me → Res (Fl × Me)) : Me → Res (Fl × Me) :=
 (aU (bf 1 (fC (.int 1)))
 (aU l_2
 (bT (aD 1))))
def tW : Me → Res (Fl × Me) :=
 (wF xV)
def qz:List D->Res (Bool×D):=c7 3 1 tW
def pZ : Me → Res D :=
 (aA eV (aA gIx (aj 0) (fC (.int 0))) (aA jL (aj 1) (aA gIx (aj 0) (fC (.int 1)))))
def qi : Me → Res D :=
 (cG 1 [1] (lq (aj 0)) (hName 0) eU pZ)
def tU (l_2 : Me → Res D) : Me → Res (Fl × Me) :=
 (lF l_2)
def pB : Me → Res (Fl × Me) :=
 (tU qi)
def dB:List D->Res (Bool×D):=c7 2 2 pB
def iH : Me → Res (Fl × Me) :=
 (aU (gIf (aQ gGt (bJ fH (aa (aj 0) az)) (fC (.int 8))) IK gNx)
 (gIf (aQ gGt (bJ fH (aa (aj 1) az)) (fC (.int 8))) IK gNx))
def iQ : Me → Res (Fl × Me) :=
 iH
def bU:List D->Res (Bool×D):=c7 2 2 iQ
def f9 : Me → Res D :=
 (fIf (aQ gEq (aj 0) (aj 1)) (fC (.int 1)) (fC (.int 0)))
def gh : Me → Res D :=
 (cG 1 [1] (qZ (aa (bJ fH (aa (cA "Corner" "scales" (aj 0)) az)) az)) (hName 0) eU f9)
def jQ (φ_made_whole : List D → Res (Bool × D)) (l_2 : Me → Res D) : Me → Res (Fl × Me) :=
 (aU (bf 4 l_2)
 (aU (bf 5 (aA gIx (cA "Corner" "scales" (aj 0)) (aj 1)))
 (lF (aA Bu (aA eX (fFn φ_made_whole (aa (aD 2) (aa (aD 5) az))) (aj 4)) (fFn φ_made_whole (aa (jr (aa (aD 3) az)) (aa (aD 5) az)))))))
def gQ : Me → Res (Fl × Me) :=
 (jQ dB gh)
def gR:List D->Res (Bool×D):=c7 6 4 gQ
def jl : Me → Res D :=
 (fUn rJ (aj 0))
def dM : Me → Res D :=
 (cG 1 [] (lq (aj 3)) (hName 0) eU jl)
def jq : Me → Res D :=
 (fC (.int 0))
def dN : Me → Res D :=
 (cG 1 [] (lq (cA "Corner" "scales" (aj 0))) (hName 0) eU jq)
def gG (φ_made_whole : List D → Res (Bool × D)) (l_2 : Me → Res D) (l_4 : Me → Res D) : Me → Res (Fl × Me) :=
 (aU (bf 3 (fFn φ_made_whole (aa (aD 2) (aa (aA gIx (cA "Corner" "wish_scales" (aj 0)) (aj 1)) az))))
 (lF (aA Bu (aA eX l_2 l_4) (jr (aa (fC (.int 0)) az)))))
def eF : Me → Res (Fl × Me) :=
 (gG dB dM dN)
def eG:List D->Res (Bool×D):=c7 4 3 eF
def oV : Me → Res D :=
 (fFn qz (aa (aA eX (aj 0) (jr (aa (aD 1) az))) az))
def jO : Me → Res D :=
 (cG 2 [] (qC (aa (aj 1) (aa (aj 2) az))) (nZ 2 (cL (hName 0) (cL (hName 1) nW))) eU oV)
def oU : Me → Res D :=
 (fFn qz (aa (aD 0) az))
def jK : Me → Res D :=
 (cG 1 [] (lq (aj 3)) (hName 0) eU oU)
def oY : Me → Res D :=
 (fMt "Corner" "first_line" gR (aj 1) (aa (aj 0) (aa (aA gIx (aj 2) (aj 0)) (aa (aA gIx (aj 3) (aj 0)) az))))
def jJ : Me → Res D :=
 (cG 1 [0, 1, 2] (qZ (aa (bJ fH (aa (aj 1) az)) az)) (hName 0) eU oY)
def pA : Me → Res D :=
 (fMt "Corner" "first_wish_line" eG (aj 2) (aa (aj 0) (aa (aj 1) az)))
def jR : Me → Res D :=
 (cG 2 [0] (u0 (aa (aj 3) az)) (nZ 2 (cL (hName 0) (cL (hName 1) nW))) eU pA)
def jT : Me → Res D :=
 (aA eX (cA "Corner" "wide" (aj 1)) (aj 0))
def jk : Me → Res D :=
 (cG 1 [0] (qZ (aa (bJ fH (aa (aj 1) az)) az)) (hName 0) eU jT)
def lD (l_2 : Me → Res D) (l_4 : Me → Res D) (l_6 : Me → Res D) (l_8 : Me → Res D) (l_10 : Me → Res D) : Me → Res (Me × D) :=
 (vY (j5 0 "Corner" "wide" (bJ fH (aa (aA gIx (aj 3) (fC (.int 0))) az)))
 (vY (j5 0 "Corner" "scales" l_2)
 (vY (j5 0 "Corner" "wish_scales" l_4)
 (vY (j5 0 "Corner" "lines" l_6)
 (vY (j5 0 "Corner" "wish_lines" l_8)
 (vY (j5 0 "Corner" "bottom" (fC (.int 1)))
 (λm => if mR "Corner" "" ((nU m 0).getD .non) = true then Fv l_10 m else .stuck)))))))
def gq : Me → Res (Me × D) :=
 lD jO jK jJ jR jk
def cg:List D->Res (List Str×List D×D):=Oq 4 4 "Corner" gq
def gk : Me → Res D :=
 (iI gEq (aA gIx (aj 0) (aj 1)) (fC (.int 0)))
def cZ : Me → Res D :=
 (cG 1 [2] (lq (fSl (cA "Corner" "wish_lines" (aj 0)) fO0 (fO1 (aj 1)))) (hName 0) eU gk)
def cX : Me → Res (Fl × Me) :=
 (aU (bf 3 (bJ Qk (aa cZ az)))
 (gIf (kW (fTv (aD 3)) (aQ gLt (aA gIx (aA gIx (cA "Corner" "wish_lines" (aj 0)) (aj 1)) (aj 2)) (fC (.int 0)))) (bT (aD 2)) gNx))
def cY : Me → Res (Fl × Me) :=
 (lZ (qZ (aa (aA eX (cA "Corner" "wide" (aj 0)) (bJ fH (aa (cA "Corner" "lines" (aj 0)) az))) az)) (hName 2) cX)
def fj (l_4 : Me → Res (Fl × Me)) : Me → Res (Fl × Me) :=
 (aU l_4
 (bT (fC .non)))
def eY : Me → Res (Fl × Me) :=
 (fj cY)
def aX:List D->Res (Bool×D):=c7 4 2 eY
def gK : Me → Res (Fl × Me) :=
 (aU (bf 4 (aA eV (aA gIx (aA gIx (cA "Corner" "lines" (aj 0)) (aj 1)) (fUn rJ (fC (.int 1)))) (aA gIx (aA gIx (cA "Corner" "lines" (aj 0)) (aj 2)) (aj 3))))
 (aU (bf 5 (aA eV (aA gIx (aA gIx (cA "Corner" "lines" (aj 0)) (aj 2)) (fUn rJ (fC (.int 1)))) (aA gIx (aA gIx (cA "Corner" "lines" (aj 0)) (aj 1)) (aj 3))))
 (aU (gIf (aQ gEq (aj 4) (aj 5)) (bT (iI gLt (aA gIx (cA "Corner" "held_columns" (aj 0)) (aj 1)) (aA gIx (cA "Corner" "held_columns" (aj 0)) (aj 2)))) gNx)
 (bT (iI gLt (aj 4) (aj 5))))))
def gO : Me → Res (Fl × Me) :=
 gK
def dR:List D->Res (Bool×D):=c7 6 4 gO
def bV : Me → Res (Fl × Me) :=
 (gIf (kW (aQ gGt (aA gIx (aj 4) (aj 1)) (fC (.int 0))) (oh (aQ gIs (aj 2) (fC .non)) (fTv (fMt "Corner" "ends_ahead" dR (aj 0) (aa (aj 3) (aa (aj 2) (aa (aj 1) az))))))) (bf 2 (aD 3)) gNx)
def iG : Me → Res (Fl × Me) :=
 (lZ (u0 (aa (cA "Corner" "lines" (aj 0)) az)) (nZ 2 (cL (hName 3) (cL (hName 4) nW))) bV)
def ji (l_2 : Me → Res (Fl × Me)) : Me → Res (Fl × Me) :=
 (aU (bf 2 (fC .non))
 (aU l_2
 (bT (aD 2))))
def jo : Me → Res (Fl × Me) :=
 (ji iG)
def bW:List D->Res (Bool×D):=c7 5 2 jo
def iy : Me → Res D :=
 (aA jL (aA yP (aA eV (aj 0) (aj 3)) (aA eV (aj 4) (aj 1))) (cA "Corner" "bottom" (aj 2)))
def kj : Me → Res D :=
 (cG 2 [0, 4, 5] (qC (aa (aj 1) (aa (aj 2) az))) (nZ 2 (cL (hName 0) (cL (hName 1) nW))) eU iy)
def mY (l_2 : Me → Res D) : Me → Res (Fl × Me) :=
 (aU (bf 4 (aA gIx (aj 2) (aj 3)))
 (aU (bf 5 (aA gIx (aj 1) (aj 3)))
 (lF l_2)))
def mU : Me → Res (Fl × Me) :=
 (mY kj)
def fQ:List D->Res (Bool×D):=c7 6 4 mU
def mq : Me → Res D :=
 (fMt "Corner" "cleared" fQ (aj 3) (aa (aj 0) (aa (aj 1) (aa (aj 2) az))))
def gf : Me → Res D :=
 (cG 1 [3, 2, 0] (lq (cA "Corner" "wish_lines" (aj 0))) (hName 0) eU mq)
def mz : Me → Res D :=
 (fMt "Corner" "cleared" fQ (aj 3) (aa (aj 0) (aa (aj 1) (aa (aj 2) az))))
def dY : Me → Res D :=
 (cG 1 [3, 2, 0] (lq (cA "Corner" "lines" (aj 0))) (hName 0) eU mz)
def o8 (l_2 : Me → Res D) (l_4 : Me → Res D) : Me → Res (Fl × Me) :=
 (aU (bf 3 (aA gIx (cA "Corner" "lines" (aj 0)) (aj 1)))
 (aU (j5 0 "Corner" "wish_lines" l_2)
 (aU (Aa 0 "Corner" "lines" l_4 1 3)
 (aU (vM 4 (cA "Corner" "held_columns" (aj 0)) (aD 1) (aD 2))
 (j5 0 "Corner" "bottom" (aA gIx (aj 3) (aj 2)))))))
def oZ : Me → Res (Fl × Me) :=
 (o8 gf dY)
def dO:List D->D->Addr×D->Res (D×D×D):=runM 5 3 oZ
def nj : Me → Res Bool :=
 (aQ uA (aj 2) (fC .non))
def d9 : Me → Res (Fl × Me) :=
 (aU (bf 3 (fMt "Corner" "ending_line" bW (cB 0 4) (aa (aj 2) az)))
 (aU (gIf (aQ gIs (aj 3) (fC .non)) (bT (aD 2)) gNx)
 (aU (Vf (fxM "Corner" "turn_about" dO 0 4 (aa (aD 3) (aa (aD 2) az))))
 (bf 2 (fMt "Corner" "helping_column" aX (cB 0 4) (aa (aj 1) az))))))
def mZ : Me → Res (Fl × Me) :=
 (rR nj d9)
def vA (φ_Corner_helping_column : List D → Res (Bool × D)) (l_3 : Me → Res (Fl × Me)) : Me → Res (Fl × Me) :=
 (aU (bf 2 (fMt "Corner" "helping_column" φ_Corner_helping_column (cB 0 4) (aa (aj 1) az)))
 (aU l_3
 (bT (fC .non))))
def uH : Me → Res (Fl × Me) :=
 (vA aX mZ)
def bB:List D->D->Addr×D->Res (D×D×D):=runM 5 2 uH
def qH : Me → Res D :=
 (fC (.tup [(.int 0), (.int 1)]))
def ig : Me → Res D :=
 (cG 1 [] (qZ (aa (cA "Corner" "wide" (aj 0)) az)) (hName 0) eU qH)
def fZ : Me → Res (Fl × Me) :=
 (gIf (aQ gLt (aj 3) (cA "Corner" "wide" (aj 0))) (yx 2 (aD 3) (fFn gA (aa (aD 4) (aa (cA "Corner" "bottom" (aj 0)) az)))) gNx)
def j9 : Me → Res (Fl × Me) :=
 (lZ (qC (aa (cA "Corner" "held_columns" (aj 0)) (aa (aD 1) az))) (nZ 2 (cL (hName 3) (cL (hName 4) nW))) fZ)
def mK (l_2 : Me → Res D) (l_4 : Me → Res (Fl × Me)) : Me → Res (Fl × Me) :=
 (aU (uc 2 l_2)
 (aU l_4
 (Kg 2)))
def jz : Me → Res (Fl × Me) :=
 (mK ig j9)
def dZ:List D->Res (Bool×D):=c7 5 2 jz
def pW : Me → Res D :=
 (aA gIx (aj 0) (fUn rJ (fC (.int 1))))
def lz : Me → Res D :=
 (cG 1 [] (lq (cA "Corner" "lines" (aj 0))) (hName 0) eU pW)
def tV (φ_Corner_amounts : List D → Res (Bool × D)) (l_2 : Me → Res D) : Me → Res (Fl × Me) :=
 (lF (gJ "Corner" "amounts" φ_Corner_amounts (aj 0) (aa l_2 az)))
def pJ : Me → Res (Fl × Me) :=
 (tV dZ lz)
def cu:List D->Res (Bool×D):=c7 1 1 pJ
def ju : Me → Res D :=
 (fUn rJ (aA gIx (aj 0) (aj 1)))
def eQ : Me → Res D :=
 (cG 1 [1] (lq (cA "Corner" "lines" (aj 0))) (hName 0) eU ju)
def kI (φ_Corner_amounts : List D → Res (Bool × D)) (l_2 : Me → Res D) : Me → Res (Fl × Me) :=
 (aU (uc 2 (gJ "Corner" "amounts" φ_Corner_amounts (aj 0) (aa l_2 az)))
 (aU (gIf (aQ gLt (aj 1) (cA "Corner" "wide" (aj 0))) (yx 2 (aD 1) (fC (.tup [(.int 1), (.int 1)]))) gNx)
 (Kg 2)))
def iJ : Me → Res (Fl × Me) :=
 (kI dZ eQ)
def bL:List D->Res (Bool×D):=c7 3 2 iJ
def lH : Me → Res D :=
 (fFn gA (aa (aA eV (aA gIx (aj 3) (aA eX (cA "Corner" "wide" (aj 4)) (aj 0))) (aj 1)) (aa (aD 2) az)))
def lN : Me → Res D :=
 (cG 2 [3, 2, 0] (u0 (aa (cA "Corner" "scales" (aj 0)) az)) (nZ 2 (cL (hName 0) (cL (hName 1) nW))) eU lH)
def oG (l_2 : Me → Res D) : Me → Res (Fl × Me) :=
 (aU (bf 2 (aA gIx (cA "Corner" "wish_lines" (aj 0)) (aj 1)))
 (aU (bf 3 (aA eV (cA "Corner" "bottom" (aj 0)) (aA gIx (cA "Corner" "wish_scales" (aj 0)) (aj 1))))
 (lF l_2)))
def oK : Me → Res (Fl × Me) :=
 (oG lN)
def bz:List D->Res (Bool×D):=c7 4 2 oK
def Et (φ_refuse_great_seeking : List D → Res (Bool × D)) (φ_Corner___init__ : List D → Res (List Str × List D × D)) (φ_Corner_climb : List D → D → Addr × D → Res (D × D × D)) (φ_Corner_fit : List D → Res (Bool × D)) (φ_Corner_way_along : List D → Res (Bool × D)) (φ_Corner_prices : List D → Res (Bool × D)) : Me → Res (Fl × Me) :=
 (aU (gEx (fFn φ_refuse_great_seeking (aa (aD 0) (aa (aD 2) az))))
 (Cu 3 5 "Corner" "held_columns" φ_Corner___init__ (aa (aD 0) (aa (aD 1) (aa (jr (aa (aD 2) az)) az)))
 (aU (u9 4 (fxM "Corner" "climb" φ_Corner_climb 3 5 (aa (fC (.int 0)) az)))
 (aU (gIf (aQ uA (aj 4) (fC .non)) (sJ (j6 (fC (.str "endless")) (gF (gJ "Corner" "fit" φ_Corner_fit (cB 3 5) az) (gF (gJ "Corner" "way_along" φ_Corner_way_along (cB 3 5) (aa (aj 4) az)) az)))) gNx)
 (sJ (j6 (fC (.str "best")) (gF (gJ "Corner" "fit" φ_Corner_fit (cB 3 5) az) (gF (gJ "Corner" "prices" φ_Corner_prices (cB 3 5) (aa (fC (.int 0)) az)) az))))))))
def zX : Me → Res (Fl × Me) :=
 (Et bU cg bB cu bL bz)
def jC:List D->Res (Bool×D):=c7 6 3 zX
def fG : Me → Res (Fl × Me) :=
 (gIf (aQ gLt (aj 3) (fC (.int 0))) (aU (bf 4 (fFn gA (aa (aA eV (fUn rJ (aj 3)) (aA gIx (cA "Corner" "wish_scales" (aj 0)) (fC (.int 0)))) (aa (aA eV (aj 2) (aA gIx (cA "Corner" "wish_scales" (aj 0)) (fC (.int 1)))) az))))
 (gIf (fTv (fFn uh (aa (aD 1) (aa (aD 4) az)))) (bf 1 (aD 4)) gNx)) gNx)
def oJ : Me → Res (Fl × Me) :=
 (lZ (qC (aa (fSl (aA gIx (cA "Corner" "wish_lines" (aj 0)) (fC (.int 0))) fO0 (fO1 (fUn rJ (fC (.int 1))))) (aa (fSl (aA gIx (cA "Corner" "wish_lines" (aj 0)) (fC (.int 1))) fO0 (fO1 (fUn rJ (fC (.int 1))))) az))) (nZ 2 (cL (hName 2) (cL (hName 3) nW))) fG)
def rm (l_2 : Me → Res (Fl × Me)) : Me → Res (Fl × Me) :=
 (aU (bf 1 (fC (.tup [(.int 0), (.int 1)])))
 (aU l_2
 (bT (aD 1))))
def nJ : Me → Res (Fl × Me) :=
 (rm oJ)
def fM:List D->Res (Bool×D):=c7 5 1 nJ
def qb : Me → Res D :=
 (fFn GZ (aa (aD 0) (aa (fFn z8 (aa (aD 2) (aa (aD 1) az))) az)))
def gW : Me → Res D :=
 (cG 2 [7] (qC (aa (fMt "Corner" "prices" bz (cB 4 9) (aa (fC (.int 1)) az)) (aa (aj 6) az))) (nZ 2 (cL (hName 0) (cL (hName 1) nW))) eU qb)
def uf (φ_refuse_great_seeking : List D → Res (Bool × D)) (φ_Corner___init__ : List D → Res (List Str × List D × D)) (φ_Corner_climb : List D → D → Addr × D → Res (D × D × D)) (φ_Corner_fit : List D → Res (Bool × D)) (φ_Corner_way_along : List D → Res (Bool × D)) (φ_Corner_prices : List D → Res (Bool × D)) (φ_Corner_lift : List D → Res (Bool × D)) (l_2 : Me → Res D) : Me → Res (Fl × Me) :=
 (aU (gEx (fFn φ_refuse_great_seeking (aa (aD 0) (aa (aD 2) az))))
 (Cu 4 9 "Corner" "held_columns" φ_Corner___init__ (aa (aD 0) (aa (aD 1) (aa (jr (aa (aD 2) (aa (aD 3) az))) az)))
 (aU (u9 5 (fxM "Corner" "climb" φ_Corner_climb 4 9 (aa (fC (.int 0)) az)))
 (aU (gIf (aQ uA (aj 5) (fC .non)) (sJ (j6 (fC (.str "endless")) (gF (gJ "Corner" "fit" φ_Corner_fit (cB 4 9) az) (gF (gJ "Corner" "way_along" φ_Corner_way_along (cB 4 9) (aa (aj 5) az)) az)))) gNx)
 (aU (uc 6 (gJ "Corner" "prices" φ_Corner_prices (cB 4 9) (aa (fC (.int 0)) az)))
 (aU (u9 5 (fxM "Corner" "climb" φ_Corner_climb 4 9 (aa (fC (.int 1)) az)))
 (aU (gIf (aQ uA (aj 5) (fC .non)) (sJ (j6 (fC (.str "endless next")) (gF (gJ "Corner" "fit" φ_Corner_fit (cB 4 9) az) (sW 6 (gF (gJ "Corner" "way_along" φ_Corner_way_along (cB 4 9) (aa (aj 5) az)) az))))) gNx)
 (aU (bf 7 (fMt "Corner" "lift" φ_Corner_lift (cB 4 9) az))
 (aU (uc 8 l_2)
 (sJ (j6 (fC (.str "best")) (gF (gJ "Corner" "fit" φ_Corner_fit (cB 4 9) az) (sW 6 (sW 8 (j6 (aD 7) az)))))))))))))))
def pF : Me → Res (Fl × Me) :=
 (uf bU cg bB cu bL bz fM gW)
def cC:List D->Res (Bool×D):=c7 10 4 pF
def lR : Me → Res (Fl × Me) :=
 (aU (gIf (aQ gLt (aj 1) (bJ fH (aa (aj 0) az))) (bT (aA gIx (aj 0) (aj 1))) gNx)
 (bT (fC (.int 0))))
def lX : Me → Res (Fl × Me) :=
 lR
def bu:List D->Res (Bool×D):=c7 2 2 lX
def mD : Me → Res Bool :=
 (aQ gNe (aj 1) (fC (.int 0)))
def ni : Me → Res (Fl × Me) :=
 (Wq 0 1 (aa (aD 1) (aa (aA fY (aj 0) (aj 1)) az)))
def sO : Me → Res (Fl × Me) :=
 (rR mD ni)
def p8 (l_3 : Me → Res (Fl × Me)) : Me → Res (Fl × Me) :=
 (aU l_3
 (bT (bJ DY (aa (aj 0) az))))
def qK : Me → Res (Fl × Me) :=
 (p8 sO)
def fX:List D->Res (Bool×D):=c7 2 2 qK
def rK (φ__law_divisor : List D → Res (Bool × D)) : Me → Res (Fl × Me) :=
 (aU (bf 2 (fFn φ__law_divisor (aa (aD 0) (aa (aD 1) az))))
 (bT (gm (aa (aA jL (aj 0) (aj 2)) (aa (aA jL (aj 1) (aj 2)) az)))))
def rZ : Me → Res (Fl × Me) :=
 (rK fX)
def jX:List D->Res (Bool×D):=c7 3 2 rZ
def iV (φ__law_lowest : List D → Res (Bool × D)) : Me → Res (Fl × Me) :=
 (aU (gIf (aQ gEq (aj 1) (fC (.int 0))) (bT (gm (aa (aA yP (aA fY (aj 0) (fC (.int 6))) (fC (.int 2))) (aa (fC (.int 1)) az)))) gNx)
 (aU (gIf (aQ gEq (aj 1) (fC (.int 1))) (bT (gm (aa (aA gIx (jr (aa (fC (.int 0)) (aa (fC (.int 1)) (aa (fC (.int 0)) (aa (fUn rJ (fC (.int 1))) (aa (fC (.int 0)) (aa (fC (.int 1)) az))))))) (aA fY (aj 0) (fC (.int 6)))) (aa (fC (.int 1)) az)))) gNx)
 (aU (gIf (aQ gEq (aj 1) (fC (.int 2))) (bT (fFn φ__law_lowest (aa (aA yP (aA fY (aj 0) (fC (.int 601))) (fC (.int 200))) (aa (aA eX (fC (.int 1)) (aA fY (aA jL (aj 0) (fC (.int 601))) (fC (.int 30)))) az)))) gNx)
 (bT (fFn φ__law_lowest (aa (aA yP (aA fY (aj 0) (aA eV (fC (.int 2)) (aA Ue (fC (.int 10)) (fC (.int 9))))) (aA Ue (fC (.int 10)) (fC (.int 9)))) (aa (aA eX (fC (.int 1)) (aA fY (aA jL (aj 0) (fC (.int 7))) (fC (.int 997)))) az)))))))
def iZ : Me → Res (Fl × Me) :=
 (iV jX)
def cN:List D->Res (Bool×D):=c7 2 2 iZ
def lM (φ__law_number : List D → Res (Bool × D)) : Me → Res (Fl × Me) :=
 (aU (gIf (kW (aQ gEq (aj 2) (fC (.int 1))) (aQ gLt (aA fY (aj 0) (fC (.int 4))) (fC (.int 3)))) (bT (gm (aa (fC (.int 0)) (aa (fC (.int 1)) az)))) gNx)
 (aU (bf 3 (fFn φ__law_number (aa (aA jL (aj 0) (fC (.int 4))) (aa (aD 1) az))))
 (bT (gm (aa (bJ DY (aa (aA gIx (aj 3) (fC (.int 0))) az)) (aa (aA gIx (aj 3) (fC (.int 1))) az))))))
def lE : Me → Res (Fl × Me) :=
 (lM cN)
def iu:List D->Res (Bool×D):=c7 4 3 lE
def vZ : Me → Res (Fl × Me) :=
 (gIf (oh (iU (fTv (Ga "int" (aj 3)))) (fTv (Ga "bool" (aj 3)))) (bT (fC (.bl false))) gNx)
def wg : Me → Res (Fl × Me) :=
 (lZ (Ji (aD 2)) (hName 3) vZ)
def nO : Me → Res (Fl × Me) :=
 (aU (gIf (oh (iU (fTv (Ga "tuple" (aj 2)))) (aQ gNe (bJ fH (aa (aj 2) az)) (fC (.int 2)))) (bT (fC (.bl false))) gNx)
 (aU wg
 (gIf (oh (aQ gLt (aA gIx (aj 2) (fC (.int 0))) (fC (.int 0))) (oh (aQ gLt (aA gIx (aj 2) (fC (.int 1))) (fC (.int 1))) (aQ gNe (fFn fX (aa (aA gIx (aj 2) (fC (.int 0))) (aa (aA gIx (aj 2) (fC (.int 1))) az))) (fC (.int 1))))) (bT (fC (.bl false))) gNx)))
def wj : Me → Res (Fl × Me) :=
 (lZ (lq (aD 0)) (hName 2) nO)
def uG (l_4 : Me → Res (Fl × Me)) : Me → Res (Fl × Me) :=
 (aU (gIf (oh (iU (fTv (Ga "list" (aj 0)))) (aQ gNe (bJ fH (aa (aj 0) az)) (aj 1))) (bT (fC (.bl false))) gNx)
 (aU l_4
 (bT (fC (.bl true)))))
def uQ : Me → Res (Fl × Me) :=
 (uG wj)
def dI:List D->Res (Bool×D):=c7 4 2 uQ
def pC : Me → Res (Fl × Me) :=
 (aU (bf 2 (aA eX (aA eV (aA eV (aj 2) (aA gIx (aj 4) (fC (.int 1)))) (aA gIx (aj 5) (fC (.int 1)))) (aA eV (aA eV (aA gIx (aj 4) (fC (.int 0))) (aA gIx (aj 5) (fC (.int 0)))) (aj 3))))
 (bf 3 (aA eV (aA eV (aj 3) (aA gIx (aj 4) (fC (.int 1)))) (aA gIx (aj 5) (fC (.int 1))))))
def sZ : Me → Res (Fl × Me) :=
 (lZ (qC (aa (aD 0) (aa (aD 1) az))) (nZ 2 (cL (hName 4) (cL (hName 5) nW))) pC)
def wu (l_2 : Me → Res (Fl × Me)) : Me → Res (Fl × Me) :=
 (aU (bf 2 (fC (.int 0)))
 (aU (bf 3 (fC (.int 1)))
 (aU l_2
 (bT (gm (aa (aD 2) (aa (aD 3) az)))))))
def sY : Me → Res (Fl × Me) :=
 (wu sZ)
def aW:List D->Res (Bool×D):=c7 6 2 sY
def uC : Me → Res (Fl × Me) :=
 (bT (gm (aa (aA yP (aA eV (aA gIx (aj 0) (fC (.int 0))) (aA gIx (aj 1) (fC (.int 1)))) (aA eV (aA gIx (aj 1) (fC (.int 0))) (aA gIx (aj 0) (fC (.int 1))))) (aa (aA eV (aA gIx (aj 0) (fC (.int 1))) (aA gIx (aj 1) (fC (.int 1)))) az))))
def uL : Me → Res (Fl × Me) :=
 uC
def bF:List D->Res (Bool×D):=c7 2 2 uL
def tR : Me → Res (Fl × Me) :=
 (bT (gm (aa (aA eV (aA gIx (aj 0) (fC (.int 0))) (aA gIx (aj 1) (fC (.int 0)))) (aa (aA eV (aA gIx (aj 0) (fC (.int 1))) (aA gIx (aj 1) (fC (.int 1)))) az))))
def tM : Me → Res (Fl × Me) :=
 tR
def gr:List D->Res (Bool×D):=c7 2 2 tM
def rT : Me → Res (Fl × Me) :=
 (gIf (aQ gGt (aA gIx (fFn bF (aa (fFn aW (aa (aD 3) (aa (aD 2) az))) (aa (aD 4) az))) (fC (.int 0))) (fC (.int 0))) (bT (fC (.bl false))) gNx)
def rO : Me → Res (Fl × Me) :=
 (lZ (qC (aa (aD 0) (aa (aD 1) az))) (nZ 2 (cL (hName 3) (cL (hName 4) nW))) rT)
def uU (l_2 : Me → Res (Fl × Me)) : Me → Res (Fl × Me) :=
 (aU l_2
 (bT (fC (.bl true))))
def qO : Me → Res (Fl × Me) :=
 (uU rO)
def oA:List D->Res (Bool×D):=c7 5 3 qO
def oN : Me → Res (Fl × Me) :=
 (gIf (aQ gGt (aA gIx (fFn aW (aa (aD 3) (aa (aD 2) az))) (fC (.int 0))) (fC (.int 0))) (bT (fC (.bl false))) gNx)
def uw : Me → Res (Fl × Me) :=
 (lZ (lq (aD 0)) (hName 3) oN)
def rW (φ__law_list : List D → Res (Bool × D)) (l_2 : Me → Res (Fl × Me)) : Me → Res (Fl × Me) :=
 (aU (gIf (iU (fTv (fFn φ__law_list (aa (aD 2) (aa (bJ fH (aa (aj 1) az)) az))))) (bT (fC (.bl false))) gNx)
 (aU l_2
 (bT (fC (.bl true)))))
def nM : Me → Res (Fl × Me) :=
 (rW dI uw)
def jW:List D->Res (Bool×D):=c7 4 3 nM
def nC : Me → Res D :=
 (aA gIx (aj 0) (aj 1))
def jA : Me → Res D :=
 (cG 1 [5] (lq (aj 0)) (hName 0) eU nC)
def mH : Me → Res (Fl × Me) :=
 (gIf (aQ gLt (aA gIx (fFn bF (aa (fFn aW (aa jA (aa (aD 4) az))) (aa (aD 6) az))) (fC (.int 0))) (fC (.int 0))) (bT (fC (.bl false))) gNx)
def mO : Me → Res (Fl × Me) :=
 (lZ (u0 (aa (aD 2) az)) (nZ 2 (cL (hName 5) (cL (hName 6) nW))) mH)
def qF (φ__law_list : List D → Res (Bool × D)) (φ__law_dot : List D → Res (Bool × D)) (φ__law_less : List D → Res (Bool × D)) (l_4 : Me → Res (Fl × Me)) : Me → Res (Fl × Me) :=
 (aU (gIf (iU (fTv (fFn φ__law_list (aa (aD 4) (aa (bJ fH (aa (aj 0) az)) az))))) (bT (fC (.bl false))) gNx)
 (aU l_4
 (bT (iI gEq (aA gIx (fFn φ__law_less (aa (fFn φ__law_dot (aa (aD 1) (aa (aD 4) az))) (aa (fFn φ__law_dot (aa (aD 2) (aa (aD 3) az))) az))) (fC (.int 0))) (fC (.int 0))))))
def lG : Me → Res (Fl × Me) :=
 (qF dI aW bF mO)
def lA:List D->Res (Bool×D):=c7 7 5 lG
def mJ : Me → Res D :=
 (aA gIx (aj 0) (aj 1))
def gY : Me → Res D :=
 (cG 1 [6] (lq (aj 0)) (hName 0) eU mJ)
def mX : Me → Res (Fl × Me) :=
 (aU (bf 8 (fFn bF (aa (fFn aW (aa gY (aa (aD 4) az))) (aa (fFn gr (aa (aD 5) (aa (aD 7) az))) az))))
 (gIf (aQ gLt (aA gIx (fFn bF (aa (aD 8) (aa (aA gIx (aA gIx (aj 2) (fC (.int 1))) (aj 6)) az))) (fC (.int 0))) (fC (.int 0))) (bT (fC (.bl false))) gNx))
def mC : Me → Res (Fl × Me) :=
 (lZ (u0 (aa (aA gIx (aj 2) (fC (.int 0))) az)) (nZ 2 (cL (hName 6) (cL (hName 7) nW))) mX)
def qg (φ__law_list : List D → Res (Bool × D)) (φ__law_dot : List D → Res (Bool × D)) (φ__law_less : List D → Res (Bool × D)) (φ__law_times : List D → Res (Bool × D)) (l_4 : Me → Res (Fl × Me)) : Me → Res (Fl × Me) :=
 (aU (gIf (oh (iU (fTv (fFn φ__law_list (aa (aD 4) (aa (bJ fH (aa (aj 0) az)) az))))) (iU (fTv (fFn φ__law_list (aa (jr (aa (aD 5) az)) (aa (fC (.int 1)) az)))))) (bT (fC (.bl false))) gNx)
 (aU l_4
 (aU (bf 8 (fFn φ__law_less (aa (fFn φ__law_dot (aa (aD 1) (aa (aD 4) az))) (aa (fFn φ__law_times (aa (aD 5) (aa (fFn φ__law_dot (aa (aA gIx (aj 2) (fC (.int 0))) (aa (aD 3) az))) az))) az))))
 (bT (iI gEq (aA gIx (fFn φ__law_less (aa (aD 8) (aa (fFn φ__law_dot (aa (aA gIx (aj 2) (fC (.int 1))) (aa (aD 3) az))) az))) (fC (.int 0))) (fC (.int 0)))))))
def lu : Me → Res (Fl × Me) :=
 (qg dI aW bF gr mC)
def jh:List D->Res (Bool×D):=c7 9 6 lu
def lU (φ__law_list : List D → Res (Bool × D)) (φ__law_dot : List D → Res (Bool × D)) (φ__law_fits : List D → Res (Bool × D)) (φ__law_is_way : List D → Res (Bool × D)) (φ__law_is_best : List D → Res (Bool × D)) (φ__law_is_next : List D → Res (Bool × D)) : Me → Res (Fl × Me) :=
 (aU (gIf (oh (iU (fTv (Ga "tuple" (aj 0)))) (oh (aQ gLt (bJ fH (aa (aj 0) az)) (fC (.int 3))) (iU (fTv (fFn φ__law_list (aa (aA gIx (aj 0) (fC (.int 1))) (aa (bJ fH (aa (aA gIx (aj 3) (fC (.int 0))) az)) az))))))) (bT (fC (.bl false))) gNx)
 (aU (gIf (iU (fTv (fFn φ__law_fits (aa (aD 1) (aa (aD 2) (aa (aA gIx (aj 0) (fC (.int 1))) az)))))) (bT (fC (.bl false))) gNx)
 (aU (gIf (aQ gEq (aA gIx (aj 0) (fC (.int 0))) (fC (.str "endless"))) (bT (Fw (iI gEq (bJ fH (aa (aj 0) az)) (fC (.int 3))) (Fw (fFn φ__law_is_way (aa (aD 1) (aa (aA gIx (aj 3) (fC (.int 0))) (aa (aA gIx (aj 0) (fC (.int 2))) az)))) (iI gGt (aA gIx (fFn φ__law_dot (aa (aA gIx (aj 3) (fC (.int 0))) (aa (aA gIx (aj 0) (fC (.int 2))) az))) (fC (.int 0))) (fC (.int 0)))))) gNx)
 (aU (gIf (iU (fTv (fFn φ__law_is_best (aa (aD 1) (aa (aD 2) (aa (aA gIx (aj 3) (fC (.int 0))) (aa (aA gIx (aj 0) (fC (.int 1))) (aa (aA gIx (aj 0) (fC (.int 2))) az)))))))) (bT (fC (.bl false))) gNx)
 (aU (gIf (aQ gEq (aA gIx (aj 0) (fC (.int 0))) (fC (.str "endless next"))) (aU (gIf (oh (aQ gNe (bJ fH (aa (aj 0) az)) (fC (.int 4))) (iU (fTv (fFn φ__law_is_way (aa (aD 1) (aa (aA gIx (aj 3) (fC (.int 0))) (aa (aA gIx (aj 0) (fC (.int 3))) az))))))) (bT (fC (.bl false))) gNx)
 (bT (Fw (iI gEq (aA gIx (fFn φ__law_dot (aa (aA gIx (aj 3) (fC (.int 0))) (aa (aA gIx (aj 0) (fC (.int 3))) az))) (fC (.int 0))) (fC (.int 0))) (iI gGt (aA gIx (fFn φ__law_dot (aa (aA gIx (aj 3) (fC (.int 1))) (aa (aA gIx (aj 0) (fC (.int 3))) az))) (fC (.int 0))) (fC (.int 0)))))) gNx)
 (aU (gIf (oh (aQ gNe (aA gIx (aj 0) (fC (.int 0))) (fC (.str "best"))) (aQ gNe (bJ fH (aa (aj 0) az)) (fC (.int 5)))) (bT (fC (.bl false))) gNx)
 (bT (fFn φ__law_is_next (aa (aD 1) (aa (aD 2) (aa (aD 3) (aa (aA gIx (aj 0) (fC (.int 1))) (aa (aA gIx (aj 0) (fC (.int 3))) (aa (aA gIx (aj 0) (fC (.int 4))) az))))))))))))))
def gD : Me → Res (Fl × Me) :=
 (lU dI aW oA jW lA jh)
def cD:List D->Res (Bool×D):=c7 4 4 gD
def rC : Me → Res D :=
 (fFn cN (aa (fFn bu (aa (aD 2) (aa (aA eX (aj 3) (aj 0)) az))) (aa (aD 1) az)))
def jY : Me → Res D :=
 (cG 1 [3, 0, 1] (qZ (aa (aj 2) az)) (hName 0) eU rC)
def uW (φ__law_cell_at : List D → Res (Bool × D)) (l_2 : Me → Res D) : Me → Res (Fl × Me) :=
 (aU (bf 5 (fFn φ__law_cell_at (aa (aD 0) (aa (fC (.int 1)) az))))
 (aU (gIf (aQ gEq (aA fY (aj 5) (fC (.int 6))) (fC (.int 1))) (bT (aA vm (jr (aa (gm (aa (fC (.int 0)) (aa (fC (.int 1)) az))) az)) (aj 2))) gNx)
 (aU (gIf (kW (aQ gEq (aA fY (aj 5) (fC (.int 6))) (fC (.int 2))) (aQ gNe (aj 4) (jr az))) (lF (bJ qe (aa (aA gIx (aj 4) (aA fY (aA jL (aj 5) (fC (.int 6))) (bJ fH (aa (aj 4) az)))) az))) gNx)
 (lF l_2))))
def qU : Me → Res (Fl × Me) :=
 (uW bu jY)
def lg:List D->Res (Bool×D):=c7 6 5 qU
def Ew : Me → Res D :=
 (fFn iu (aa (fFn bu (aa (aD 3) (aa (aA eX (aj 4) (aj 0)) az))) (aa (aD 1) (aa (aD 2) az))))
def yc : Me → Res D :=
 (cG 1 [4, 5, 0, 6] (qZ (aa (aj 2) az)) (hName 0) eU Ew)
def Er : Me → Res D :=
 (fFn cN (aa (fFn bu (aa (aD 2) (aa (aA eX (aj 3) (aj 0)) az))) (aa (aD 1) az)))
def yd : Me → Res D :=
 (cG 1 [4, 0, 6] (qZ (aa (aj 3) az)) (hName 0) eU Er)
def Fy : Me → Res (Fl × Me) :=
 (aU (zQ 8 yd)
 (bf 6 (aA eX (aj 6) (aj 3))))
def Eg : Me → Res (Fl × Me) :=
 (lZ (qZ (aa (aj 2) az)) (hName 9) Fy)
def Eu : Me → Res D :=
 (fFn cN (aa (aA eX (fFn bu (aa (aD 2) (aa (aA eX (aj 3) (aj 0)) az))) (aA eV (aA eV (fC (.int 3)) (aj 0)) (aj 0))) (aa (aD 1) az)))
def xZ : Me → Res D :=
 (cG 1 [4, 0, 6] (qZ (aa (aj 3) az)) (hName 0) eU Eu)
def LK : Me → Res D :=
 (bJ qe (aa (aj 0) az))
def uV : Me → Res D :=
 (cG 1 [] (lq (aj 8)) (hName 0) eU LK)
def jg : Me → Res (Fl × Me) :=
 (aU (zL (aD 16))
 (zU (aD 16) (fC .non)))
def nR : Me → Res (Fl × Me) :=
 (lZ (Ji (fSl (aj 13) (fO1 (fC (.int 1))) (fO1 (fC (.int 4))))) (hName 16) jg)
def Su (φ_solve : List D → Res (Bool × D)) (φ_solve_next : List D → Res (Bool × D)) (φ__law_cell_at : List D → Res (Bool × D)) (φ__law_dot : List D → Res (Bool × D)) (φ__law_less : List D → Res (Bool × D)) (φ__law_right : List D → Res (Bool × D)) (φ__law_wish : List D → Res (Bool × D)) (l_2 : Me → Res D) (l_6 : Me → Res (Fl × Me)) (l_8 : Me → Res D) (l_10 : Me → Res D) (l_12 : Me → Res (Fl × Me)) : Me → Res (Fl × Me) :=
 (aU (bf 1 (fFn φ__law_cell_at (aa (aD 0) (aa (fC (.int 0)) az))))
 (aU (bf 2 (aA fY (aj 1) (fC (.int 9))))
 (aU (bf 3 (aA eX (fC (.int 1)) (aA fY (aA jL (aj 1) (fC (.int 9))) (fC (.int 8)))))
 (aU (bf 4 (aA fY (aA jL (aj 1) (fC (.int 72))) (fC (.int 4))))
 (aU (bf 5 (aA fY (aA jL (aj 1) (fC (.int 288))) (fC (.int 2))))
 (aU (bf 6 (aA eX (fC (.int 2)) (aj 3)))
 (aU (bf 7 l_2)
 (aU (bf 6 (aA eX (aj 6) (aj 2)))
 (aU (uc 8 (jr az))
 (aU l_6
 (Xj 8 (aU (bf 10 (fFn φ__law_wish (aa (aD 0) (aa (fC (.int 2)) (aa (aD 3) (aa (aD 4) (aa (aD 8) az)))))))
 (aU (bf 11 l_8)
 (aU (bf 12 (gm (aa l_10 (aa (bJ qe (aa (aj 7) az)) (aa (bJ qe (aa (aj 10) az)) (aa (bJ qe (aa (aj 11) az)) az))))))
 (HJ 13 18 φ_solve_next (aa (aA gIx (aj 12) (fC (.int 0))) (aa (aA gIx (aj 12) (fC (.int 1))) (aa (aA gIx (aj 12) (fC (.int 2))) (aa (aA gIx (aj 12) (fC (.int 3))) az))))
 (aU (gIf (oh (aQ gNe (aj 12) (gm (aa (aD 8) (aa (aD 7) (aa (aD 10) (aa (aD 11) az)))))) (iU (fTv (rE φ__law_right (aa (fK 13 [18, 19, 20]) (aa (aj 8) (aa (aj 7) (aa (gm (aa (aD 10) (aa (aD 11) az))) az)))))))) (bT (fC (.bl false))) gNx)
 (aU (bf 14 (fUn jw (fK 13 [18, 19, 20])))
 (aU (bf 15 (rE φ__law_dot (aa (aj 10) (aa (zE 18 (aA gIx (aj 13) (fC (.int 1)))) az))))
 (aU l_12
 (aU (bf 13 (fFn φ_solve_next (aa (aD 8) (aa (aD 7) (aa (aD 10) (aa (aD 11) az))))))
 (aU (gIf (aQ gNe (fUn jw (aj 13)) (aj 14)) (bT (fC (.bl false))) gNx)
 (aU (bf 17 (fFn φ_solve (aa (aD 8) (aa (aD 7) (aa (aD 10) az)))))
 (aU (gIf (aQ gNe (iI gEq (aA gIx (aj 17) (fC (.int 0))) (fC (.str "endless"))) (iI gEq (aA gIx (aj 13) (fC (.int 0))) (fC (.str "endless")))) (bT (fC (.bl false))) gNx)
 (bT (fOr (iI gEq (aA gIx (aj 13) (fC (.int 0))) (fC (.str "endless"))) (iI gEq (aA gIx (fFn φ__law_less (aa (fFn φ__law_dot (aa (aD 10) (aa (aA gIx (aj 17) (fC (.int 1))) az))) (aa (aD 15) az))) (fC (.int 0))) (fC (.int 0))))))))))))))))))))))))))))
def KH : Me → Res (Fl × Me) :=
 (Su jC cC bu aW bF cD lg yc Eg xZ uV nR)
def VN:List D->Res (Bool×D):=c7 21 1 KH
end
end K37
namespace Hd
def gI (a b:Int):Int:=(Int.gcd a b:Nat)
theorem Uy {a b:Int}(ha:0<=a)(hb:0<b):gI b (a % b)=gI a b:=by
 unfold gI Int.gcd
 have e:(a % b).natAbs=a.natAbs % b.natAbs:=by
  obtain ⟨n,rfl⟩:=Int.eq_ofNat_of_zero_le ha
  obtain ⟨m,rfl⟩:=Int.eq_ofNat_of_zero_le (Int.le_of_lt hb)
  rfl
 rw [e,Nat.gcd_comm a.natAbs b.natAbs,Nat.gcd_rec b.natAbs a.natAbs,Nat.gcd_comm]
theorem Lf {a:Int}(ha:0<=a):gI a 0=a:=by
 unfold gI
 rw [Int.gcd_zero_right]
 omega
theorem Xz (a b:Int):gI (if a<0 then -a else a) (if b<0 then -b else b)=gI a b:=by
 unfold gI Int.gcd
 have h:∀x:Int,(if x<0 then -x else x).natAbs=x.natAbs:=λx=>by split<;>omega
 rw [h,h]
theorem V2 (a b:Int):0<=gI a b:=Int.natCast_nonneg _
theorem uo {a b:Int}(hb:b≠0):0<gI a b:=by
 have:0<Int.gcd a b:=Nat.pos_of_ne_zero λh=>hb (Int.gcd_eq_zero_iff.mp h).2
 unfold gI;omega
theorem Eb (a b:Int):gI a b ∣ a:=Int.gcd_dvd_left a b
theorem w5 (a b:Int):gI a b ∣ b:=Int.gcd_dvd_right a b
theorem Zg {a b:Int}(hb:b≠0):(gI a b).natAbs<=b.natAbs:=by
 have h:(gI a b).natAbs ∣ b.natAbs:=Int.natAbs_dvd_natAbs.mpr (w5 a b)
 exact Nat.le_of_dvd (by omega) h
def dv (t b:Int):Int:=if b<0 then -gI t b else gI t b
theorem Qc {t b:Int}(hb:b≠0):dv t b≠0:=by
 have:=uo (a:=t) hb
 unfold dv;split<;>omega
theorem Yg (t b:Int):(dv t b).natAbs=(gI t b).natAbs:=by unfold dv;split<;>omega
def lt (t b:Int):Int:=t.fdiv (dv t b)
def lb (t b:Int):Int:=b.fdiv (dv t b)
theorem BZ {a d q:Int}(hd:d≠0)(h:a=d*q):a.fdiv d=q:=by
 rw [h]
 exact Int.mul_fdiv_cancel_left q hd
theorem UT (t b:Int):dv t b ∣ t:=by
 unfold dv;split
 ·exact Int.neg_dvd.mpr (Eb t b)
 ·exact Eb t b
theorem Q5 (t b:Int):dv t b ∣ b:=by
 unfold dv;split
 ·exact Int.neg_dvd.mpr (w5 t b)
 ·exact w5 t b
theorem lt_mul {t b:Int}(hb:b≠0):dv t b*lt t b=t:=by
 obtain ⟨q,hq⟩:=UT t b
 have e:lt t b=q:=BZ (Qc hb) hq
 rw [e];exact hq.symm
theorem Gf {t b:Int}(hb:b≠0):dv t b*lb t b=b:=by
 obtain ⟨q,hq⟩:=Q5 t b
 have e:lb t b=q:=BZ (Qc hb) hq
 rw [e];exact hq.symm
theorem JB {t b:Int}(hb:b≠0):1<=lb t b:=by
 have e:=Gf (t:=t) hb
 have g:=uo (a:=t) hb
 by_cases h:lb t b<=0
 ·exfalso
  unfold dv at e
  split at e
  ·have:0<=-gI t b*lb t b:=Int.mul_nonneg_of_nonpos_of_nonpos (by omega) h
   omega
  ·have:gI t b*lb t b<=0:=Int.mul_nonpos_of_nonneg_of_nonpos (by omega) h
   omega
 ·omega
theorem zP {t b:Int}(hb:b≠0):gI (lt t b) (lb t b)=1:=by
 have e1:=lt_mul (t:=t) hb
 have e2:=Gf (t:=t) hb
 have g:=uo (a:=t) hb
 have q:gI t b=(dv t b).natAbs*gI (lt t b) (lb t b):=by
  have:Int.gcd (dv t b*lt t b) (dv t b*lb t b)=(dv t b).natAbs*Int.gcd (lt t b) (lb t b):=Int.gcd_mul_left ..
  rw [e1,e2] at this
  unfold gI
  rw [this]
  push_cast
  rfl
 have ed:((dv t b).natAbs:Int)=gI t b:=by rw [Yg];have:=V2 t b;omega
 rw [ed] at q
 have h:gI t b*gI (lt t b) (lb t b)=gI t b*1:=by rw [Int.mul_one];exact q.symm
 exact Int.eq_of_mul_eq_mul_left (by omega) h
theorem Dy {t b:Int}(hb:b≠0):lt t b*b=t*lb t b:=by
 have e1:=lt_mul (t:=t) hb
 have e2:=Gf (t:=t) hb
 calc lt t b*b=lt t b*(dv t b*lb t b):=by rw [e2]
  _=(dv t b*lt t b)*lb t b:=by rw [← Int.mul_assoc,Int.mul_comm (lt t b) (dv t b)]
  _=t*lb t b:=by rw [e1]
theorem Kl {t b:Int}(hb:b≠0):(lt t b).natAbs<=t.natAbs:=by
 have e:=lt_mul (t:=t) hb
 have h:(lt t b).natAbs ∣ t.natAbs:=Int.natAbs_dvd_natAbs.mpr ⟨dv t b,by rw [Int.mul_comm];exact e.symm⟩
 by_cases z:t=0
 ·have:lt t b=0:=by
   have e':dv t b*lt t b=0:=e.trans z
   rcases Int.mul_eq_zero.mp e' with h | h
   ·exact absurd h (Qc hb)
   ·exact h
  rw [this];exact Nat.zero_le _
 ·exact Nat.le_of_dvd (by omega) h
theorem Ln {t b:Int}(hb:b≠0):(lb t b).natAbs<=b.natAbs:=by
 have e:=Gf (t:=t) hb
 have h:(lb t b).natAbs ∣ b.natAbs:=Int.natAbs_dvd_natAbs.mpr ⟨dv t b,by rw [Int.mul_comm];exact e.symm⟩
 exact Nat.le_of_dvd (by omega) h
theorem uq {q p s:Int}(c:Int.gcd p q=1)(h:q ∣ p*s):q ∣ s:=by
 have h2:q.natAbs ∣ p.natAbs*s.natAbs:=by rw [← Int.natAbs_mul];exact Int.natAbs_dvd_natAbs.mpr h
 have c2:Nat.Coprime q.natAbs p.natAbs:=by unfold Nat.Coprime;rw [Nat.gcd_comm];exact c
 exact Int.natAbs_dvd_natAbs.mp (Nat.Coprime.dvd_of_dvd_mul_left c2 h2)
theorem Iv {p q r s:Int}(hq:1<=q)(hs:1<=s)(g1:gI p q=1)(g2:gI r s=1)(h:p*s=r*q):p=r/\q=s:=by
 have c1:Int.gcd p q=1:=by unfold gI at g1;omega
 have c2:Int.gcd r s=1:=by unfold gI at g2;omega
 have d1:q ∣ s:=by
  have:q ∣ p*s:=⟨r,by rw [h,Int.mul_comm]⟩
  exact uq c1 this
 have d2:s ∣ q:=by
  have:s ∣ r*q:=⟨p,by rw [← h,Int.mul_comm]⟩
  exact uq c2 this
 have e:q=s:=Int.dvd_antisymm (by omega) (by omega) d1 d2
 subst e
 exact ⟨Int.eq_of_mul_eq_mul_right (by omega) h,rfl⟩
theorem cV {a b:Int}{m n:Nat}(ha:a.natAbs<2 ^ m)(hb:b.natAbs<2 ^ n):(a*b).natAbs<2 ^ (m+n):=by
 rw [Int.natAbs_mul,Nat.pow_add]
 exact Nat.mul_lt_mul'' ha hb
theorem W3 {a b:Int}{m:Nat}(ha:a.natAbs<2 ^ m)(hb:b.natAbs<2 ^ m):(a+b).natAbs<2 ^ (m+1):=by
 rw [Nat.pow_succ]
 omega
theorem sub_lt {a b:Int}{m:Nat}(ha:a.natAbs<2 ^ m)(hb:b.natAbs<2 ^ m):(a-b).natAbs<2 ^ (m+1):=by
 rw [Nat.pow_succ]
 omega
theorem dh {n m k:Nat}(h:n<2 ^ m)(hk:m<=k):n<2 ^ k:=Nat.lt_of_lt_of_le h (Nat.pow_le_pow_right (by decide) hk)
abbrev Q2:=Int×Int
end Hd
namespace F
open PySem L2 Hd
@[simp] theorem szl:sizeLine=16777216:=by decide
theorem vX:∀{a b:List Char},a.map Char.toNat=b.map Char.toNat->a=b
 |[],[],_=>rfl
 |[],_::_,h=>by simp at h
 |_::_,[],h=>by simp at h
 |x::a,y::b,h=>by
  have h':x.toNat=y.toNat/\a.map Char.toNat=b.map Char.toNat:=by simpa using h
  rw [Char.toNat_inj.mp h'.1,vX h'.2]
@[simp] theorem aae {a b:String}:(Str.ofString a=Str.ofString b)↔a=b:=by
 constructor
 ·intro h
  rw [Str.ofString_eq_toList,Str.ofString_eq_toList] at h
  have h2:(a.toList.map Char.toNat).toArray=(b.toList.map Char.toNat).toArray:=congrArg Str.cps h
  have h3:a.toList.map Char.toNat=b.toList.map Char.toNat:=by simpa using congrArg Array.toList h2
  exact String.toList_inj.mp (vX h3)
 ·intro h;rw [h]
mutual
def okD:D->Bool
 | .non | .bl _ | .int _=>true
 | .str x=>PyData.strOk x
 | .tup xs=>zG xs
 | .lst xs=>zG xs
 | .exc _ | .dct _ _ | .dcu _ _ | .dcf _ _ | .adr _ | .ins _ _ _=>false
def zG:List D->Bool
 |[]=>true
 |x::xs=>okD x && zG xs
end
mutual
def qL:D->Nat
 | .non | .bl _ | .int _ | .str _=>0
 | .tup xs=>sH xs+1
 | .lst xs=>sH xs+1
 | .exc _ | .dct _ _ | .dcu _ _ | .dcf _ _ | .adr _ | .ins _ _ _=>0
def sH:List D->Nat
 |[]=>0
 |x::xs=>max (qL x) (sH xs)
end
mutual
theorem Mt:∀d:D,okD d=true->∃p,toPy d=some p/\p.canLay0=true/\p.depth=qL d/\PyData.eqv p p=true
 | .non,_=>⟨.none,by simp [toPy],by simp [PyData.canLay0],by simp [PyData.depth,qL],by simp [PyData.eqv]⟩
 | .bl b,_=>⟨.bool b,by simp [toPy],by simp [PyData.canLay0],by simp [PyData.depth,qL],by simp [PyData.eqv]⟩
 | .int b,_=>⟨.int b,by simp [toPy],by simp [PyData.canLay0],by simp [PyData.depth,qL],by simp [PyData.eqv]⟩
 | .str b,h=>⟨.str b,by simp [toPy],by simpa [PyData.canLay0,okD] using h,by simp [PyData.depth,qL],by simp [PyData.eqv]⟩
 | .tup xs,h=>by
  obtain ⟨ps,h1,h2,h3,h4⟩:=xY xs (by simpa [okD] using h)
  exact ⟨.tuple ps,by simp [toPy,h1],by simpa [PyData.canLay0] using h2,by simp [PyData.depth,qL,h3],by simpa [PyData.eqv] using h4⟩
 | .lst xs,h=>by
  obtain ⟨ps,h1,h2,h3,h4⟩:=xY xs (by simpa [okD] using h)
  exact ⟨.list ps,by simp [toPy,h1],by simpa [PyData.canLay0] using h2,by simp [PyData.depth,qL,h3],by simpa [PyData.eqv] using h4⟩
 | .exc _,h=>by simp [okD] at h
 | .dct _ _,h=>by simp [okD] at h
 | .dcu _ _,h=>by simp [okD] at h
 | .adr _,h=>by simp [okD] at h
 | .ins _ _ _,h=>by simp [okD] at h
 | .dcf _ _,h=>by simp [okD] at h
theorem xY:∀ds:List D,zG ds=true->∃ps,ur ds=some ps/\PyData.canLayAll0 ps=true/\PyData.depthAll ps=sH ds/\PyData.eqvAll ps ps=true
 |[],_=>⟨[],by simp [ur],by simp [PyData.canLayAll0],by simp [PyData.depthAll,sH],by simp [PyData.eqvAll]⟩
 |d::ds,h=>by
  have h':okD d=true/\zG ds=true:=by simpa [zG] using h
  obtain ⟨p,h1,h2,h3,h4⟩:=Mt d h'.1
  obtain ⟨ps,k1,k2,k3,k4⟩:=xY ds h'.2
  exact ⟨p::ps,by simp [ur,h1,k1],by simp [PyData.canLayAll0,h2,k2],by simp [PyData.depthAll,sH,h3,k3],by simp [PyData.eqvAll,h4,k4]⟩
end
theorem yW {d:D}(h:okD d=true)(hd:qL d<=64):uT d d=some true:=by
 obtain ⟨p,h1,h2,h3,h4⟩:=Mt d h
 unfold uT
 rw [h1]
 have:SeqAt.shaped p=true:=by unfold SeqAt.shaped;rw [h2,decide_eq_true (by omega)];rfl
 simp [this,h4]
theorem R5 {d:D}(h:okD d=true)(hd:qL d<=64):gEq d d=some true:=by
 cases d with
 |non=>rfl
 |bl b=>simp [gEq]
 |int b=>simp [gEq]
 |str b=>simp [gEq]
 |tup xs=>exact yW h hd
 |lst xs=>exact yW h hd
 |exc c=>simp [okD] at h
 |dct _ _=>simp [okD] at h
 |dcu _ _=>simp [okD] at h
 |adr _=>simp [okD] at h
 |ins _ _ _=>simp [okD] at h
 |dcf _ _=>simp [okD] at h
theorem Ht {d:D}(h:okD d=true)(hd:qL d<=64):gNe d d=some false:=by unfold gNe;rw [R5 h hd];rfl
@[simp] theorem aad (i j:Int):gEq (.int i) (.int j)=some (decide (i=j)):=rfl
@[simp] theorem aaf (i j:Str):gEq (.str i) (.str j)=some (decide (i=j)):=rfl
@[simp] theorem aas (i j:Bool):gEq (.bl i) (.bl j)=some (decide (i=j)):=rfl
@[simp] theorem aac (i j:Int):gNe (.int i) (.int j)=some (!decide (i=j)):=rfl
@[simp] theorem aab (i j:Str):gNe (.str i) (.str j)=some (!decide (i=j)):=rfl
@[simp] theorem aag (i j:Bool):gNe (.bl i) (.bl j)=some (!decide (i=j)):=rfl
theorem Hm {h:D->Me->Option Me}{g:Me->Res (Fl×Me)}(P:Nat->Me->Prop):∀(ds:List D) (i:Nat) (m:Me),P i m->(∀j d m,ds[j]? = some d->P (i+j) m->∃m1 m2,h d m=some m1/\g m1=.ok (.nx,m2)/\P (i+j+1) m2)->
  ∃m',jF h g ds m=.ok (.nx,m')/\P (i+ds.length) m'
 |[],i,m,p,_=>⟨m,rfl,p⟩
 |d::ds,i,m,p,st=>by
  obtain ⟨m1,m2,e1,e2,p2⟩:=st 0 d m rfl p
  obtain ⟨m',e,q⟩:=Hm P ds (i+1) m2 p2 λj d m hj p=>by
   have:=st (j+1) d m (by simpa using hj) (by rw [show i+(j+1)=i+1+j by omega];exact p)
   rw [show i+(j+1)+1=i+1+j+1 by omega] at this
   exact this
  refine ⟨m',?_,by rw [show i+(d::ds).length=i+1+ds.length by simp;omega];exact q⟩
  unfold jF
  rw [e1]
  simp only [e2]
  exact e
def qD (d:Q2):D:=.tup [.int d.1,.int d.2]
mutual
inductive Gm where
 |fin (d:Q2)
 |deal (n:Str) (ws:Ws)
 |move (s:Int) (n:Str) (ws:Ws)
inductive Ws where
 |nil
 |cons (l:D) (g:Gm) (r:Ws)
end
mutual
def dp:Gm->Nat
 | .fin _=>0
 | .deal _ ws=>dpW ws+1
 | .move _ _ ws=>dpW ws+1
def dpW:Ws->Nat
 | .nil=>0
 | .cons _ g r=>max (dp g) (dpW r)
end
end F
namespace K37
open PySem L2 Hd F
theorem zY {t:Me->Res Bool}{b:Me->Res (Fl×Me)}{n:Nat}{m m':Me}{r:Res (Fl×Me)}(h1:t m=.ok true)(h2:b m=.ok (.nx,m'))(h3:wh t b n m'=some r):wh t b (n+1) m=some r:=by
 unfold wh
 rw [h1,h2]
 exact h3
theorem Gw {t:Me->Res Bool}{b:Me->Res (Fl×Me)}{m:Me}(h1:t m=.ok false):wh t b 1 m=some (.ok (.nx,m)):=by
 unfold wh
 rw [h1]
theorem UW (x y:Sl):∀(n:Nat) (a b:Int) (z:Sl),b.toNat=n->0<=a->0<=b->∃k z',wh j7 j8 k [x,y,.fz (.int a),.fz (.int b),z] =
  some (.ok (.nx,[x,y,.fz (.int (gI a b)),.fz (.int 0),z'])):=by
 intro n
 induction n using Nat.strongRecOn with
 |_ n ih=>
  intro a b z hn ha hb
  by_cases h0:b=0
  ·subst h0
   refine ⟨1,z,?_⟩
   rw [Lf ha]
   exact Gw rfl
  ·have hb':0<b:=by omega
   have hm:=Int.emod_lt_of_pos a hb'
   have hm0:=Int.emod_nonneg a h0
   obtain ⟨k,z',e⟩:=ih (a % b).toNat (by omega) b (a % b) (.fz (.int (a % b))) rfl hb hm0
   rw [Uy ha hb'] at e
   refine ⟨k+1,z',zY (m':=[x,y,.fz (.int b),.fz (.int (a % b)),.fz (.int (a % b))]) ?_ ?_ e⟩
   ·simp [j7,aQ,aj,fC,h0]
   ·simp [j8,aU,bf,aA,aj,aD,fY,mdI,h0,hb']
theorem ph (a b:Int):d7 [.int a,.int b]=.ok (false,.int (gI a b)):=by
 obtain ⟨k,z',e⟩:=UW (.fz (.int a)) (.fz (.int b)) _ (if a<0 then -a else a) (if b<0 then -b else b) .un rfl (by split<;>omega) (by split<;>omega)
 rw [Xz] at e
 have e2:=vP k e
 simp [d7,c7,mQ,nA,qy,aU,bf,bJ,aa,az,aj,DY,e2,bT,Me.let,Sl.let,aD]
theorem dD {i:Int}{k:Nat}(h:i.natAbs<2 ^ k)(hk:k<=60000:=by decide):Bg i:=VM (dh h hk)
theorem pU {i:Int}{k:Nat}(h:i.natAbs<2 ^ k)(hk:k<=8900:=by decide):Bq i:=Zh (dh h hk)
theorem V1 {t b:Int}(hb:0<b):dv t b=gI t b:=if_neg (by omega)
theorem Qi {t b:Int}(hb:0<b):dvI t (gI t b)=lt t b:=by
 have:=uo (a:=t) (b:=b) (by omega)
 unfold dvI lt
 rw [V1 hb,if_pos this,Int.fdiv_eq_ediv_of_nonneg t (by omega)]
theorem Rf {t b:Int}(hb:0<b):dvI b (gI t b)=lb t b:=by
 have:=uo (a:=t) (b:=b) (by omega)
 unfold dvI lb
 rw [V1 hb,if_pos this,Int.fdiv_eq_ediv_of_nonneg b (by omega)]
theorem Sq {t b:Int}(hb:0<b)(hB:Bq b):Bq (gI t b):=by
 have h1:=Zg (a:=t) (b:=b) (by omega)
 unfold Bq at hB ⊢
 omega
def low (t b:Int):Q2:=(lt t b,lb t b)
theorem ou {t b:Int}(hb:0<b)(hB:Bq b):gA [.int t,.int b]=.ok (false,qD (low t b)):=by
 have hg:gI t b≠0:=by have:=uo (a:=t) (b:=b) (by omega);omega
 have h:¬b<0:=by omega
 simp [hg,gA,c7,Cv,Am,aU,bf,fFn,aa,az,aD,aj,ph,gIf,aQ,fC,gLt,h,gNx,bT,Me.let,Sl.let,gm,aA,jL,Sq hb hB,Qi hb,Rf hb,qD,low]
theorem ix0 {a b:D}:atI [a,b] 0=some a:=rfl
theorem ix1 {a b:D}:atI [a,b] 1=some b:=rfl
def rg (n:Nat)(f:Nat->D):List D:=(List.range n).map f
section
variable {n:Nat}{f g:Nat->D}
theorem bD:(rg n f).length=n:=by simp [rg]
theorem tZ {i:Nat}(h:i<n):(rg n f)[i]? = some (f i):=by simp [rg,h]
theorem Xk {i:Int}(h0:0<=i)(h:i<n):atI (rg n f) i=some (f i.toNat):=by
 unfold atI ixN
 rw [bD,if_pos h0,if_pos h]
 exact tZ (by omega)
theorem oW {i:Nat}(h:i<n):atI (rg n f) (i:Int)=some (f i):=Xk (by omega) (by omega)
theorem Ti:atI (rg (n+1) f) (-1)=some (f n):=by
 unfold atI ixN
 rw [bD,if_neg (by decide),if_pos (by omega)]
 show (rg (n+1) f)[(-1+((n+1:Nat):Int)).toNat]? = _
 rw [show (-1+((n+1:Nat):Int)).toNat=n by omega]
 exact tZ (by omega)
theorem kO (h:∀i,i<n->f i=g i):rg n f=rg n g:=by
 unfold rg
 exact List.map_congr_left λi hi=>h i (List.mem_range.mp hi)
theorem Gs (p:Nat)(v:D):(rg n f).set p v=rg n (λi=>if i=p then v else f i):=by
 apply List.ext_getElem?
 intro i
 by_cases hi:i<n
 ·rw [tZ hi,List.getElem?_set]
  by_cases q:p=i
  ·subst q;simp [bD,hi]
  ·rw [if_neg q,if_neg (Ne.symm q),tZ hi]
 ·rw [List.getElem?_eq_none (by rw [List.length_set,bD];omega),List.getElem?_eq_none (by rw [bD];omega)]
theorem yh:yS (rg n f)=rg n λi=>.tup [.int i,f i]:=by
 apply List.ext_getElem?
 intro i
 by_cases hi:i<n
 ·simp [yS,tZ hi]
 ·rw [List.getElem?_eq_none (by rw [yM,bD];omega),List.getElem?_eq_none (by rw [bD];omega)]
theorem wQ:Cw (rg n f) (rg n g)=rg n λi=>.tup [f i,g i]:=by
 apply List.ext_getElem?
 intro i
 by_cases hi:i<n
 ·rw [tZ hi];exact Ej (tZ hi) (tZ hi)
 ·rw [List.getElem?_eq_none (by rw [xg,bD,bD];omega),List.getElem?_eq_none (by rw [bD];omega)]
theorem vJ:rg (n+1) f=f 0::rg n (λi=>f (i+1)):=by
 unfold rg
 rw [List.range_succ_eq_map,List.map_cons,List.map_map]
 rfl
theorem vG:rg (n+1) f=rg n f++[f n]:=by
 unfold rg
 rw [List.range_succ,List.map_append]
 rfl
theorem dC {h:D->Me->Option Me}{ft:Me->Res Bool}{fe:Me->Res D}{m0:Me}(φ:Nat->D)(H:∀i,i<n->∃m1,h (f i) m0=some m1/\ft m1=.ok true/\fe m1=.ok (φ i)):v5 h ft fe m0 (rg n f)=.ok (rg n φ):=by
 induction n generalizing f φ with
 |zero=>rfl
 |succ n ih=>
  obtain ⟨m1,e1,e2,e3⟩:=H 0 (by omega)
  have:=ih (f:=λi=>f (i+1)) (λi=>φ (i+1)) λi hi=>H (i+1) (by omega)
  rw [vJ,vJ]
  unfold v5
  simp only [e1,e2,e3,this]
theorem lV {h:D->Me->Option Me}{k:Me->Res (Fl×Me)}(P:Nat->Me->Prop){m:Me}(h0:P 0 m)(H:∀i m,i<n->P i m->∃m1 m2,h (f i) m=some m1/\k m1=.ok (.nx,m2)/\P (i+1) m2):∃m',jF h k (rg n f) m=.ok (.nx,m')/\P n m':=by
 obtain ⟨m',e,p⟩:=Hm (h:=h) (g:=k) P (rg n f) 0 m h0 λj d m hj p=>by
  have hl:j<n:=by have:=(List.getElem?_eq_some_iff.mp hj).1;rwa [bD] at this
  rw [tZ hl] at hj
  cases hj
  rw [Nat.zero_add] at p ⊢
  exact H j m hl p
 rw [bD,Nat.zero_add] at p
 exact ⟨m',e,p⟩
end
theorem itR {f:Me->Res (List D)}{m:Me}{j:Int}{n:Nat}(h:f m=.ok [.int j])(e:j=n)(hn:n<=1000):qZ f m=.ok (rg n λi=>.int i):=by
 have h1:-(2 ^ 62)<=j/\j<2 ^ 62:=by
  have e1:(-(2 ^ 62):Int)<=0:=by decide
  have e2:(1001:Int)<=2 ^ 62:=by decide
  exact ⟨Int.le_trans e1 (by omega),Int.lt_of_lt_of_le (by omega) e2⟩
 unfold qZ
 rw [h,Res.bh]
 show (if -(2 ^ 62)<=j/\j<2 ^ 62 then _ else _)=_
 rw [if_pos h1,e]
 rfl
def iL (n:Nat)(f:Nat->Int):D:=.lst (rg n λi=>.int (f i))
theorem Dz {h:D->Me->Option Me}{k:Me->Res (Fl×Me)}:∀{n:Nat} {f:Nat->D} (P:Nat->Me->Prop) (Q:Nat->Bool->D->Prop) {m:Me},P 0 m->(∀i m,i<n->P i m->∃m1 m2,h (f i) m=some m1/\((k m1=.ok (.nx,m2)/\P (i+1) m2)\/∃fr v,k m1=.ok (.rt fr v,m2)/\Q i fr v))->
  (∃m',jF h k (rg n f) m=.ok (.nx,m')/\P n m')\/∃i fr v m',i<n/\jF h k (rg n f) m=.ok (.rt fr v,m')/\Q i fr v
 |0,f,P,Q,m,h0,_=>.inl ⟨m,rfl,h0⟩
 |n+1,f,P,Q,m,h0,H=>by
  obtain ⟨m1,m2,e1,e2⟩:=H 0 m (by omega) h0
  rw [vJ]
  rcases e2 with ⟨e2,p⟩ | ⟨fr,v,e2,q⟩
  ·have e:jF h k (f 0::rg n λi=>f (i+1)) m=jF h k (rg n λi=>f (i+1)) m2:=by
    rw [jF]
    simp only [e1,e2]
   rw [e]
   rcases Dz (n:=n) (f:=λi=>f (i+1)) (λi m=>P (i+1) m) (λi=>Q (i+1)) p (λi m hi p=>H (i+1) m (by omega) p) with z | ⟨i,fr,v,m',hi,e3,q⟩
   ·exact .inl z
   ·exact .inr ⟨i+1,fr,v,m',by omega,e3,q⟩
  ·refine .inr ⟨0,fr,v,m2,by omega,?_,q⟩
   rw [jF]
   simp only [e1,e2]
def fN:List Str:=["wide", "scales", "wish_scales", "lines", "wish_lines", "bottom", "held_columns"]
def obj (m n K:Nat)(s ws:Nat->Int)(c wl:Nat->Nat->Int)(bt:Int)(h:D):D:=.ins "Corner" fN [.int m,iL n s,iL K ws,.lst (rg n λr=>iL (m+n+1) (c r)),.lst (rg K λr=>iL (m+n+1) (wl r)),.int bt,h]
def fdD:Option Nat->D
 |none=>.non
 |some p=>.int p
theorem Qm {fd:Option Nat}:uM (false,fdD fd)=true:=by cases fd<;>rfl
section
variable {m n K:Nat}{s ws:Nat->Int}{bt:Int}{c wl:Nat->Nat->Int}{h:D}
theorem yQ:jm "Corner" "wide" (obj m n K s ws c wl bt h)=some (.int m):=by simp [jm,obj,fN,vg]
theorem Qv:jm "Corner" "scales" (obj m n K s ws c wl bt h)=some (iL n s):=by simp [jm,obj,fN,vg]
theorem YF:jm "Corner" "wish_scales" (obj m n K s ws c wl bt h)=some (iL K ws):=by simp [jm,obj,fN,vg]
theorem qT:jm "Corner" "lines" (obj m n K s ws c wl bt h)=some (.lst (rg n λr=>iL (m+n+1) (c r))):=by simp [jm,obj,fN,vg]
theorem Ob:jm "Corner" "wish_lines" (obj m n K s ws c wl bt h)=some (.lst (rg K λr=>iL (m+n+1) (wl r))):=by simp [jm,obj,fN,vg]
theorem RX:jm "Corner" "bottom" (obj m n K s ws c wl bt h)=some (.int bt):=by simp [jm,obj,fN,vg]
theorem BP:jm "Corner" "held_columns" (obj m n K s ws c wl bt h)=some h:=by simp [jm,obj,fN,vg]
theorem sG {x:Str}(hm:fN.contains x=false):mR "Corner" x (obj m n K s ws c wl bt h)=true:=by
 show (decide (Str.ofString "Corner" = Str.ofString "Corner") && !fN.contains x)=true;rw [hm];simp
theorem ym {i:Nat}(hi:i<n):gIx (.lst (rg n λr=>iL (m+n+1) (c r))) (.int i)=some (iL (m+n+1) (c i)):=oW hi
theorem kh {k:Nat}{f:Nat->Int}{i:Nat}(hi:i<k):gIx (iL k f) (.int i)=some (.int (f i)):=oW hi
theorem Jw {k:Nat}{f:Nat->Int}:gIx (iL (k+1) f) (.int (-1))=some (.int (f k)):=Ti
theorem WT {α:Type}{xs:List α}{j:Nat}(h:j<=xs.length):cut xs none (some (j:Int))=xs.take j:=by
 unfold cut
 rw [show HT.sIx xs.length 0 none=0 from rfl,show HT.sIx xs.length xs.length (some (j:Int))=j by rw [HT.Vu];omega]
 simp
theorem Le {f:Nat->D}{l:Nat}(hl:l<=K):(rg K f).take l=rg l f:=by
 unfold rg
 rw [← List.map_take,List.take_range,Nat.min_eq_left hl]
theorem Yi {f:Nat->D}{l:Nat}(hl:l<=K):cut (rg K f) none (some (l:Int))=rg l f:=by rw [WT (by rw [bD];exact hl),Le hl]
def Alw (l:Nat)(wl:Nat->Nat->Int)(i:Nat):Prop:=∀r,r<l->wl r i=0
instance {l:Nat} {i:Nat}:Decidable (Alw l wl i):=by unfold Alw;infer_instance
theorem MK {b:Nat->Bool}:∀l:List Nat,Ae (l.map λr=>D.bl (b r))=some (l.map b)
 |[]=>rfl
 |a::l=>by
  show (Ae (l.map λr=>D.bl (b r))).map (b a::·)=_
  rw [MK l];rfl
theorem Yv {l i:Nat}:Qk [.lst (rg l λr=>.bl (decide (wl r i=0)))]=some (.bl (decide (Alw l wl i))):=by
 show (Ae (rg l λr=>.bl (decide (wl r i=0)))).map _=_
 unfold rg
 rw [MK]
 show some (D.bl (((List.range l).map λr=>decide (wl r i=0)).all id))=_
 congr 2
 rw [Bool.eq_iff_iff,decide_eq_true_iff]
 simp [Alw]
theorem Ud {a b:Sl}{z:D}(hm:m<=8)(hn:n<=8):qZ (aa (aA eX (cA "Corner" "wide" (aj 0)) (bJ fH (aa (cA "Corner" "lines" (aj 0)) az))) az) [.fz (obj m n K s ws c wl bt h),.fz z,a,b]=.ok (rg (m+n) λi=>.int i):=
 itR (j:=(m:Int)+(n:Int)) (by simp [aa,az,aA,cA,aj,yQ,qT,bJ,fH,eX,bD]) (by omega) (by omega)
theorem Yq {i l:Nat}{z:Sl}(hi:i<m+n)(hl:l<K)(hK:K<=8):cZ [.fz (obj m n K s ws c wl bt h),.fz (.int l),.fz (.int i),z]=.ok (.lst (rg l λr=>.bl (decide (wl r i=0)))):=by
 have ec:=dC (n:=l) (f:=λr=>iL (m+n+1) (wl r)) (h:=hName 0) (ft:=eU) (fe:=gk) (m0:=[.un,.fz (.int i)]) (λr=>.bl (decide (wl r i=0))) λr _=>⟨_,rfl,rfl,by
  have e2:gIx (iL (m+n+1) (wl r)) (.int i)=some (.int (wl r i)):=oW (by omega)
  simp [gk,iI,aA,aj,e2,fC,gEq]⟩
 have ei:lq (fSl (cA "Corner" "wish_lines" (aj 0)) fO0 (fO1 (aj 1))) [.fz (obj m n K s ws c wl bt h),.fz (.int l),.fz (.int i),z]=.ok (rg l λr=>iL (m+n+1) (wl r)):=by
  simp [lq,fSl,cA,aj,Ob,fO0,fO1,gSl,Yi (Nat.le_of_lt hl)]
 have zl:l<=sizeLine:=by rw [szl];omega
 unfold cZ cG
 rw [ei,Res.bh,bD,if_pos zl]
 rw [show cMe 1 [2] [.fz (obj m n K s ws c wl bt h),.fz (.int l),.fz (.int i),z]=[.un,.fz (.int i)] from rfl,ec]
theorem Ox {i l:Nat}{z:Sl}(hi:i<m+n)(hl:l<K)(hK:K<=8):cX [.fz (obj m n K s ws c wl bt h),.fz (.int l),.fz (.int i),z]=if Alw l wl i/\wl l i<0 then .ok (.rt false (.int i),[.fz (obj m n K s ws c wl bt h),.fz (.int l),.fz (.int i),.fz (.bl (decide (Alw l wl i)))]) else .ok (.nx,[.fz (obj m n K s ws c wl bt h),.fz (.int l),.fz (.int i),.fz (.bl (decide (Alw l wl i)))]):=by
 have e:gIx (.lst (rg K λr=>iL (m+n+1) (wl r))) (.int l)=some (iL (m+n+1) (wl l)):=oW hl
 have e2:gIx (iL (m+n+1) (wl l)) (.int i)=some (.int (wl l i)):=oW (by omega)
 have eq:=Yq (s:=s) (ws:=ws) (c:=c) (wl:=wl) (bt:=bt) (h:=h) (z:=z) hi hl hK
 have ea:=Yv (wl:=wl) (l:=l) (i:=i)
 have s1:bf 3 (bJ Qk (aa cZ az)) [.fz (obj m n K s ws c wl bt h),.fz (.int l),.fz (.int i),z]=.ok (.nx,[.fz (obj m n K s ws c wl bt h),.fz (.int l),.fz (.int i),.fz (.bl (decide (Alw l wl i)))]):=by
  unfold bf bJ aa
  rw [eq]
  simp [az,ea]
 unfold cX
 rw [show aU (bf 3 (bJ Qk (aa cZ az))) (gIf (kW (fTv (aD 3)) (aQ gLt (aA gIx (aA gIx (cA "Corner" "wish_lines" (aj 0)) (aj 1)) (aj 2)) (fC (.int 0)))) (bT (aD 2)) gNx) [.fz (obj m n K s ws c wl bt h),.fz (.int l),.fz (.int i),z]=gIf (kW (fTv (aD 3)) (aQ gLt (aA gIx (aA gIx (cA "Corner" "wish_lines" (aj 0)) (aj 1)) (aj 2)) (fC (.int 0)))) (bT (aD 2)) gNx [.fz (obj m n K s ws c wl bt h),.fz (.int l),.fz (.int i),.fz (.bl (decide (Alw l wl i)))] by unfold aU;rw [s1]]
 by_cases a:Alw l wl i
 ·by_cases q:wl l i<0
  ·rw [if_pos ⟨a,q⟩]
   simp [gIf,kW,fTv,aD,a,aQ,aA,cA,aj,Ob,e,e2,fC,gLt,q,bT,Me.let,Sl.let]
  ·rw [if_neg λz=>q z.2]
   simp [gIf,kW,fTv,aD,a,aQ,aA,cA,aj,Ob,e,e2,fC,gLt,q,gNx]
 ·rw [if_neg λz=>a z.1]
  simp [gIf,kW,fTv,aD,a,gNx]
theorem QZ {r:D}{l:Nat}{m':Me}{o:D}(e:cY [.fz o,.fz (.int l),.un,.un]=.ok (.rt false r,m')):aX [o,.int l]=.ok (false,r):=by
 simp only [aX,c7,eY,fj,aU,List.length_cons,List.length_nil,if_true,List.map_cons,List.map_nil,List.cons_append,List.nil_append,List.replicate]
 rw [e]
theorem Ot {l:Nat}{m':Me}{o:D}(e:cY [.fz o,.fz (.int l),.un,.un]=.ok (.nx,m')):aX [o,.int l]=.ok (false,.non):=by
 simp only [aX,c7,eY,fj,aU,List.length_cons,List.length_nil,if_true,List.map_cons,List.map_nil,List.cons_append,List.nil_append,List.replicate]
 rw [e]
 rfl
def Y4 (k l:Nat)(wl:Nat->Nat->Int):Option Nat->Prop
 |none=>∀j,j<k->Alw l wl j->0<=wl l j
 |some j=>j<k/\Alw l wl j/\wl l j<0/\∀i,i<j->Alw l wl i->0<=wl l i
theorem Vv {l:Nat}(hl:l<K)(hK:K<=8)(hm:m<=8)(hn:n<=8):∃fd,aX [obj m n K s ws c wl bt h,.int l]=.ok (false,fdD fd)/\Y4 (m+n) l wl fd:=by
 have e0:∀{r:Res (Fl×Me)},jF (hName 2) cX (rg (m+n) λi=>.int i) [.fz (obj m n K s ws c wl bt h),.fz (.int l),.un,.un]=r->cY [.fz (obj m n K s ws c wl bt h),.fz (.int l),.un,.un]=r:=λe=>by
  unfold cY lZ
  rw [Ud hm hn]
  exact e
 rcases Dz (n:=m+n) (f:=λi=>.int i) (h:=hName 2) (k:=cX) (m:=[.fz (obj m n K s ws c wl bt h),.fz (.int l),.un,.un]) (λi x=>(∃a b,x=[.fz (obj m n K s ws c wl bt h),.fz (.int l),a,b])/\∀j,j<i->Alw l wl j->0<=wl l j) (λi fr v=>fr=false/\v=.int i/\(Alw l wl i/\wl l i<0)/\∀j,j<i->Alw l wl j->0<=wl l j) ⟨⟨_,_,rfl⟩,λj hj=>absurd hj (Nat.not_lt_zero _)⟩ (λi x hi ⟨⟨a,b,em⟩,hp⟩=>by
  subst em
  have eb:=Ox (s:=s) (ws:=ws) (c:=c) (wl:=wl) (bt:=bt) (h:=h) (z:=b) hi hl hK
  by_cases q:Alw l wl i/\wl l i<0
  ·rw [if_pos q] at eb
   exact ⟨_,_,rfl,.inr ⟨_,_,eb,rfl,rfl,q,hp⟩⟩
  ·rw [if_neg q] at eb
   refine ⟨_,_,rfl,.inl ⟨eb,⟨_,_,rfl⟩,λj hj hA=>?_⟩⟩
   by_cases w:j=i
   ·subst w
    have:¬wl l j<0:=λz=>q ⟨hA,z⟩
    omega
   ·exact hp j (by omega) hA) with ⟨m',e,_,hp⟩ | ⟨i,fr,v,m',hi,e,rfl,rfl,h1,h2⟩
 ·exact ⟨none,Ot (e0 e),hp⟩
 ·exact ⟨some i,QZ (e0 e),hi,h1.1,h1.2,h2⟩
end
section
variable {m n K:Nat}{s ws:Nat->Int}{bt:Int}{c wl:Nat->Nat->Int}{h:D}
theorem Dv (f:Nat->Int):∀l:List Nat,qJ (l.map λi=>D.int (f i))=true
 |[]=>rfl
 |a::l=>by
  show (true && qJ (l.map λi=>D.int (f i)))=true
  rw [Dv f l];rfl
theorem S5 {f:Nat->Int}:jd (iL n f)=true:=Dv f _
theorem Ei {f:Nat->Int}:uM (true,iL n f)=true:=by
 unfold uM
 rw [S5]
 simp
def clr (k:Nat)(bt:Int)(l t:Nat->Int):Nat->Int:=λj=>(l j*t k-l k*t j) / bt
theorem Bc {o:D}{l t:Nat->Int}{k:Nat}(hm:m<=8)(hn:n<=8)(hk:k<m+n+1)(hb:jm "Corner" "bottom" o=some (.int bt))(h0:0<bt)(hB:Bq bt)(h1:∀j,Bg (l j))(h2:∀j,Bg (t j)):fQ [o,iL (m+n+1) l,iL (m+n+1) t,.int k]=.ok (true,iL (m+n+1) (clr k bt l t)):=by
 have bn:bt≠0:=by omega
 have eq:kj [.fz o,.fz (iL (m+n+1) l),.fz (iL (m+n+1) t),.fz (.int k),.fz (.int (t k)),.fz (.int (l k))]=.ok (iL (m+n+1) (clr k bt l t)):=by
  have ei:qC (aa (aj 1) (aa (aj 2) az)) [.fz o,.fz (iL (m+n+1) l),.fz (iL (m+n+1) t),.fz (.int k),.fz (.int (t k)),.fz (.int (l k))]=.ok (rg (m+n+1) λi=>.tup [.int (l i),.int (t i)]):=by
   simp [qC,aa,az,aj,iL,wQ]
  have hl:(rg (m+n+1) λi=>D.tup [.int (l i),.int (t i)]).length<=sizeLine:=by rw [bD,szl];omega
  have ec:=dC (n:=m+n+1) (f:=λi=>D.tup [.int (l i),.int (t i)]) (h:=nZ 2 (cL (hName 0) (cL (hName 1) nW))) (ft:=eU) (fe:=iy) (m0:=[.un,.un,.fz o,.fz (.int (t k)),.fz (.int (l k))]) (λi=>.int (clr k bt l t i)) λi hi=>⟨_,rfl,rfl,by
   simp [iy,aA,aj,eV,F.yP,h1,h2,cA,hb,jL,dvI,bn,hB,h0,clr]⟩
  unfold kj cG
  rw [ei]
  show (if (rg (m+n+1) λi=>D.tup [.int (l i),.int (t i)]).length<=sizeLine then _ else _)=_
  rw [if_pos hl]
  show (match v5 (nZ 2 (cL (hName 0) (cL (hName 1) nW))) eU iy [.un,.un,.fz o,.fz (.int (t k)),.fz (.int (l k))] (rg (m+n+1) λi=>D.tup [.int (l i),.int (t i)]) with | .ok ys=>Res.ok (D.lst ys) | _=>.stuck)=_
  rw [ec]
  rfl
 simp [fQ,c7,mU,mY,aU,bf,aA,aj,kh hk,lF,Me.let,Sl.let,eq]
theorem mt1 {o r:D}{cn mn:Str}{Φ:List D->Res (Bool×D)}{f0:Me->Res D}{fs:Me->Res (List D)}{m:Me}{ds:List D}{b:Bool}(h0:f0 m=.ok o)(ho:mR cn mn o=true)(hf:fs m=.ok ds)(hΦ:Φ (o::ds)=.ok (b,r))(hr:uM (b,r)=true):fMt cn mn Φ f0 fs m=.ok r:=by
 unfold fMt
 rw [h0,Res.bh,if_pos ho,hf,Res.bh,hΦ,Res.bh,if_pos hr]
def tc (k:Nat)(bt:Int)(c:Nat->Nat->Int)(p:Nat):Nat->Nat->Int:=λr=>if r=p then c p else clr k bt (c r) (c p)
theorem WQ {w:List D}:iT fN [.int m,iL n s,iL K ws,.lst (rg n λr=>iL (m+n+1) (c r)),.lst w,.int bt,h] "wish_lines" (.lst (rg K λr=>iL (m+n+1) (wl r)))=(fN,[.int m,iL n s,iL K ws,.lst (rg n λr=>iL (m+n+1) (c r)),.lst (rg K λr=>iL (m+n+1) (wl r)),.int bt,h]):=by simp [iT,fN]
theorem Nb {w d e:D}{k:Int}:iT fN [.int m,iL n s,iL K ws,w,e,.int k,h] "lines" d=(fN,[.int m,iL n s,iL K ws,d,e,.int k,h]):=by simp [iT,fN]
theorem Xy {w e:D}{k:Int}{d:D}:iT fN [.int m,iL n s,iL K ws,w,e,.int k,h] "bottom" d=(fN,[.int m,iL n s,iL K ws,w,e,d,h]):=by simp [iT,fN]
theorem Fq {i:Nat}{f:Str}{g:Me->Res D}{m:Me}{d:D}{ns:List Str}{ds:List D}(hm:m[i]? = some (.io (.ins "Corner" ns ds)))(hg:g m=.ok d)(hl:ns.length<999):j5 i "Corner" f g m=.ok (.nx,m.set i (.io (.ins "Corner" (iT ns ds f d).1 (iT ns ds f d).2))):=by
 unfold j5 N5
 rw [hg,Res.bh,hm]
 show (if Str.ofString "Corner" = Str.ofString "Corner"/\ns.length<999 then _ else _)=_
 rw [if_pos ⟨rfl,hl⟩]
 rfl
theorem Ww {i ik iv k:Nat}{f:Str}{g:Me->Res D}{m:Me}{dd:D}{xs:List D}{ns:List Str}{ds:List D}(hm:m[i]? = some (.io (.ins "Corner" ns ds)))(hg:g m=.ok (.lst xs))(hk:m[ik]? = some (.fz (.int k)))(hv:m[iv]? = some (.fz dd))(hl:ns.length<999)(hx:k<xs.length):Aa i "Corner" f g ik iv m=.ok (.nx,m.set i (.io (.ins "Corner" (iT ns ds f (.lst (xs.set k dd))).1 (iT ns ds f (.lst (xs.set k dd))).2))):=by
 have ex:ixN xs.length (k:Int)=some k:=by unfold ixN;rw [if_pos (by omega),if_pos (by omega)];simp
 simp [Aa,hg,hk,hv,N5,hm,hl,ex,Ec]
theorem aZ {g k:Me->Res (Fl×Me)}{m m':Me}(e:g m=.ok (.nx,m')):aU g k m=k m':=by unfold aU;rw [e]
theorem TQ {N k:Nat}{g:Me->Res (Fl×Me)}{ds:List D}{d d' e:D}{y:Addr×D}{m':Me}(hn:ds.length+1=k)(h:g (F.stM N k ds d y)=.ok (.nx,m'))(h1:nU m' 0=some d')(h2:hdF m' (N - 1) y.1=some e):runM N k g ds d y=.ok (.non,d',e):=by
 unfold runM
 rw [if_pos hn,h]
 simp only [h1,h2,nY,Res.bh]
theorem KR {N k:Nat}{g:Me->Res (Fl×Me)}{ds:List D}{d d' e r:D}{b:Bool}{y:Addr×D}{m':Me}(hn:ds.length+1=k)(h:g (F.stM N k ds d y)=.ok (.rt b r,m'))(h1:nU m' 0=some d')(h2:hdF m' (N - 1) y.1=some e):runM N k g ds d y=.ok (r,d',e):=by
 unfold runM
 rw [if_pos hn,h]
 simp only [h1,h2,nY,Res.bh]
theorem U5 {p k:Nat}{y:Addr}{H:Nat->D}(hm:m<=8)(hn:n<=8)(hp:p<n)(hk:k<m+n+1)(h0:0<bt)(hb:Bq bt)(hB:∀r j,Bg (c r j))(hK:K<=8)(hw:∀r j,Bg (wl r j)):dO [.int p,.int k] (obj m n K s ws c wl bt (.adr y)) (y,.lst (rg n H)) =
  .ok (.non,obj m n K s ws (tc k bt c p) (λr=>clr k bt (wl r) (c p)) (c p k) (.adr y),.lst (rg n λi=>if i=p then .int k else H i)):=by
 have e1:bf 3 (aA gIx (cA "Corner" "lines" (aj 0)) (aj 1)) [.io (obj m n K s ws c wl bt (.adr y)),.fz (.int p),.fz (.int k),.un,.hd false y (.lst (rg n H))]=.ok (.nx,[.io (obj m n K s ws c wl bt (.adr y)),.fz (.int p),.fz (.int k),.fz (iL (m+n+1) (c p)),.hd false y (.lst (rg n H))]):=by
  simp [bf,aA,cA,aj,qT,ym hp]
 have e2:gf [.io (obj m n K s ws c wl bt (.adr y)),.fz (.int p),.fz (.int k),.fz (iL (m+n+1) (c p)),.hd false y (.lst (rg n H))]=.ok (.lst (rg K λr=>iL (m+n+1) (clr k bt (wl r) (c p)))):=by
  have ec:=dC (n:=K) (f:=λr=>iL (m+n+1) (wl r)) (h:=hName 0) (ft:=eU) (fe:=mq) (m0:=[.un,.fz (iL (m+n+1) (c p)),.fz (.int k),.bw (obj m n K s ws c wl bt (.adr y))]) (λr=>iL (m+n+1) (clr k bt (wl r) (c p))) λr hr=>⟨_,rfl,rfl,mt1 (o:=obj m n K s ws c wl bt (.adr y)) rfl (sG (by decide)) rfl (Bc hm hn hk RX h0 hb (hw r) (hB p)) Ei⟩
  have hl:K<=16777216:=by omega
  simp [gf,cG,lq,cA,aj,Ob,cMe,Sl.bor,bD,hl,ec]
 have e3:dY [.io (obj m n K s ws c (λr=>clr k bt (wl r) (c p)) bt (.adr y)),.fz (.int p),.fz (.int k),.fz (iL (m+n+1) (c p)),.hd false y (.lst (rg n H))]=.ok (.lst (rg n λr=>iL (m+n+1) (clr k bt (c r) (c p)))):=by
  have ec:=dC (n:=n) (f:=λr=>iL (m+n+1) (c r)) (h:=hName 0) (ft:=eU) (fe:=mz) (m0:=[.un,.fz (iL (m+n+1) (c p)),.fz (.int k),.bw (obj m n K s ws c (λr=>clr k bt (wl r) (c p)) bt (.adr y))]) (λr=>iL (m+n+1) (clr k bt (c r) (c p))) λr hr=>⟨_,rfl,rfl,mt1 (o:=obj m n K s ws c (λr=>clr k bt (wl r) (c p)) bt (.adr y)) rfl (sG (by decide)) rfl (Bc hm hn hk RX h0 hb (hB r) (hB p)) Ei⟩
  have hl:n<=16777216:=by omega
  simp [dY,cG,lq,cA,aj,qT,cMe,Sl.bor,bD,hl,ec]
 have e4:Aa 0 "Corner" "lines" dY 1 3 [.io (obj m n K s ws c (λr=>clr k bt (wl r) (c p)) bt (.adr y)),.fz (.int p),.fz (.int k),.fz (iL (m+n+1) (c p)),.hd false y (.lst (rg n H))]=.ok (.nx,[.io (obj m n K s ws (tc k bt c p) (λr=>clr k bt (wl r) (c p)) bt (.adr y)),.fz (.int p),.fz (.int k),.fz (iL (m+n+1) (c p)),.hd false y (.lst (rg n H))]):=by
  have z:=Ww (i:=0) (ik:=1) (iv:=3) (f:="lines") (g:=dY) (m:=[.io (obj m n K s ws c (λr=>clr k bt (wl r) (c p)) bt (.adr y)),.fz (.int p),.fz (.int k),.fz (iL (m+n+1) (c p)),.hd false y (.lst (rg n H))]) rfl e3 rfl rfl (show fN.length<999 by decide) (by rw [bD];exact hp)
  rw [Nb,Gs] at z
  have er:(rg n λi=>if i=p then iL (m+n+1) (c p) else iL (m+n+1) (clr k bt (c i) (c p)))=rg n λr=>iL (m+n+1) (tc k bt c p r):=kO λi _=>by
   unfold tc
   by_cases w:i=p
   ·rw [if_pos w,if_pos w]
   ·rw [if_neg w,if_neg w]
  rw [er] at z
  exact z
 have e5:vM 4 (cA "Corner" "held_columns" (aj 0)) (aD 1) (aD 2) [.io (obj m n K s ws (tc k bt c p) (λr=>clr k bt (wl r) (c p)) bt (.adr y)),.fz (.int p),.fz (.int k),.fz (iL (m+n+1) (c p)),.hd false y (.lst (rg n H))]=.ok (.nx,[.io (obj m n K s ws (tc k bt c p) (λr=>clr k bt (wl r) (c p)) bt (.adr y)),.fz (.int p),.fz (.int k),.fz (iL (m+n+1) (c p)),.hd false y (.lst (rg n λi=>if i=p then .int k else H i))]):=by
  have ex:ixN n (p:Int)=some p:=by unfold ixN;rw [if_pos (by omega),if_pos (by omega)];simp
  simp [vM,cA,aj,BP,aD,Ih,bD,ex,Gs]
 have e6:=Fq (i:=0) (f:="bottom") (g:=aA gIx (aj 3) (aj 2)) (m:=[.io (obj m n K s ws (tc k bt c p) (λr=>clr k bt (wl r) (c p)) bt (.adr y)),.fz (.int p),.fz (.int k),.fz (iL (m+n+1) (c p)),.hd false y (.lst (rg n λi=>if i=p then .int k else H i))]) (d:=.int (c p k)) rfl (by simp [aA,aj,kh hk]) (show fN.length<999 by decide)
 rw [Xy] at e6
 have e7:=Fq (i:=0) (f:="wish_lines") (g:=gf) (m:=[.io (obj m n K s ws c wl bt (.adr y)),.fz (.int p),.fz (.int k),.fz (iL (m+n+1) (c p)),.hd false y (.lst (rg n H))]) rfl e2 (show fN.length<999 by decide)
 rw [WQ] at e7
 refine TQ (m':=[.io (obj m n K s ws (tc k bt c p) (λr=>clr k bt (wl r) (c p)) (c p k) (.adr y)),.fz (.int p),.fz (.int k),.fz (iL (m+n+1) (c p)),.hd false y (.lst (rg n λi=>if i=p then .int k else H i))]) rfl ?_ rfl ?_
 ·show aU _ _ [.io (obj m n K s ws c wl bt (.adr y)),.fz (.int p),.fz (.int k),.un,.hd false y (.lst (rg n H))]=_
  rw [aZ e1,aZ e7]
  refine (aZ e4).trans ?_
  rw [aZ e5]
  exact e6
 ·simp [hdF]
end
end K37
namespace Sx
def sm:Nat->(Nat->Int)->Int
 |0,_=>0
 |n+1,f=>sm n f+f n
theorem dH {f g:Nat->Int}:∀{n:Nat},(∀i,i<n->f i=g i)->sm n f=sm n g
 |0,_=>rfl
 |n+1,h=>by
  show sm n f+f n=sm n g+g n
  rw [dH λi hi=>h i (by omega),h n (by omega)]
theorem G7 {f:Nat->Int}{n:Nat}(h:∀i,i<n->f i=0):sm n f=0:=by
 induction n with
 |zero=>rfl
 |succ n ih=>
  show sm n f+f n=0
  rw [ih λi hi=>h i (by omega),h n (by omega)];rfl
theorem Ak (f g:Nat->Int):∀n:Nat,sm n (λi=>f i+g i)=sm n f+sm n g
 |0=>rfl
 |n+1=>by
  show sm n (λi=>f i+g i)+(f n+g n)=sm n f+f n+(sm n g+g n)
  rw [Ak f g n];omega
theorem iK (a:Int)(f:Nat->Int):∀n:Nat,sm n (λi=>a*f i)=a*sm n f
 |0=>by show (0:Int)=a*0;rw [Int.mul_zero]
 |n+1=>by
  show sm n (λi=>a*f i)+a*f n=a*(sm n f+f n)
  rw [iK a f n,Int.mul_add]
theorem yu (a b:Int)(f g:Nat->Int)(n:Nat):sm n (λi=>a*f i+b*g i)=a*sm n f+b*sm n g:=by
 rw [Ak,iK,iK]
theorem Gb (f:Nat->Nat->Int)(k:Nat):∀n:Nat,sm n (λi=>sm k λj=>f i j)=sm k λj=>sm n λi=>f i j
 |0=>(G7 λ_ _=>rfl).symm
 |n+1=>by
  show sm n (λi=>sm k λj=>f i j)+sm k (f n)=sm k λj=>sm n (λi=>f i j)+f n j
  rw [Gb f k n,Ak]
theorem rF {f:Nat->Int}{p:Nat}:∀{n:Nat},p<n->(∀i,i<n->i≠p->f i=0)->sm n f=f p
 |0,h,_=>absurd h (Nat.not_lt_zero _)
 |n+1,h,h0=>by
  show sm n f+f n=f p
  by_cases q:p=n
  ·subst q
   rw [G7 λi hi=>h0 i (by omega) (by omega)];omega
  ·rw [rF (p:=p) (by omega) λi hi hp=>h0 i (by omega) hp,h0 n (by omega) (Ne.symm q)];omega
theorem J4 {f:Nat->Int}{p q:Nat}:∀{n:Nat},p<n->q<n->p≠q->(∀i,i<n->i≠p->i≠q->f i=0)->sm n f=f p+f q
 |0,h,_,_,_=>absurd h (Nat.not_lt_zero _)
 |n+1,hp,hq,hne,h0=>by
  show sm n f+f n=f p+f q
  by_cases e:p=n
  ·subst e
   rw [rF (p:=q) (by omega) λi hi h=>h0 i (by omega) (by omega) h];omega
  ·by_cases e2:q=n
   ·subst e2
    rw [rF (p:=p) (by omega) λi hi h=>h0 i (by omega) h (by omega)]
   ·rw [J4 (by omega) (by omega) hne λi hi h h'=>h0 i (by omega) h h',h0 n (by omega) (Ne.symm e) (Ne.symm e2)];omega
theorem RN {f:Nat->Int}:∀{n:Nat},0<sm n f->∃i,i<n/\0<f i
 |0,h=>absurd h (by show ¬(0:Int)<0;omega)
 |n+1,h=>by
  have h:0<sm n f+f n:=h
  by_cases q:0<f n
  ·exact ⟨n,by omega,q⟩
  ·obtain ⟨i,h1,h2⟩:=RN (f:=f) (n:=n) (by omega)
   exact ⟨i,by omega,h2⟩
def upd {α:Type}(f:Nat->α)(p:Nat)(v:α):Nat->α:=λk=>if k=p then v else f k
theorem dW {α:Type}{f:Nat->α}{p:Nat}{v:α}:upd f p v p=v:=if_pos rfl
theorem bj {α:Type}{f:Nat->α}{p k:Nat}{v:α}(h:k≠p):upd f p v k=f k:=if_neg h
theorem uR {α:Type}{f:Nat->α}{p:Nat}:upd f p (f p)=f:=by
 funext k;unfold upd;split
 ·rename_i h;rw [h]
 ·rfl
theorem lY {α:Type}{f:Nat->α}{p q:Nat}{u v:α}(h:p≠q):upd (upd f p u) q v=upd (upd f q v) p u:=by
 funext k;unfold upd
 by_cases a:k=q
 ·subst a;rw [if_pos rfl,if_neg (Ne.symm h),if_pos rfl]
 ·rw [if_neg a]
  by_cases b:k=p
  ·rw [if_pos b,if_pos b]
  ·rw [if_neg b,if_neg b,if_neg a]
def skp (k l:Nat):Nat:=if l<k then l else l+1
def sg:Nat->Int
 |0=>1
 |k+1=>-sg k
def mnr (M:Nat->Nat->Int)(k:Nat):Nat->Nat->Int:=λl i=>M (skp k l) (i+1)
def det:Nat->(Nat->Nat->Int)->Int
 |0,_=>1
 |n+1,M=>sm (n+1) λk=>sg k*M k 0*det n (mnr M k)
theorem Sw {k l n:Nat}(hl:l<n):skp k l<n+1:=by unfold skp;split<;>omega
theorem pR:∀{n:Nat} {M N:Nat->Nat->Int},(∀k,k<n->∀i,i<n->M k i=N k i)->det n M=det n N
 |0,_,_,_=>rfl
 |n+1,M,N,h=>dH λk hk=>by
  rw [h k hk 0 (by omega),pR (M:=mnr M k) (N:=mnr N k) λl hl i hi=>h (skp k l) (Sw hl) (i+1) (by omega)]
theorem Jm (M:Nat->Nat->Int)(p:Nat)(v:Nat->Int):mnr (upd M p v) p=mnr M p:=by
 funext l i
 unfold mnr upd
 rw [if_neg (by unfold skp;split<;>omega)]
theorem JQ {M:Nat->Nat->Int}{p k:Nat}{v:Nat->Int}(h:k≠p):mnr (upd M p v) k=upd (mnr M k) (if p<k then p else p - 1) λi=>v (i+1):=by
 funext l i
 unfold mnr upd
 by_cases q:p<k
 ·rw [if_pos q]
  by_cases e:l=p
  ·subst e
   rw [if_pos (by unfold skp;rw [if_pos q]),if_pos rfl]
  ·rw [if_neg (by unfold skp;split<;>omega),if_neg e]
 ·rw [if_neg q]
  by_cases e:l=p - 1
  ·subst e
   rw [if_pos (by unfold skp;split<;>omega),if_pos rfl]
  ·rw [if_neg (by unfold skp;split<;>omega),if_neg e]
theorem tD (a b:Int)(u v:Nat->Int):∀{n:Nat} (M:Nat->Nat->Int) {p:Nat},p<n->det n (upd M p λi=>a*u i+b*v i)=a*det n (upd M p u)+b*det n (upd M p v)
 |0,_,_,h=>absurd h (Nat.not_lt_zero _)
 |n+1,M,p,h=>by
  show sm (n+1) _=a*sm (n+1) _+b*sm (n+1) _
  rw [← yu]
  refine dH λk hk=>?_
  by_cases e:k=p
  ·subst e
   rw [Jm,Jm,Jm,dW,dW,dW]
   grind
  ·rw [JQ e,JQ e,JQ e,bj e,bj e,bj e]
   have:=tD a b (λi=>u (i+1)) (λi=>v (i+1)) (n:=n) (mnr M k) (p:=if p<k then p else p - 1) (by split<;>omega)
   rw [this]
   grind
theorem z6:∀{n:Nat} {M:Nat->Nat->Int} {p:Nat},p+1<n->(∀i,i<n->M p i=M (p+1) i)->det n M=0
 |0,_,_,h,_=>absurd h (Nat.not_lt_zero _)
 |n+1,M,p,h,e=>by
  show sm (n+1) _=0
  rw [J4 (p:=p) (q:=p+1) (by omega) h (by omega)]
  ·have:det n (mnr M p)=det n (mnr M (p+1)):=pR λl hl i hi=>by
    unfold mnr
    by_cases q:l=p
    ·subst q
     rw [show skp l l=l+1 by unfold skp;split<;>omega,show skp (l+1) l=l by unfold skp;split<;>omega,e (i+1) (by omega)]
    ·rw [show skp p l=skp (p+1) l by unfold skp;split<;>split<;>omega]
   rw [this,e 0 (by omega)]
   show sg p*_*_ + -sg p*_*_=0
   grind
  ·intro k hk h1 h2
   have:det n (mnr M k)=0:=by
    by_cases q:k<p
    ·refine z6 (p:=p - 1) (by omega) λi hi=>?_
     unfold mnr
     rw [show skp k (p - 1)=p by unfold skp;split<;>omega,show skp k (p - 1+1)=p+1 by unfold skp;split<;>omega]
     exact e (i+1) (by omega)
    ·refine z6 (p:=p) (by omega) λi hi=>?_
     unfold mnr
     rw [show skp k p=p by unfold skp;split<;>omega,show skp k (p+1)=p+1 by unfold skp;split<;>omega]
     exact e (i+1) (by omega)
   rw [this,Int.mul_zero]
theorem Lz {n:Nat}{M:Nat->Nat->Int}{p q:Nat}(hp:p<n)(hq:q<n)(hne:p≠q)(z:∀w:Nat->Int,det n (upd (upd M p w) q w)=0)(u v:Nat->Int):det n (upd (upd M p u) q v)=-det n (upd (upd M p v) q u):=by
 have h:=z λi=>1*u i+1*v i
 rw [tD 1 1 u v (upd M p _) hq,lY hne,lY hne,tD 1 1 u v (upd M q u) hp,tD 1 1 u v (upd M q v) hp,← lY hne,← lY hne,← lY hne,← lY hne,z u,z v] at h
 omega
theorem FQ:∀(d:Nat) {n:Nat} {M:Nat->Nat->Int} {p:Nat},p+d+1<n->(∀i,i<n->M p i=M (p+d+1) i)->det n M=0
 |0,n,M,p,h,e=>z6 h e
 |d+1,n,M,p,h,e=>by
  have z:∀w:Nat->Int,det n (upd (upd M (p+d+1) w) (p+d+2) w)=0:=λw=>z6 (p:=p+d+1) (by omega) λi hi=>by
   rw [bj (by omega),dW,dW]
  have s:=Lz (M:=M) (p:=p+d+1) (q:=p+d+2) (by omega) (by omega) (by omega) z (M (p+d+1)) (M (p+d+2))
  rw [uR,uR] at s
  rw [s,FQ d (p:=p) (by omega)]
  ·rfl
  ·intro i hi
   rw [bj (by omega),bj (by omega),bj (by omega),dW]
   exact e i hi
theorem Ey {n:Nat}{M:Nat->Nat->Int}{p q:Nat}(hp:p<n)(hq:q<n)(hne:p≠q)(e:∀i,i<n->M p i=M q i):det n M=0:=by
 by_cases h:p<q
 ·exact FQ (q-p - 1) (p:=p) (by omega) (by rwa [show p+(q-p - 1)+1=q by omega])
 ·exact FQ (p-q - 1) (p:=q) (by omega) (by rw [show q+(p-q - 1)+1=p by omega];exact λi hi=>(e i hi).symm)
theorem Qg {n:Nat}{M:Nat->Nat->Int}{p q:Nat}(hp:p<n)(hq:q<n)(hne:p≠q)(u v:Nat->Int):det n (upd (upd M p u) q v)=-det n (upd (upd M p v) q u):=
 Lz hp hq hne (λw=>Ey hp hq hne λi hi=>by rw [bj hne,dW,dW]) u v
theorem QJ:∀n:Nat,det n (λk i=>if k=i then 1 else 0)=1
 |0=>rfl
 |n+1=>by
  show sm (n+1) _=1
  rw [rF (p:=0) (by omega)]
  ·have:det n (mnr (λk i=>if k=i then (1:Int) else 0) 0)=det n (λk i=>if k=i then 1 else 0):=pR λk _ i _=>by
    unfold mnr
    rw [show skp 0 k=k+1 by unfold skp;split<;>omega]
    show (if k+1=i+1 then (1:Int) else 0)=if k=i then 1 else 0
    by_cases q:k=i
    ·rw [if_pos (by omega),if_pos q]
    ·rw [if_neg (by omega),if_neg q]
   rw [this,QJ n];rfl
  ·intro k hk h
   show sg k*(if k=0 then (1:Int) else 0)*_=0
   rw [if_neg h];simp
theorem Fj {n:Nat}(M:Nat->Nat->Int){p:Nat}(hp:p<n)(V:Nat->Nat->Int)(x:Nat->Int):∀k:Nat,det n (upd M p λi=>sm k λj=>x j*V j i)=sm k λj=>x j*det n (upd M p (V j))
 |0=>by
  have:=tD 0 0 (λ_=>0) (λ_=>0) M hp
  rw [Int.zero_mul,Int.zero_mul] at this
  show det n (upd M p λ_=>0)=0
  simpa using this
 |k+1=>by
  have:=tD 1 (x k) (λi=>sm k λj=>x j*V j i) (V k) M hp
  rw [Fj M hp V x k,Int.one_mul] at this
  show _=(sm k λj=>x j*det n (upd M p (V j)))+x k*det n (upd M p (V k))
  rw [← this]
  congr 2
  funext i
  show (sm k λj=>x j*V j i)+x k*V k i=1*_+_
  rw [Int.one_mul]
theorem My {n:Nat}(M:Nat->Nat->Int){p:Nat}(hp:p<n)(a:Int)(u:Nat->Int):det n (upd M p λi=>a*u i)=a*det n (upd M p u):=by
 have:=tD a 0 u u M hp
 rw [Int.zero_mul,Int.add_zero] at this
 rw [← this]
 congr 2
 funext i
 rw [Int.zero_mul,Int.add_zero]
def fct:Nat->Nat
 |0=>1
 |n+1=>(n+1)*fct n
theorem Ro:∀k,(sg k).natAbs=1
 |0=>rfl
 |k+1=>by show (-sg k).natAbs=1;rw [Int.natAbs_neg,Ro k]
theorem yI {f:Nat->Int}{B:Nat}:∀{n:Nat},(∀i,i<n->(f i).natAbs<=B)->(sm n f).natAbs<=n*B
 |0,_=>by show (0:Int).natAbs<=_;simp
 |n+1,h=>by
  have h1:=yI (f:=f) (B:=B) (n:=n) λi hi=>h i (by omega)
  have h2:=h n (by omega)
  have h3:=Int.natAbs_add_le (sm n f) (f n)
  show (sm n f+f n).natAbs<=(n+1)*B
  rw [Nat.add_mul,Nat.one_mul]
  omega
theorem zO {X:Nat}:∀{n:Nat} {M:Nat->Nat->Int},(∀k,k<n->∀i,i<n->(M k i).natAbs<=X)->(det n M).natAbs<=fct n*X ^ n
 |0,_,_=>by show (1:Int).natAbs<=1*X ^ 0;simp
 |n+1,M,h=>by
  show (sm (n+1) _).natAbs<=(n+1)*fct n*X ^ (n+1)
  rw [Nat.mul_assoc]
  refine yI λk hk=>?_
  have h1:=zO (X:=X) (M:=mnr M k) λl hl i hi=>h (skp k l) (Sw hl) (i+1) (by omega)
  rw [Int.natAbs_mul,Int.natAbs_mul,Ro,Nat.one_mul,Nat.pow_succ]
  calc (M k 0).natAbs*(det n (mnr M k)).natAbs<=X*(fct n*X ^ n):=Nat.mul_le_mul (h k hk 0 (by omega)) h1
   _=fct n*(X ^ n*X):=by ac_rfl
structure Crn where
 c:Nat->Nat->Int
 b:Int
 h:Nat->Nat
structure Ig (m n:Nat)(T:Nat->Nat->Int):Prop where
 one:∀i,i<n->∀k,k<n->T i (m+k)=if i=k then 1 else 0
 nn:∀i,i<n->0<=T i (m+n)
def bas (T:Nat->Nat->Int)(h:Nat->Nat):Nat->Nat->Int:=λk i=>T i (h k)
structure cz (m n:Nat)(T:Nat->Nat->Int)(D:Crn):Prop where
 pos:0<D.b
 hlt:∀r,r<n->D.h r<m+n
 dt:D.b=det n (bas T D.h)
 eq:∀i,i<n->∀j,sm n (λr=>D.c r j*T i (D.h r))=D.b*T i j
 row:∀r,r<n->∀j,D.c r j=sm n λi=>D.c r (m+i)*T i j
 unit:∀r,r<n->∀k,k<n->D.c r (D.h k)=if r=k then D.b else 0
 nn:∀r,r<n->0<=D.c r (m+n)
section
variable {m n:Nat}{T:Nat->Nat->Int}{D:Crn}
theorem cz.inj (I:cz m n T D){r k:Nat}(hr:r<n)(hk:k<n)(e:D.h r=D.h k):r=k:=by
 by_cases q:r=k
 ·exact q
 ·have h1:=I.unit r hr k hk
  rw [if_neg q,← e,I.unit r hr r hr,if_pos rfl] at h1
  have:=I.pos
  omega
def col (T:Nat->Nat->Int)(j:Nat):Nat->Int:=λi=>T i j
theorem qI {a x y:Int}(ha:0<a)(h:a*x=a*y):x=y:=Int.eq_of_mul_eq_mul_left (by omega) h
theorem cz.cr (I:cz m n T D){r j:Nat}(hr:r<n):D.c r j=det n (upd (bas T D.h) r (col T j)):=by
 have e1:det n (upd (bas T D.h) r λi=>D.b*col T j i)=sm n λk=>D.c k j*det n (upd (bas T D.h) r (bas T D.h k)):=by
  rw [← Fj (bas T D.h) hr (bas T D.h) (λk=>D.c k j) n]
  refine pR λk hk i hi=>?_
  by_cases q:k=r
  ·subst q
   rw [dW,dW]
   exact (I.eq i hi j).symm
  ·rw [bj q,bj q]
 rw [My (bas T D.h) hr D.b (col T j),rF (p:=r) hr] at e1
 ·rw [uR,← I.dt,Int.mul_comm (D.c r j)] at e1
  exact (qI I.pos e1).symm
 ·intro k hk hne
  rw [Ey hr hk (Ne.symm hne) λi hi=>by rw [dW,bj hne],Int.mul_zero]
def nxc (T:Nat->Nat->Int)(h:Nat->Nat)(n p q r j:Nat):Int:=det n (upd (upd (bas T h) p (col T q)) r (col T j))
theorem cz.nx (I:cz m n T D){p q r j:Nat}(hp:p<n)(hr:r<n)(hne:r≠p):D.b*nxc T D.h n p q r j=D.c r j*D.c p q-D.c r q*D.c p j:=by
 have e1:det n (upd (upd (bas T D.h) p (col T q)) r λi=>D.b*col T j i)=sm n λk=>D.c k j*det n (upd (upd (bas T D.h) p (col T q)) r (bas T D.h k)):=by
  rw [← Fj (upd (bas T D.h) p (col T q)) hr (bas T D.h) (λk=>D.c k j) n]
  refine pR λk hk i hi=>?_
  by_cases z:k=r
  ·subst z
   rw [dW,dW]
   exact (I.eq i hi j).symm
  ·rw [bj z,bj z]
 rw [My _ hr D.b (col T j),J4 (p:=r) (q:=p) hr hp hne] at e1
 ·have a1:det n (upd (upd (bas T D.h) p (col T q)) r (bas T D.h r))=D.c p q:=by
   rw [I.cr hp,lY (Ne.symm hne),uR]
  have a2:det n (upd (upd (bas T D.h) p (col T q)) r (bas T D.h p))=-D.c r q:=by
   rw [Qg hp hr (Ne.symm hne),uR,I.cr hr]
  rw [a1,a2] at e1
  show D.b*det n _=_
  rw [e1]
  grind
 ·intro k hk h1 h2
  rw [Ey hr hk (Ne.symm h1) λi hi=>by rw [dW,bj h1,bj h2],Int.mul_zero]
def turn (D:Crn)(p q:Nat):Crn:=⟨λr j=>if r=p then D.c p j else (D.c r j*D.c p q-D.c r q*D.c p j) / D.b,D.c p q,upd D.h p q⟩
theorem pM {p q j:Nat}:(turn D p q).c p j=D.c p j:=if_pos rfl
theorem cz.qR (I:cz m n T D){p q r j:Nat}(hp:p<n)(hr:r<n)(hne:r≠p):D.b*(turn D p q).c r j=D.c r j*D.c p q-D.c r q*D.c p j:=by
 have e:=I.nx (q:=q) (j:=j) hp hr hne
 show D.b*(if r=p then _ else _)=_
 rw [if_neg hne,← e,Int.mul_ediv_cancel_left _ (by have:=I.pos;omega)]
theorem Vo {h:Nat->Nat}{p q:Nat}:bas T (upd h p q)=upd (bas T h) p (col T q):=by
 funext k i
 unfold bas upd col
 split<;>rfl
theorem cz.turn (I:cz m n T D){p q:Nat}(hp:p<n)(hq:q<m+n)(hpos:0<D.c p q)(best:∀r,r<n->0<D.c r q->D.c p (m+n)*D.c r q<=D.c r (m+n)*D.c p q):cz m n T (turn D p q) where
 pos:=hpos
 hlt:=λr hr=>by
  show upd D.h p q r<m+n
  unfold upd
  split
  ·exact hq
  ·exact I.hlt r hr
 dt:=by
  show D.c p q=det n (bas T (upd D.h p q))
  rw [Vo,I.cr hp]
 eq:=λi hi j=>by
  show sm n (λr=>(Sx.turn D p q).c r j*T i (upd D.h p q r))=D.c p q*T i j
  refine qI I.pos ?_
  rw [← iK]
  have e1:sm n (λr=>D.b*((Sx.turn D p q).c r j*T i (upd D.h p q r)))=sm n (λr=>D.c p q*(D.c r j*T i (D.h r))+(-D.c p j)*(D.c r q*T i (D.h r)))+D.c p j*(D.b*T i q):=by
   have e2:∀r,r<n->D.b*((Sx.turn D p q).c r j*T i (upd D.h p q r))=(D.c p q*(D.c r j*T i (D.h r))+(-D.c p j)*(D.c r q*T i (D.h r)))+(if r=p then D.c p j*(D.b*T i q) else 0):=λr hr=>by
    by_cases z:r=p
    ·subst z
     rw [pM,dW,if_pos rfl]
     grind
    ·rw [bj z,if_neg z,Int.add_zero,← Int.mul_assoc,I.qR hp hr z]
     grind
   rw [dH e2,Ak]
   congr 1
   rw [rF (p:=p) hp λr _ z=>if_neg z,if_pos rfl]
  rw [e1,yu,I.eq i hi j,I.eq i hi q]
  grind
 row:=λr hr j=>by
  by_cases z:r=p
  ·subst z
   rw [pM,I.row r hr j]
   exact dH λi _=>by rw [pM]
  ·refine qI I.pos ?_
   rw [I.qR hp hr z,← iK,I.row r hr j,I.row p hp j]
   have:∀i,i<n->D.b*((Sx.turn D p q).c r (m+i)*T i j)=D.c p q*(D.c r (m+i)*T i j)+(-D.c r q)*(D.c p (m+i)*T i j):=λi _=>by
    rw [← Int.mul_assoc,I.qR hp hr z]
    grind
   rw [dH this,yu]
   grind
 unit:=λr hr k hk=>by
  show (Sx.turn D p q).c r (upd D.h p q k)=if r=k then D.c p q else 0
  by_cases zk:k=p
  ·subst zk
   rw [dW]
   by_cases z:r=k
   ·subst z;rw [pM,if_pos rfl]
   ·rw [if_neg z]
    refine qI I.pos ?_
    rw [I.qR hp hr z]
    grind
  ·rw [bj zk]
   by_cases z:r=p
   ·subst z
    rw [pM,I.unit r hr k hk,if_neg (Ne.symm zk),if_neg (Ne.symm zk)]
   ·refine qI I.pos ?_
    rw [I.qR hp hr z,I.unit r hr k hk,I.unit p hp k hk,if_neg (Ne.symm zk)]
    by_cases w:r=k
    ·rw [if_pos w,if_pos w];grind
    ·rw [if_neg w,if_neg w];grind
 nn:=λr hr=>by
  by_cases z:r=p
  ·subst z;rw [pM];exact I.nn r hr
  ·have e:=I.qR (q:=q) (j:=m+n) hp hr z
   have h0:0<=D.c r (m+n)*D.c p q-D.c r q*D.c p (m+n):=by
    by_cases w:0<D.c r q
    ·have:=best r hr w
     rw [Int.mul_comm (D.c r q)]
     omega
    ·have a1:=Int.mul_nonneg (I.nn r hr) (Int.le_of_lt hpos)
     have a2:=Int.mul_nonneg (show 0<=-D.c r q by omega) (I.nn p hp)
     rw [Int.neg_mul] at a2
     omega
   rw [← e] at h0
   exact Int.nonneg_of_mul_nonneg_right h0 I.pos
theorem N6 (F:Ig m n T):cz m n T ⟨T,1,λr=>m+r⟩ where
 pos:=by show (0:Int)<1;decide
 hlt:=λr hr=>by show m+r<m+n;omega
 dt:=by
  show 1=det n λk i=>T i (m+k)
  rw [← QJ n]
  refine pR λk hk i hi=>?_
  rw [F.one i hi k hk]
  by_cases q:k=i
  ·rw [if_pos q,if_pos q.symm]
  ·rw [if_neg q,if_neg (Ne.symm q)]
 eq:=λi hi j=>by
  show sm n (λr=>T r j*T i (m+r))=1*T i j
  rw [rF (p:=i) hi,F.one i hi i hi,if_pos rfl]
  ·omega
  ·intro r hr z
   rw [F.one i hi r hr,if_neg (Ne.symm z),Int.mul_zero]
 row:=λr hr j=>by
  show T r j=sm n λi=>T r (m+i)*T i j
  rw [rF (p:=r) hr,F.one r hr r hr,if_pos rfl]
  ·omega
  ·intro i hi z
   rw [F.one r hr i hi,if_neg (Ne.symm z),Int.zero_mul]
 unit:=λr hr k hk=>F.one r hr k hk
 nn:=F.nn
def wv (n:Nat)(D:Crn)(W:Nat->Int)(j:Nat):Int:=D.b*W j-sm n λr=>D.c r j*W (D.h r)
theorem zM (I:cz m n T D){p q j:Nat}(W:Nat->Int)(hp:p<n):D.b*wv n (turn D p q) W j=wv n D W j*D.c p q-wv n D W q*D.c p j:=by
 unfold wv
 have e1:D.b*sm n (λr=>(Sx.turn D p q).c r j*W ((Sx.turn D p q).h r))=sm n (λr=>D.c p q*(D.c r j*W (D.h r))+(-D.c p j)*(D.c r q*W (D.h r)))+D.c p j*(D.b*W q):=by
  rw [← iK]
  have e2:∀r,r<n->D.b*((Sx.turn D p q).c r j*W ((Sx.turn D p q).h r))=(D.c p q*(D.c r j*W (D.h r))+(-D.c p j)*(D.c r q*W (D.h r)))+(if r=p then D.c p j*(D.b*W q) else 0):=λr hr=>by
   show D.b*((Sx.turn D p q).c r j*W (upd D.h p q r))=_
   by_cases z:r=p
   ·subst z
    rw [pM,dW,if_pos rfl]
    grind
   ·rw [bj z,if_neg z,Int.add_zero,← Int.mul_assoc,I.qR hp hr z]
    grind
  rw [dH e2,Ak]
  congr 1
  rw [rF (p:=p) hp λr _ z=>if_neg z,if_pos rfl]
 rw [Int.mul_sub,e1,yu]
 show D.b*(D.c p q*W j) - _=_
 grind
theorem xG (I:cz m n T D)(W:Nat->Int){k:Nat}(hk:k<n):wv n D W (D.h k)=0:=by
 unfold wv
 rw [rF (p:=k) hk,I.unit k hk k hk,if_pos rfl]
 ·omega
 ·intro r hr z
  rw [I.unit r hr k hk,if_neg z,Int.zero_mul]
theorem yR (I:cz m n T D){W:Nat->Int}(hW:∀j,m<=j->W j=0)(j:Nat):wv n D W j=D.b*W j+sm n λi=>wv n D W (m+i)*T i j:=by
 have e1:∀i,i<n->wv n D W (m+i)*T i j=sm n λr=>(-W (D.h r))*(D.c r (m+i)*T i j):=λi _=>by
  unfold wv
  rw [hW (m+i) (by omega),Int.mul_zero,Int.zero_sub,Int.neg_mul,Int.mul_comm,← iK,← Int.neg_one_mul,← iK]
  exact dH λr _=>by grind
 have e2:sm n (λi=>wv n D W (m+i)*T i j)=sm n λr=>(-W (D.h r))*D.c r j:=by
  rw [dH e1,Gb]
  exact dH λr hr=>by rw [iK,← I.row r hr j]
 rw [e2]
 unfold wv
 rw [Int.sub_eq_add_neg,← Int.neg_one_mul,← iK]
 congr 1
 exact dH λr _=>by grind
theorem Hl (I:cz m n T D){W:Nat->Int}(hW:∀j,m<=j->W j=0):sm n (λr=>D.c r (m+n)*W (D.h r))=-wv n D W (m+n):=by
 unfold wv
 rw [hW (m+n) (by omega)]
 omega
end
section
variable {m n:Nat}{T:Nat->Nat->Int}{W:Nat->Int}{A:Nat->Bool}
def Hc (m n:Nat)(W:Nat->Int)(A:Nat->Bool)(D:Crn)(q:Nat):Prop:=q<m+n/\A q=true/\wv n D W q<0/\∀j,j<q->A j=true->0<=wv n D W j
def Ends (m n:Nat)(D:Crn)(q p:Nat):Prop:=p<n/\0<D.c p q/\∀r,r<n->0<D.c r q->r≠p->D.c p (m+n)*D.c r q<D.c r (m+n)*D.c p q\/(D.c p (m+n)*D.c r q=D.c r (m+n)*D.c p q/\D.h p<D.h r)
theorem Ends.best {D:Crn}{q p:Nat}(E:Ends m n D q p):∀r,r<n->0<D.c r q->D.c p (m+n)*D.c r q<=D.c r (m+n)*D.c p q:=λr hr h=>by
 by_cases z:r=p
 ·subst z;exact Int.le_refl _
 ·rcases E.2.2 r hr h z with h | h<;>omega
def Hd (n:Nat)(D:Crn)(v:Nat):Prop:=∃r,r<n/\D.h r=v
def Nz (m n:Nat)(D:Crn)(v:Nat):Prop:=∃r,r<n/\D.h r=v/\D.c r (m+n)≠0
structure Ok (m n:Nat)(T:Nat->Nat->Int)(A:Nat->Bool)(D:Crn):Prop where
 I:cz m n T D
 a:∀r,r<n->A (D.h r)=true
theorem Ok.turn {D:Crn}{p q:Nat}(O:Ok m n T A D)(H:Hc m n W A D q)(E:Ends m n D q p):Ok m n T A (turn D p q):=by
 refine ⟨O.I.turn E.1 H.1 E.2.1 E.best,λr hr=>?_⟩
 show A (upd D.h p q r)=true
 unfold upd
 split
 ·exact H.2.1
 ·exact O.a r hr
theorem U0 {D:Crn}{p q v:Nat}(hp:p<n)(h1:q≠v)(h2:D.h p≠v):Hd n (turn D p q) v↔Hd n D v:=by
 constructor
 ·intro ⟨r,hr,e⟩
  have e:upd D.h p q r=v:=e
  by_cases z:r=p
  ·subst z;rw [dW] at e;exact absurd e h1
  ·rw [bj z] at e;exact ⟨r,hr,e⟩
 ·intro ⟨r,hr,e⟩
  have z:r≠p:=λz=>by subst z;exact h2 e
  exact ⟨r,hr,by show upd D.h p q r=v;rw [bj z];exact e⟩
theorem Te {D:Crn}(I:cz m n T D){p q v:Nat}(hp:p<n)(hq:0<D.c p q)(h0:D.c p (m+n)=0):Nz m n (turn D p q) v↔Nz m n D v:=by
 have key:∀r,r<n->r≠p->((turn D p q).c r (m+n)=0↔D.c r (m+n)=0):=λr hr z=>by
  have e:=I.qR (q:=q) (j:=m+n) hp hr z
  rw [h0,Int.mul_zero,Int.sub_zero] at e
  have:=I.pos
  constructor
  ·intro w
   rw [w,Int.mul_zero] at e
   rcases Int.mul_eq_zero.mp e.symm with x | x
   ·exact x
   ·omega
  ·intro w
   rw [w,Int.zero_mul] at e
   rcases Int.mul_eq_zero.mp e with x | x
   ·omega
   ·exact x
 constructor
 ·intro ⟨r,hr,e,hz⟩
  by_cases z:r=p
  ·subst z;rw [pM] at hz;exact absurd h0 hz
  ·have e:upd D.h p q r=v:=e
   rw [bj z] at e
   exact ⟨r,hr,e,λw=>hz ((key r hr z).mpr w)⟩
 ·intro ⟨r,hr,e,hz⟩
  have z:r≠p:=λz=>by subst z;exact hz h0
  exact ⟨r,hr,by show upd D.h p q r=v;rw [bj z];exact e,λw=>hz ((key r hr z).mp w)⟩
structure Run (m n:Nat)(T:Nat->Nat->Int)(W:Nat->Int)(A:Nat->Bool)(L:Nat)(s:Nat->Crn)(p q:Nat->Nat):Prop where
 ok:∀i,i<=L->Ok m n T A (s i)
 help:∀i,i<L->Hc m n W A (s i) (q i)
 ends:∀i,i<L->Ends m n (s i) (q i) (p i)
 next:∀i,i<L->s (i+1)=turn (s i) (p i) (q i)
 deg:∀i,i<L->(s i).c (p i) (m+n)=0
variable {L:Nat}{s:Nat->Crn}{p q:Nat->Nat}
theorem Run.nz (R:Run m n T W A L s p q)(v:Nat):∀i,i<=L->(Nz m n (s i) v↔Nz m n (s 0) v)
 |0,_=>Iff.rfl
 |i+1,h=>by
  rw [R.next i (by omega),Te (R.ok i (by omega)).I (R.ends i (by omega)).1 (R.ends i (by omega)).2.1 (R.deg i (by omega))]
  exact R.nz v i (by omega)
theorem Run.chg (R:Run m n T W A L s p q){v a:Nat}:∀d,a+d<=L->(∀i,a<=i->i<a+d->q i≠v/\(s i).h (p i)≠v)->(Hd n (s (a+d)) v↔Hd n (s a) v)
 |0,_,_=>Iff.rfl
 |d+1,h,k=>by
  have hk:=k (a+d) (by omega) (by omega)
  show Hd n (s (a+d+1)) v↔_
  rw [R.next (a+d) (by omega),U0 (R.ends (a+d) (by omega)).1 hk.1 hk.2]
  exact R.chg d (by omega) λi h1 h2=>k i h1 (by omega)
theorem Run.aaJ (R:Run m n T W A L s p q){v a b i j:Nat}(hb:b<=L)(k:∀i,a<=i->i<b->q i≠v/\(s i).h (p i)≠v)(h1:a<=i)(h2:i<=b)(h3:a<=j)(h4:j<=b):Hd n (s i) v↔Hd n (s j) v:=by
 have e1:=R.chg (v:=v) (a:=a) (i-a) (by omega) λx hx hy=>k x hx (by omega)
 have e2:=R.chg (v:=v) (a:=a) (j-a) (by omega) λx hx hy=>k x hx (by omega)
 rw [show a+(i-a)=i by omega] at e1
 rw [show a+(j-a)=j by omega] at e2
 exact e1.trans e2.symm
theorem cross {D E:Crn}(I:cz m n T D)(J:cz m n T E)(hW:∀j,m<=j->W j=0)(x:Nat):D.b*wv n E W x-sm n (λr=>D.c r x*wv n E W (D.h r))=E.b*wv n D W x:=by
 have e1:∀r,r<n->D.c r x*wv n E W (D.h r)=E.b*(D.c r x*W (D.h r))+1*sm n λi=>wv n E W (m+i)*(D.c r x*T i (D.h r)):=λr _=>by
  rw [yR J hW (D.h r),Int.mul_add,← iK,Int.one_mul]
  congr 1
  ·grind
  ·exact dH λi _=>by grind
 rw [dH e1,yu,Gb]
 have e2:sm n (λi=>sm n λr=>wv n E W (m+i)*(D.c r x*T i (D.h r)))=D.b*sm n λi=>wv n E W (m+i)*T i x:=by
  rw [← iK]
  exact dH λi hi=>by
   rw [iK,I.eq i hi x]
   grind
 rw [e2,yR J hW x]
 unfold wv
 grind
theorem Run.YM (R:Run m n T W A L s p q)(hW:∀j,m<=j->W j=0){a b t i j:Nat}(hb:b<=L)(k:∀i,a<=i->i<b->q i<=t/\(s i).h (p i)<=t)(h1:a<=i)(h2:i<b)(h3:a<=j)(h4:j<b)(hl:(s i).h (p i)=t)(he:q j=t):False:=by
 have Oi:=R.ok i (by omega)
 have Oj:=R.ok j (by omega)
 obtain ⟨a1,a2,a3,a4⟩:=R.help i (by omega)
 obtain ⟨b1,b2,b3⟩:=R.ends i (by omega)
 obtain ⟨c1,c2,c3,c4⟩:=R.help j (by omega)
 rw [he] at c1 c2 c3 c4
 have E:=cross (W:=W) Oi.I Oj.I hW (q i)
 have hs:q i<t:=by
  have h:=(k i h1 h2).1
  have:q i≠t:=λz=>by
   have:=xG Oi.I W b1
   rw [hl,← z] at this
   omega
  omega
 have hs0:=c4 (q i) hs a2
 have e1:=Int.mul_nonneg (Int.le_of_lt Oi.I.pos) hs0
 have e2:(s j).b*wv n (s i) W (q i)<0:=Int.mul_neg_of_pos_of_neg Oj.I.pos a3
 obtain ⟨r,hr,hpos⟩:=RN (f:=λr=>(s i).c r (q i)*wv n (s j) W ((s i).h r)) (n:=n) (by omega)
 have hrp:r≠p i:=λz=>by
  subst z
  rw [hl] at hpos
  have:=Int.mul_neg_of_pos_of_neg b2 c3
  omega
 have hv:(s i).h r≠t:=λz=>hrp (Oi.I.inj hr b1 (by rw [z,hl]))
 have nh:¬Hd n (s j) ((s i).h r):=λ⟨x,hx,e⟩=>by
  have:=xG Oj.I W hx
  rw [e] at this
  rw [this,Int.mul_zero] at hpos
  omega
 have hlt:(s i).h r<t:=by
  by_cases z:(s i).h r<=t
  ·omega
  ·exact absurd ((R.aaJ hb (λx hx hy=>by have:=k x hx hy;omega) h1 (by omega) h3 (by omega)).mp ⟨r,hr,rfl⟩) nh
 have hw0:=c4 _ hlt (Oi.a r hr)
 have hc:0<(s i).c r (q i):=by
  by_cases z:0<(s i).c r (q i)
  ·exact z
  ·have:=Int.mul_nonneg (show 0<=-(s i).c r (q i) by omega) hw0
   rw [Int.neg_mul] at this
   omega
 have hz:(s i).c r (m+n)=0:=by
  by_cases z:(s i).c r (m+n)=0
  ·exact z
  ·have:Nz m n (s j) ((s i).h r):=(R.nz _ j (by omega)).mpr ((R.nz _ i (by omega)).mp ⟨r,hr,rfl,z⟩)
   obtain ⟨x,hx,e,_⟩:=this
   exact absurd ⟨x,hx,e⟩ nh
 have hd:=R.deg i (by omega)
 rcases b3 r hr hc hrp with h | ⟨_,h⟩
 ·rw [hd,hz,Int.zero_mul,Int.zero_mul] at h;omega
 ·rw [hl] at h;omega
theorem Run.len (R:Run m n T W A L s p q)(hW:∀j,m<=j->W j=0):∀k a b,a<=b->b<=L->(∀i,a<=i->i<b->q i<k/\(s i).h (p i)<k)->b-a+1<=2 ^ k
 |0,a,b,hab,hb,h=>by
  by_cases z:a=b
  ·subst z;simp
  ·have:=h a (by omega) (by omega);omega
 |k+1,a,b,hab,hb,h=>by
  have hp:2 ^ (k+1)=2 ^ k+2 ^ k:=by rw [Nat.pow_succ];omega
  by_cases ex:∃i,a<=i/\i<b/\(q i=k\/(s i).h (p i)=k)
  ·obtain ⟨i,i1,i2,i3⟩:=ex
   have bl:∀x y,a<=x->x<b->a<=y->y<b->(s x).h (p x)=k->q y=k->False:=λx y x1 x2 y1 y2 e1 e2=>R.YM hW hb (λz z1 z2=>by have:=h z z1 z2;omega) x1 x2 y1 y2 e1 e2
   have inn:∀x y,a<=x->x<y->y<b->q x=k->q y=k->False:=λx y x1 x2 y1 e1 e2=>by
    have hh:Hd n (s (x+1)) k:=by
     rw [R.next x (by omega)]
     exact ⟨p x,(R.ends x (by omega)).1,by show upd (s x).h (p x) (q x) (p x)=k;rw [dW,e1]⟩
    have hn:¬Hd n (s y) k:=λ⟨r,hr,e⟩=>by
     have h1:=(R.help y (by omega)).2.2.1
     have h2:=xG (R.ok y (by omega)).I W hr
     rw [e,← e2] at h2
     omega
    by_cases lv:∃z,x+1<=z/\z<y/\(s z).h (p z)=k
    ·obtain ⟨z,z1,z2,z3⟩:=lv
     exact bl z x (by omega) (by omega) x1 (by omega) z3 e1
    ·have go:∀d,x+1+d<=y->Hd n (s (x+1+d)) k:=λd=>by
      induction d with
      |zero=>exact λ_=>hh
      |succ d ih=>
       intro hd
       obtain ⟨r,hr,e⟩:=ih (by omega)
       show Hd n (s (x+1+d+1)) k
       rw [R.next (x+1+d) (by omega)]
       have z:r≠p (x+1+d):=λz=>lv ⟨x+1+d,by omega,by omega,by rw [← z];exact e⟩
       exact ⟨r,hr,by show upd (s (x+1+d)).h _ _ r=k;rw [bj z];exact e⟩
     have:=go (y-(x+1)) (by omega)
     rw [show x+1+(y-(x+1))=y by omega] at this
     exact hn this
   have out:∀x y,a<=x->x<y->y<b->(s x).h (p x)=k->(s y).h (p y)=k->False:=λx y x1 x2 y1 e1 e2=>by
    have hn:¬Hd n (s (x+1)) k:=by
     rw [R.next x (by omega)]
     intro ⟨r,hr,e⟩
     have e:upd (s x).h (p x) (q x) r=k:=e
     by_cases z:r=p x
     ·subst z
      rw [dW] at e
      exact bl x x x1 (by omega) x1 (by omega) e1 e
     ·rw [bj z] at e
      exact z ((R.ok x (by omega)).I.inj hr (R.ends x (by omega)).1 (by rw [e,e1]))
    have hh:Hd n (s y) k:=⟨p y,(R.ends y (by omega)).1,e2⟩
    have go:∀d,x+1+d<=y->¬Hd n (s (x+1+d)) k:=λd=>by
     induction d with
     |zero=>exact λ_=>hn
     |succ d ih=>
      intro hd ⟨r,hr,e⟩
      refine ih (by omega) ?_
      have e:(s (x+1+d+1)).h r=k:=e
      rw [R.next (x+1+d) (by omega)] at e
      have e:upd (s (x+1+d)).h (p (x+1+d)) (q (x+1+d)) r=k:=e
      by_cases z:r=p (x+1+d)
      ·subst z
       rw [dW] at e
       exact (bl x (x+1+d) x1 (by omega) (by omega) (by omega) e1 e).elim
      ·rw [bj z] at e
       exact ⟨r,hr,e⟩
    have:=go (y-(x+1)) (by omega)
    rw [show x+1+(y-(x+1))=y by omega] at this
    exact this hh
   have only:∀x,a<=x->x<b->x≠i->q x<k/\(s x).h (p x)<k:=λx x1 x2 x3=>by
    have hx:=h x x1 x2
    have n1:q x≠k:=λe=>by
     rcases i3 with e2 | e2
     ·rcases Nat.lt_or_gt_of_ne x3 with z | z
      ·exact inn x i x1 z i2 e e2
      ·exact inn i x i1 z x2 e2 e
     ·exact bl i x i1 i2 x1 x2 e2 e
    have n2:(s x).h (p x)≠k:=λe=>by
     rcases i3 with e2 | e2
     ·exact bl x i x1 x2 i1 i2 e e2
     ·rcases Nat.lt_or_gt_of_ne x3 with z | z
      ·exact out x i x1 z i2 e e2
      ·exact out i x i1 z x2 e2 e
    omega
   have l1:=R.len hW k a i i1 (by omega) λx x1 x2=>only x x1 (by omega) (by omega)
   have l2:=R.len hW k (i+1) b (by omega) hb λx x1 x2=>only x (by omega) x2 (by omega)
   omega
  ·have l1:=R.len hW k a b hab hb λx x1 x2=>by
    have hx:=h x x1 x2
    have n1:q x≠k:=λe=>ex ⟨x,x1,x2,.inl e⟩
    have n2:(s x).h (p x)≠k:=λe=>ex ⟨x,x1,x2,.inr e⟩
    omega
   omega
theorem Run.short (R:Run m n T W A L s p q)(hW:∀j,m<=j->W j=0):L+1<=2 ^ (m+n):=
 R.len hW (m+n) 0 L (by omega) (Nat.le_refl _) λi _ h=>⟨(R.help i h).1,(R.ok i (by omega)).I.hlt _ (R.ends i h).1⟩
def Step (m n:Nat)(W:Nat->Int)(A:Nat->Bool)(D' D:Crn):Prop:=∃p q,Hc m n W A D q/\Ends m n D q p/\D'=turn D p q
def mu (K:Int)(n m:Nat)(W:Nat->Int)(D:Crn):Nat:=((K*D.b-wv n D W (m+n))*(K*K) / D.b).toNat
theorem VB {K b b' v v' x:Int}(hb:0<b)(hb':0<b')(hbK:b<=K)(hbK':b'<=K)(e:b*v'=v*b'-x)(hx:x<=0)(h1:v<=K*b)(h2:v'<=K*b'):((K*b'-v')*(K*K) / b').toNat<=((K*b-v)*(K*K) / b).toNat/\(x<0->((K*b'-v')*(K*K) / b').toNat<((K*b-v)*(K*K) / b).toNat):=by
 have hK:0<=K*K:=Int.mul_nonneg (by omega) (by omega)
 have n':0<=(K*b'-v')*(K*K) / b':=Int.ediv_nonneg (Int.mul_nonneg (by omega) hK) (by omega)
 have f1:(K*b'-v')*(K*K) / b'*b'<=(K*b'-v')*(K*K):=Int.ediv_mul_le _ (by omega)
 generalize (K*b'-v')*(K*K) / b'=f at *
 have f2:b*(f*b')<=b*((K*b'-v')*(K*K)):=Int.mul_le_mul_of_nonneg_left f1 (by omega)
 have e2:b*((K*b'-v')*(K*K))=(K*b-v)*(K*K)*b'+x*(K*K):=by grind
 have bb:b*b'<=K*K:=Int.mul_le_mul hbK hbK' (by omega) (by omega)
 constructor
 ·have g:f<=(K*b-v)*(K*K) / b:=by
   rw [Int.le_ediv_iff_mul_le hb]
   refine Int.le_of_mul_le_mul_right ?_ hb'
   have:=Int.mul_nonpos_of_nonneg_of_nonpos hK hx
   rw [Int.mul_comm] at this
   rw [show f*b*b'=b*(f*b') by grind]
   omega
  omega
 ·intro hx
  have g:f+1<=(K*b-v)*(K*K) / b:=by
   rw [Int.le_ediv_iff_mul_le hb]
   refine Int.le_of_mul_le_mul_right ?_ hb'
   have:x*(K*K)<=-1*(K*K):=Int.mul_le_mul_of_nonneg_right (by omega) hK
   rw [show (f+1)*b*b'=b*(f*b')+b*b' by grind]
   omega
  omega
structure Big (m n:Nat)(T:Nat->Nat->Int)(W:Nat->Int)(K:Int):Prop where
 b:∀D,cz m n T D->D.b<=K
 w:∀D,cz m n T D->wv n D W (m+n)<=K*D.b
theorem Ua {K:Int}(B:Big m n T W K){D:Crn}(O:Ok m n T A D){p q:Nat}(H:Hc m n W A D q)(E:Ends m n D q p):mu K n m W (turn D p q)<=mu K n m W D/\(D.c p (m+n)≠0->mu K n m W (turn D p q)<mu K n m W D):=by
 have O':=O.turn H E
 have e:=zM (p:=p) (q:=q) (j:=m+n) O.I W E.1
 have nn:=O.I.nn p E.1
 have hx:wv n D W q*D.c p (m+n)<=0:=by
  rw [Int.mul_comm]
  exact Int.mul_nonpos_of_nonneg_of_nonpos nn (Int.le_of_lt H.2.2.1)
 have c:=VB (K:=K) O.I.pos E.2.1 (B.b D O.I) (B.b _ O'.I) e hx (B.w D O.I) (B.w _ O'.I)
 exact ⟨c.1,λz=>c.2 (Int.mul_neg_of_neg_of_pos H.2.2.1 (by omega))⟩
theorem Qe (R:Run m n T W A L s p q){pp qq:Nat}(H:Hc m n W A (s L) qq)(E:Ends m n (s L) qq pp)(d:(s L).c pp (m+n)=0):Run m n T W A (L+1) (upd s (L+1) (turn (s L) pp qq)) (upd p L pp) (upd q L qq):=by
 refine ⟨λi hi=>?_,λi hi=>?_,λi hi=>?_,λi hi=>?_,λi hi=>?_⟩
 ·by_cases z:i=L+1
  ·subst z;rw [dW];exact (R.ok L (Nat.le_refl _)).turn H E
  ·rw [bj z];exact R.ok i (by omega)
 all_goals
  rw [bj (show i≠L+1 by omega)]
  by_cases z:i=L
  ·subst z
   simp only [dW]
   all_goals first | exact H | exact E | exact d
  ·simp only [bj z]
   first | exact R.help i (by omega) | exact R.ends i (by omega) | exact R.deg i (by omega) | (rw [bj (show i+1≠L+1 by omega)];exact R.next i (by omega))
theorem Km {K:Int}(B:Big m n T W K)(hW:∀j,m<=j->W j=0)(k:Nat)(ih:∀D,Ok m n T A D->mu K n m W D<k->Acc (Step m n W A) D):∀(d L:Nat) (s:Nat->Crn) (p q:Nat->Nat),L+d=2 ^ (m+n)->Run m n T W A L s p q->mu K n m W (s L)<=k->Acc (Step m n W A) (s L)
 |0,L,s,p,q,hd,R,hm=>by
  have:=R.short hW
  omega
 |d+1,L,s,p,q,hd,R,hm=>by
  refine Acc.intro _ λD' ⟨pp,qq,H,E,e⟩=>?_
  have O:=R.ok L (Nat.le_refl _)
  obtain ⟨m1,m2⟩:=Ua B O H E
  subst e
  by_cases z:(s L).c pp (m+n)=0
  ·have:=Km B hW k ih d (L+1) _ _ _ (by omega) (Qe R H E z) (by rw [dW];omega)
   rwa [dW] at this
  ·exact ih _ (O.turn H E) (by have:=m2 z;omega)
theorem Lq {K:Int}(B:Big m n T W K)(hW:∀j,m<=j->W j=0):∀(k:Nat) (D:Crn),Ok m n T A D->mu K n m W D<k->Acc (Step m n W A) D
 |0,D,_,h=>absurd h (Nat.not_lt_zero _)
 |k+1,D,O,h=>Km B hW k (Lq B hW k) (2 ^ (m+n)) 0 (λ_=>D) (λ_=>0) (λ_=>0) (by omega) ⟨λ_ _=>O,(λ_ z=>absurd z (Nat.not_lt_zero _)),(λ_ z=>absurd z (Nat.not_lt_zero _)),(λ_ z=>absurd z (Nat.not_lt_zero _)),(λ_ z=>absurd z (Nat.not_lt_zero _))⟩ (by omega)
theorem X5 {K:Int}(B:Big m n T W K)(hW:∀j,m<=j->W j=0){D:Crn}(O:Ok m n T A D):Acc (Step m n W A) D:=Lq B hW (mu K n m W D+1) D O (Nat.lt_succ_self _)
structure Szs (m n:Nat)(T:Nat->Nat->Int)(X:Nat):Prop where
 t:∀i,i<n->∀j,j<=m+n->(T i j).natAbs<=X
theorem cz.cle {D:Crn}{X:Nat}(S:Szs m n T X)(I:cz m n T D){r j:Nat}(hr:r<n)(hj:j<=m+n):(D.c r j).natAbs<=fct n*X ^ n:=by
 rw [I.cr hr]
 refine zO λk hk i hi=>?_
 by_cases z:k=r
 ·subst z;rw [dW];exact S.t i hi j hj
 ·rw [bj z];exact S.t i hi _ (by have:=I.hlt k hk;omega)
theorem cz.ble {D:Crn}{X:Nat}(S:Szs m n T X)(I:cz m n T D):D.b.natAbs<=fct n*X ^ n:=by
 rw [I.dt]
 exact zO λk hk i hi=>S.t i hi _ (by have:=I.hlt k hk;omega)
theorem cz.wle {D:Crn}{X Y:Nat}(S:Szs m n T X)(hW:∀j,j<=m+n->(W j).natAbs<=Y)(I:cz m n T D){j:Nat}(hj:j<=m+n):(wv n D W j).natAbs<=(n+1)*(fct n*X ^ n*Y):=by
 unfold wv
 have h1:(D.b*W j).natAbs<=fct n*X ^ n*Y:=by
  rw [Int.natAbs_mul]
  exact Nat.mul_le_mul (I.ble S) (hW j hj)
 have h2:(sm n λr=>D.c r j*W (D.h r)).natAbs<=n*(fct n*X ^ n*Y):=yI λr hr=>by
  rw [Int.natAbs_mul]
  exact Nat.mul_le_mul (I.cle S hr hj) (hW _ (by have:=I.hlt r hr;omega))
 rw [Nat.add_mul,Nat.one_mul]
 omega
theorem Wk {X Y:Nat}(S:Szs m n T X)(hW:∀j,j<=m+n->(W j).natAbs<=Y):Big m n T W (((n+1)*(fct n*X ^ n*Y)+fct n*X ^ n:Nat):Int):=by
 refine ⟨λD I=>?_,λD I=>?_⟩
 ·have:=I.ble S
  omega
 ·have h1:=I.wle S hW (Nat.le_refl (m+n))
  have h2:=I.pos
  have h3:(((n+1)*(fct n*X ^ n*Y)+fct n*X ^ n:Nat):Int)*1<=(((n+1)*(fct n*X ^ n*Y)+fct n*X ^ n:Nat):Int)*D.b:=Int.mul_le_mul_of_nonneg_left (by omega) (by omega)
  omega
end
end Sx
namespace K37
open PySem L2 Hd F
section
variable {m n K:Nat}{s ws:Nat->Int}{bt:Int}{c wl:Nat->Nat->Int}{h:Nat->Nat}
def hD (n:Nat)(h:Nat->Nat):D:=.lst (rg n λi=>.int (h i))
theorem zJ {i:Nat}(hi:i<n):gIx (hD n h) (.int i)=some (.int (h i)):=oW hi
def Ahd (m n:Nat)(c:Nat->Nat->Int)(h:Nat->Nat)(k i p:Nat):Prop:=c i (m+n)*c p k<c p (m+n)*c i k\/(c i (m+n)*c p k=c p (m+n)*c i k/\h i<h p)
instance {k i p:Nat}:Decidable (Ahd m n c h k i p):=by unfold Ahd;infer_instance
theorem Qy {i p k:Nat}(hi:i<n)(hp:p<n)(hk:k<m+n+1)(hB:∀r j,Bg (c r j)):dR [obj m n K s ws c wl bt (hD n h),.int i,.int p,.int k]=.ok (false,.bl (decide (Ahd m n c h k i p))):=by
 by_cases q:c i (m+n)*c p k=c p (m+n)*c i k
 ·have e:decide (Ahd m n c h k i p)=decide (h i<h p):=decide_eq_decide.mpr ⟨λz=>by rcases z with z | z;exact absurd q (by omega);exact z.2,λz=>.inr ⟨q,z⟩⟩
  rw [e]
  simp [dR,c7,gO,gK,aU,bf,aA,cA,aj,qT,BP,ym hi,ym hp,kh hk,Jw,zJ hi,zJ hp,fUn,fC,rJ,eV,hB,gIf,aQ,q,bT,Me.let,Sl.let,iI,gLt]
 ·have e:decide (Ahd m n c h k i p)=decide (c i (m+n)*c p k<c p (m+n)*c i k):=decide_eq_decide.mpr ⟨λz=>by rcases z with z | z;exact z;exact absurd z.1 q,λz=>.inl z⟩
  rw [e]
  simp [dR,c7,gO,gK,aU,bf,aA,cA,aj,qT,BP,ym hi,ym hp,kh hk,Jw,zJ hi,zJ hp,fUn,fC,rJ,eV,hB,gIf,aQ,q,bT,Me.let,Sl.let,iI,gLt,gNx]
def Zq (m n:Nat)(c:Nat->Nat->Int)(h:Nat->Nat)(k i:Nat):Option Nat->Prop
 |none=>∀j,j<i->c j k<=0
 |some p=>p<i/\0<c p k/\∀j,j<i->0<c j k->j≠p->Ahd m n c h k p j
theorem PQ {i k:Nat}{o fd:D}(hk:k<m+n+1)(q:¬0<c i k):bV [.fz o,.fz (.int k),.fz fd,.fz (.int i),.fz (iL (m+n+1) (c i))]=.ok (.nx,[.fz o,.fz (.int k),.fz fd,.fz (.int i),.fz (iL (m+n+1) (c i))]):=by
 simp [bV,gIf,kW,aQ,aA,aj,kh hk,fC,gGt,gLt,q,gNx]
theorem Ny {i k:Nat}{o:D}(hk:k<m+n+1)(q:0<c i k):bV [.fz o,.fz (.int k),.fz .non,.fz (.int i),.fz (iL (m+n+1) (c i))]=.ok (.nx,[.fz o,.fz (.int k),.fz (.int i),.fz (.int i),.fz (iL (m+n+1) (c i))]):=by
 simp [bV,gIf,kW,oh,aQ,aA,aj,kh hk,fC,gGt,gLt,q,gIs,Im,bf,aD]
theorem RW {i p k:Nat}(hi:i<n)(hp:p<n)(hk:k<m+n+1)(hB:∀r j,Bg (c r j))(q:0<c i k):bV [.fz (obj m n K s ws c wl bt (hD n h)),.fz (.int k),.fz (.int p),.fz (.int i),.fz (iL (m+n+1) (c i))]=.ok (.nx,[.fz (obj m n K s ws c wl bt (hD n h)),.fz (.int k),.fz (.int (if Ahd m n c h k i p then (i:Int) else p)),.fz (.int i),.fz (iL (m+n+1) (c i))]):=by
 have ob:mR "Corner" "ends_ahead" (obj m n K s ws c wl bt (hD n h))=true:=sG (by decide)
 have ea:=Qy (K:=K) (s:=s) (ws:=ws) (wl:=wl) (bt:=bt) (h:=h) hi hp hk hB
 by_cases z:Ahd m n c h k i p
 ·simp [bV,gIf,kW,oh,aQ,aA,aj,kh hk,fC,gGt,gLt,q,gIs,Im,bf,aD,fTv,fMt,ob,aa,az,ea,uM,gj,z]
 ·simp [bV,gIf,kW,oh,aQ,aA,aj,kh hk,fC,gGt,gLt,q,gIs,Im,bf,aD,fTv,fMt,ob,aa,az,ea,uM,gj,z,gNx]
theorem Dj {a b x y u v:Int}(hb:0<b)(hy:0<y)(hv:0<v)(h1:a*b<x*y\/a*b<=x*y/\x*v<u*b)(h2:x*v<=u*b):a*v<u*y:=by
 rcases h1 with h1 | ⟨h1,h3⟩
 ·have e1:a*b*v<x*y*v:=Int.mul_lt_mul_of_pos_right h1 hv
  have e2:x*v*y<=u*b*y:=Int.mul_le_mul_of_nonneg_right h2 (Int.le_of_lt hy)
  refine Int.lt_of_mul_lt_mul_right (a:=b) ?_ (Int.le_of_lt hb)
  have f1:a*v*b=a*b*v:=by grind
  have f2:u*y*b=u*b*y:=by grind
  have f3:x*v*y=x*y*v:=by grind
  omega
 ·have e1:a*b*v<=x*y*v:=Int.mul_le_mul_of_nonneg_right h1 (Int.le_of_lt hv)
  have e2:x*v*y<u*b*y:=Int.mul_lt_mul_of_pos_right h3 hy
  refine Int.lt_of_mul_lt_mul_right (a:=b) ?_ (Int.le_of_lt hb)
  have f1:a*v*b=a*b*v:=by grind
  have f2:u*y*b=u*b*y:=by grind
  have f3:x*v*y=x*y*v:=by grind
  omega
theorem Om {k i p j:Nat}(hi:0<c i k)(hp:0<c p k)(hj:0<c j k)(h1:Ahd m n c h k i p)(h2:Ahd m n c h k p j):Ahd m n c h k i j:=by
 unfold Ahd at *
 rcases h1 with h1 | ⟨h1,h1'⟩
 ·refine .inl (Dj (a:=c i (m+n)) (b:=c p k) (x:=c p (m+n)) (y:=c i k) (u:=c j (m+n)) (v:=c j k) hp hi hj (.inl h1) ?_)
  rcases h2 with h2 | ⟨h2,_⟩<;>omega
 ·rcases h2 with h2 | ⟨h2,h2'⟩
  ·exact .inl (Dj (a:=c i (m+n)) (b:=c p k) (x:=c p (m+n)) (y:=c i k) (u:=c j (m+n)) (v:=c j k) hp hi hj (.inr ⟨by omega,h2⟩) (by omega))
  ·refine .inr ⟨?_,by omega⟩
   have e1:c i (m+n)*c j k*c p k=c j (m+n)*c i k*c p k:=by
    have f1:c i (m+n)*c p k*c j k=c p (m+n)*c i k*c j k:=by rw [h1]
    have f2:c p (m+n)*c j k*c i k=c j (m+n)*c p k*c i k:=by rw [h2]
    grind
   exact Int.eq_of_mul_eq_mul_right (by omega) e1
theorem T3 {k i p:Nat}(hne:h i≠h p)(hn:¬Ahd m n c h k i p):Ahd m n c h k p i:=by
 unfold Ahd at *
 by_cases q:c p (m+n)*c i k<c i (m+n)*c p k
 ·exact .inl q
 ·refine .inr ⟨?_,?_⟩
  ·have:¬c i (m+n)*c p k<c p (m+n)*c i k:=λz=>hn (.inl z)
   omega
  ·have z1:¬c i (m+n)*c p k<c p (m+n)*c i k:=λz=>hn (.inl z)
   have z2:¬h i<h p:=λz=>hn (.inr ⟨by omega,z⟩)
   omega
theorem Oz {k:Nat}(hk:k<m+n+1)(hB:∀r j,Bg (c r j))(inj:∀r,r<n->∀j,j<n->h r=h j->r=j):∃fd,bW [obj m n K s ws c wl bt (hD n h),.int k]=.ok (false,fdD fd)/\Zq m n c h k n fd:=by
 obtain ⟨m',e,fd,a,b,em,hb⟩:=lV (n:=n) (f:=λi=>.tup [.int i,iL (m+n+1) (c i)]) (h:=nZ 2 (cL (hName 3) (cL (hName 4) nW))) (k:=bV) (m:=[.fz (obj m n K s ws c wl bt (hD n h)),.fz (.int k),.fz .non,.un,.un]) (λi x=>∃fd a b,x=[.fz (obj m n K s ws c wl bt (hD n h)),.fz (.int k),.fz (fdD fd),a,b]/\Zq m n c h k i fd) ⟨none,_,_,rfl,λj hj=>absurd hj (Nat.not_lt_zero _)⟩ λi x hi ⟨fd,a,b,em,hb⟩=>by
  subst em
  by_cases q:0<c i k
  ·cases fd with
   |none=>
    refine ⟨_,_,rfl,Ny hk q,some i,_,_,rfl,by omega,q,λj hj hq hne=>?_⟩
    have:=hb j (by omega);omega
   |some p=>
    obtain ⟨b1,b2,b3⟩:=hb
    refine ⟨_,_,rfl,RW hi (by omega) hk hB q,if Ahd m n c h k i p then some i else some p,.fz (.int i),.fz (iL (m+n+1) (c i)),?_,?_⟩
    ·split<;>rfl
    ·split
     ·rename_i z
      refine ⟨by omega,q,λj hj hq hne=>?_⟩
      by_cases w:j=p
      ·subst w;exact z
      ·exact Om q b2 hq z (b3 j (by omega) hq w)
     ·rename_i z
      refine ⟨by omega,b2,λj hj hq hne=>?_⟩
      by_cases w:j=i
      ·subst w
       exact T3 (λe=>hne (inj j hi p (by omega) e)) z
      ·exact b3 j (by omega) hq hne
  ·refine ⟨_,_,rfl,PQ hk q,fd,_,_,rfl,?_⟩
   cases fd with
   |none=>
    intro j hj
    by_cases w:j=i
    ·subst w;omega
    ·exact hb j (by omega)
   |some p=>
    obtain ⟨b1,b2,b3⟩:=hb
    refine ⟨by omega,b2,λj hj hq hne=>?_⟩
    by_cases w:j=i
    ·subst w;omega
    ·exact b3 j (by omega) hq hne
 refine ⟨fd,?_,hb⟩
 subst em
 have eL:iG [.fz (obj m n K s ws c wl bt (hD n h)),.fz (.int k),.fz .non,.un,.un]=.ok (.nx,[.fz (obj m n K s ws c wl bt (hD n h)),.fz (.int k),.fz (fdD fd),a,b]):=by
  unfold iG lZ
  rw [show u0 (aa (cA "Corner" "lines" (aj 0)) az) [.fz (obj m n K s ws c wl bt (hD n h)),.fz (.int k),.fz .non,.un,.un]=.ok (rg n λi=>.tup [.int i,iL (m+n+1) (c i)]) by
   simp [u0,aa,az,cA,aj,qT,yh]]
  exact e
 simp only [bW,c7,jo,ji,aU,bf,fC,Res.bh,List.set,List.length_cons,List.length_nil,if_true,List.map_cons,List.map_nil,List.cons_append,List.nil_append,List.replicate]
 rw [eL]
 rfl
end
open Sx (Crn cz wv turn sm det)
section
variable {m n K l:Nat}{s ws:Nat->Int}{bt:Int}{c wl:Nat->Nat->Int}{h:D}
theorem Lh {c c':Nat->Nat->Int}{wl wl':Nat->Nat->Int}(e:∀r,r<n->∀j,j<m+n+1->c r j=c' r j)(e2:∀r j,j<m+n+1->wl r j=wl' r j):obj m n K s ws c wl bt h=obj m n K s ws c' wl' bt h:=by
 unfold obj
 rw [kO (f:=λr=>iL (m+n+1) (c r)) (g:=λr=>iL (m+n+1) (c' r)) λr hr=>by unfold iL;rw [kO λj hj=>by rw [e r hr j hj]]]
 rw [kO (f:=λr=>iL (m+n+1) (wl r)) (g:=λr=>iL (m+n+1) (wl' r)) λr hr=>by unfold iL;rw [kO λj hj=>by rw [e2 r j hj]]]
theorem pN {x:Me}{i j:Nat}{w:Bool}{y:Addr}{H:D}(hi:x[i]? = some (.io (obj m n K s ws c wl bt (.adr y)))\/x[i]? = some (.ow (obj m n K s ws c wl bt (.adr y))))(hj:x[j]? = some (.hd w y H)):cB i j x=.ok (obj m n K s ws c wl bt H):=by
 unfold cB
 rcases hi with hi | hi
 ·rw [hi,hj];simp [obj,zF,iL]
 ·rw [hi,hj];simp [obj,zF,iL]
theorem Yt {t:Me->Res Bool}{b:Me->Res (Fl×Me)}{m m':Me}{fr:Bool}{r:D}(h1:t m=.ok true)(h2:b m=.ok (.rt fr r,m')):wh t b 1 m=some (.ok (.rt fr r,m')):=by
 unfold wh
 rw [h1,h2]
structure LP (m n:Nat)(T W:Nat->Nat->Int)(X Y:Nat):Prop where
 m8:m<=8
 n8:n<=8
 fst:Sx.Ig m n T
 w0:∀l j,m<=j->W l j=0
 sz:Sx.Szs m n T X
 wz:∀l j,j<=m+n->(W l j).natAbs<=Y
 bg:Sx.fct n*X ^ n<2 ^ 1500
 bgw:(n+1)*(Sx.fct n*X ^ n*Y)<2 ^ 2000
def cc (m n:Nat)(D:Crn)(r j:Nat):Int:=if r<n/\j<m+n+1 then D.c r j else 0
def cw (m n:Nat)(W:Nat->Nat->Int)(D:Crn)(l j:Nat):Int:=if j<m+n+1 then wv n D (W l) j else 0
theorem lB {D:Crn}{r j:Nat}(hr:r<n)(hj:j<m+n+1):cc m n D r j=D.c r j:=if_pos ⟨hr,hj⟩
theorem cw_is {D:Crn}{W:Nat->Nat->Int}{l j:Nat}(hj:j<m+n+1):cw m n W D l j=wv n D (W l) j:=if_pos hj
variable {T W:Nat->Nat->Int}{X Y:Nat}{D:Crn}{A:Nat->Bool}{Z:Crn->Prop}
theorem Y9 (P:LP m n T W X Y)(I:cz m n T D)(r j:Nat):(cc m n D r j).natAbs<2 ^ 1500:=by
 unfold cc
 split
 ·rename_i z
  exact Nat.lt_of_le_of_lt (I.cle P.sz z.1 (by omega)) P.bg
 ·exact Nat.pow_pos (by decide)
theorem cw_lt (P:LP m n T W X Y)(I:cz m n T D)(l j:Nat):(cw m n W D l j).natAbs<2 ^ 2000:=by
 unfold cw
 split
 ·rename_i z
  exact Nat.lt_of_le_of_lt (I.wle P.sz (P.wz l) (by omega)) P.bgw
 ·exact Nat.pow_pos (by decide)
theorem Yp (P:LP m n T W X Y)(I:cz m n T D):D.b.natAbs<2 ^ 1500:=Nat.lt_of_le_of_lt (I.ble P.sz) P.bg
theorem VG (P:LP m n T W X Y)(I:cz m n T D)(r j:Nat):Bg (cc m n D r j):=dD (Y9 P I r j)
theorem cw_bg (P:LP m n T W X Y)(I:cz m n T D)(l j:Nat):Bg (cw m n W D l j):=dD (cw_lt P I l j)
theorem XS (P:LP m n T W X Y)(I:cz m n T D):Bq D.b:=pU (Yp P I)
def oD (m n K:Nat)(s ws:Nat->Int)(W:Nat->Nat->Int)(D:Crn)(h:F.D):F.D:=obj m n K s ws (cc m n D) (cw m n W D) D.b h
abbrev Al:Nat->Bool:=λ_=>true
structure Lv (m n K:Nat)(T W:Nat->Nat->Int)(l:Nat)(A:Nat->Bool)(Z:Crn->Prop):Prop where
 lt:l<K
 k8:K<=8
 z:∀D,Sx.Ok m n T A D->Z D->∀j,j<m+n->(Alw l (cw m n W D) j↔A j=true)
 t:∀D p q,Sx.Ok m n T A D->Z D->Sx.Hc m n (W l) A D q->Sx.Ends m n D q p->Z (turn D p q)
def Mv (m n l:Nat)(W:Nat->Nat->Int)(A:Nat->Bool)(D:Crn):Option Nat->Prop
 |none=>∀j,j<m+n->A j=true->0<=wv n D (W l) j
 |some q=>Sx.Hc m n (W l) A D q
theorem O8 (P:LP m n T W X Y)(V:Lv m n K T W l A Z)(O:Sx.Ok m n T A D)(z:Z D){H:F.D}:∃fd,aX [oD m n K s ws W D H,.int l]=.ok (false,fdD fd)/\Mv m n l W A D fd:=by
 obtain ⟨fd,e,hh⟩:=Vv (K:=K) (s:=s) (ws:=ws) (c:=cc m n D) (wl:=cw m n W D) (bt:=D.b) (h:=H) V.lt V.k8 P.m8 P.n8
 refine ⟨fd,e,?_⟩
 cases fd with
 |none=>exact λj hj hA=>by have:=hh j hj ((V.z D O z j hj).mpr hA);rwa [cw_is (by omega)] at this
 |some q=>
  obtain ⟨h1,h0,h2,h3⟩:=hh
  rw [cw_is (by omega)] at h2
  exact ⟨h1,(V.z D O z q h1).mp h0,h2,λj hj hA=>by have:=h3 j hj ((V.z D O z j (by omega)).mpr hA);rwa [cw_is (by omega)] at this⟩
theorem Z6 (P:LP m n T W X Y)(I:cz m n T D){q:Nat}(hq:q<m+n):∃fd,bW [oD m n K s ws W D (hD n D.h),.int q]=.ok (false,fdD fd)/\match fd with
  |none=>∀r,r<n->D.c r q<=0
  |some p=>Sx.Ends m n D q p:=by
 obtain ⟨fd,e,hb⟩:=Oz (m:=m) (K:=K) (s:=s) (ws:=ws) (c:=cc m n D) (wl:=cw m n W D) (bt:=D.b) (h:=D.h) (k:=q) (by omega) (VG P I) λr hr j hj e=>I.inj hr hj e
 refine ⟨fd,e,?_⟩
 cases fd with
 |none=>exact λr hr=>by have:=hb r hr;rwa [lB hr (by omega)] at this
 |some p=>
  obtain ⟨h1,h2,h3⟩:=hb
  rw [lB h1 (by omega)] at h2
  refine ⟨h1,h2,λr hr hpos hne=>?_⟩
  have:=h3 r hr (by rw [lB hr (by omega)];exact hpos) hne
  unfold Ahd at this
  rwa [lB h1 (by omega),lB h1 (by omega),lB hr (by omega),lB hr (by omega)] at this
theorem XM (P:LP m n T W X Y)(hK:K<=8)(I:cz m n T D){p q:Nat}{y:Addr}(hp:p<n)(hq:q<m+n):dO [.int p,.int q] (oD m n K s ws W D (.adr y)) (y,hD n D.h)=.ok (.non,oD m n K s ws W (turn D p q) (.adr y),hD n (turn D p q).h):=by
 have e:=U5 (K:=K) (s:=s) (ws:=ws) (bt:=D.b) (c:=cc m n D) (wl:=cw m n W D) (p:=p) (k:=q) (y:=y) (H:=λi=>.int (D.h i)) P.m8 P.n8 hp (by omega) I.pos (XS P I) (VG P I) hK (cw_bg P I)
 have e1:obj m n K s ws (tc q D.b (cc m n D) p) (λr=>clr q D.b (cw m n W D r) (cc m n D p)) (cc m n D p q) (.adr y)=oD m n K s ws W (turn D p q) (.adr y):=by
  rw [lB hp (by omega)]
  refine Lh (λr hr j hj=>?_) λr j hj=>?_
  ·rw [lB hr hj]
   unfold tc
   by_cases z:r=p
   ·subst z;rw [if_pos rfl,lB hr hj];exact (Sx.pM).symm
   ·rw [if_neg z]
    unfold clr
    rw [lB hr hj,lB hp (by omega),lB hr (by omega),lB hp hj]
    exact (if_neg z).symm
  ·unfold clr
   rw [cw_is hj,cw_is hj,cw_is (by omega),lB hp (by omega),lB hp hj,← Sx.zM I (W r) hp,Int.mul_ediv_cancel_left _ (by have:=I.pos;omega)]
 have e2:(rg n λi=>if i=p then F.D.int q else .int (D.h i))=rg n λi=>.int ((turn D p q).h i):=kO λi _=>by
  show _=F.D.int ((Sx.upd D.h p q i:Nat):Int)
  unfold Sx.upd
  split<;>rfl
 rw [e1,e2] at e
 exact e
def stt (m n K:Nat)(s ws:Nat->Int)(W:Nat->Nat->Int)(l:Nat)(D:Crn)(y:Addr)(z:Sl)(fd:Option Nat):Me:=[.io (oD m n K s ws W D (.adr y)),.fz (.int l),.fz (fdD fd),z,.hd false y (hD n D.h)]
theorem HS {y:Addr}{x z:Sl}{fd:Option Nat}(hh:aX [oD m n K s ws W D (hD n D.h),.int l]=.ok (false,fdD fd)):bf 2 (fMt "Corner" "helping_column" aX (cB 0 4) (aa (aj 1) az)) [.io (oD m n K s ws W D (.adr y)),.fz (.int l),x,z,.hd false y (hD n D.h)]=.ok (.nx,stt m n K s ws W l D y z fd):=by
 unfold bf
 rw [mt1 (pN (.inl rfl) rfl) (sG (by decide)) rfl hh Qm]
 rfl
theorem Lb {y:Addr}{x:Sl}{q:Nat}{fd:Option Nat}(he:bW [oD m n K s ws W D (hD n D.h),.int q]=.ok (false,fdD fd)):bf 3 (fMt "Corner" "ending_line" bW (cB 0 4) (aa (aj 2) az)) (stt m n K s ws W l D y x (some q))=.ok (.nx,stt m n K s ws W l D y (.fz (fdD fd)) (some q)):=by
 unfold bf
 rw [mt1 (pN (.inl rfl) rfl) (sG (by decide)) (ds:=[.int q]) rfl he Qm]
 rfl
theorem JF (P:LP m n T W X Y)(hK:K<=8)(I:cz m n T D){y:Addr}{z:Sl}{q p:Nat}{fd:Option Nat}(hq:q<m+n)(hp:p<n)(he:bW [oD m n K s ws W D (hD n D.h),.int q]=.ok (false,fdD (some p)))(hh:aX [oD m n K s ws W (turn D p q) (hD n (turn D p q).h),.int l]=.ok (false,fdD fd)):d9 (stt m n K s ws W l D y z (some q))=.ok (.nx,stt m n K s ws W l (turn D p q) y (.fz (.int p)) fd):=by
 have e1:=Lb (l:=l) (y:=y) (x:=z) he
 have e2:Vf (fxM "Corner" "turn_about" dO 0 4 (aa (aD 3) (aa (aD 2) az))) (stt m n K s ws W l D y (.fz (.int p)) (some q))=.ok (.nx,stt m n K s ws W l (turn D p q) y (.fz (.int p)) (some q)):=by
  have ob:mR "Corner" "turn_about" (oD m n K s ws W D (.adr y))=true:=sG (by decide)
  have et:=XM (K:=K) (s:=s) (ws:=ws) (y:=y) P hK I hp hq
  simp [Vf,fxM,stt,Nh,Ih,ob,aa,az,aD,fdD]
  rw [et]
  simp [G6]
 have e3:=HS (y:=y) (x:=.fz (.int q)) (z:=.fz (.int p)) hh
 unfold d9
 rw [aZ e1]
 refine (aZ (m':=stt m n K s ws W l D y (.fz (.int p)) (some q)) rfl).trans ?_
 rw [aZ e2]
 exact e3
theorem Jt {y:Addr}{z:Sl}{q:Nat}(he:bW [oD m n K s ws W D (hD n D.h),.int q]=.ok (false,fdD none)):d9 (stt m n K s ws W l D y z (some q))=.ok (.rt false (.int q),stt m n K s ws W l D y (.fz .non) (some q)):=by
 have e1:=Lb (l:=l) (y:=y) (x:=z) he
 unfold d9
 rw [aZ e1]
 rfl
theorem JS (P:LP m n T W X Y)(V:Lv m n K T W l A Z){D:Crn}(ac:Acc (Sx.Step m n (W l) A) D):∀fd z,Sx.Ok m n T A D->Z D->Mv m n l W A D fd->∃steps D' z',Sx.Ok m n T A D'/\Z D'/\
  ((Mv m n l W A D' none/\∀y,wh nj d9 steps (stt m n K s ws W l D y z fd)=some (.ok (.nx,stt m n K s ws W l D' y z' none)))\/∃q,q<m+n/\A q=true/\wv n D' (W l) q<0/\(∀r,r<n->D'.c r q<=0)/\∀y,wh nj d9 steps (stt m n K s ws W l D y z fd)=some (.ok (.rt false (.int q),stt m n K s ws W l D' y z' (some q)))):=by
 induction ac with
 |intro D _ ih=>
  intro fd z O hz hh
  cases fd with
  |none=>exact ⟨1,D,z,O,hz,.inl ⟨hh,λy=>Gw rfl⟩⟩
  |some q=>
   obtain ⟨fe,e,he⟩:=Z6 (K:=K) (s:=s) (ws:=ws) P O.I hh.1
   cases fe with
   |none=>exact ⟨1,D,_,O,hz,.inr ⟨q,hh.1,hh.2.1,hh.2.2.1,he,λy=>Yt rfl (Jt e)⟩⟩
   |some p=>
    have O':Sx.Ok m n T A (turn D p q):=O.turn hh he
    have hz':=V.t D p q O hz hh he
    obtain ⟨fd2,e2,hh2⟩:=O8 (K:=K) (s:=s) (ws:=ws) (D:=turn D p q) (H:=hD n (turn D p q).h) P V O' hz'
    obtain ⟨steps,D',z',o2,z2,k⟩:=ih (turn D p q) ⟨p,q,hh,he,rfl⟩ fd2 (.fz (.int p)) O' hz' hh2
    have eb:=λy=>JF (y:=y) (z:=z) P V.k8 O.I hh.1 he.1 e e2
    refine ⟨steps+1,D',z',o2,z2,?_⟩
    rcases k with ⟨k1,k2⟩ | ⟨q2,k1,k0,k2,k3,k4⟩
    ·exact .inl ⟨k1,λy=>zY rfl (eb y) (k2 y)⟩
    ·exact .inr ⟨q2,k1,k0,k2,k3,λy=>zY rfl (eb y) (k4 y)⟩
def cst (o:F.D)(a b:F.D)(z:Sl)(y:Addr)(H:F.D):Me:=[.io o,.fz a,.fz b,z,.hd false y H]
theorem Dk {o o' r:F.D}{y:Addr}{H H' x:F.D}{m':Me}(e1:bf 2 (fMt "Corner" "helping_column" aX (cB 0 4) (aa (aj 1) az)) [.io o,.fz (.int l),.un,.un,.hd false y H]=.ok (.nx,cst o (.int l) x .un y H))
  (e2:(mZ (cst o (.int l) x .un y H)=.ok (.rt false r,m')/\nU m' 0=some o'/\hdF m' 4 y=some H')\/(mZ (cst o (.int l) x .un y H)=.ok (.nx,m')/\r=.non/\nU m'.let 0=some o'/\hdF m'.let 4 y=some H')):bB [.int l] o (y,H)=.ok (r,o',H'):=by
 rcases e2 with ⟨a,b,d⟩ | ⟨a,rfl,b,d⟩
 ·refine KR (m':=m') (b:=false) rfl ?_ b d
  show aU _ _ [.io o,.fz (.int l),.un,.un,.hd false y H]=_
  rw [aZ e1]
  unfold aU
  rw [a]
 ·refine KR (m':=m'.let) (b:=false) rfl ?_ b d
  show aU _ _ [.io o,.fz (.int l),.un,.un,.hd false y H]=_
  rw [aZ e1,aZ a]
  rfl
def D0 (m:Nat)(T:Nat->Nat->Int):Crn:=⟨T,1,λr=>m+r⟩
theorem ok0 (P:LP m n T W X Y):Sx.Ok m n T Al (D0 m T):=⟨Sx.N6 P.fst,λ_ _=>rfl⟩
theorem Bf (P:LP m n T W X Y)(V:Lv m n K T W l A Z)(O:Sx.Ok m n T A D)(hz:Z D):∃D' r,Sx.Ok m n T A D'/\Z D'/\(∀y,bB [.int l] (oD m n K s ws W D (.adr y)) (y,hD n D.h)=.ok (fdD r,oD m n K s ws W D' (.adr y),hD n D'.h))/\
  ((r=none/\Mv m n l W A D' none)\/∃q,r=some q/\q<m+n/\A q=true/\wv n D' (W l) q<0/\∀r,r<n->D'.c r q<=0):=by
 obtain ⟨fd,e,hh⟩:=O8 (K:=K) (s:=s) (ws:=ws) (D:=D) (H:=hD n D.h) P V O hz
 have e1:=λy=>HS (y:=y) (x:=.un) (z:=.un) e
 have ac:=Sx.X5 (A:=A) (Sx.Wk P.sz (P.wz l)) (P.w0 l) O
 obtain ⟨steps,D',z,o,z2,k⟩:=JS (K:=K) (s:=s) (ws:=ws) P V ac fd .un O hz hh
 have hd:∀y fd,hdF (stt m n K s ws W l D' y z fd) 4 y=some (hD n D'.h):=λy fd=>by simp [hdF,stt]
 have hl:∀y fd,hdF (Me.let (stt m n K s ws W l D' y z fd)) 4 y=some (hD n D'.h):=λy fd=>by simp [hdF,stt,Me.let,Sl.let]
 rcases k with ⟨k1,k2⟩ | ⟨q,k1,k0,k2,k3,k4⟩
 ·exact ⟨D',none,o,z2,λy=>Dk (x:=fdD fd) (m':=stt m n K s ws W l D' y z none) (e1 y) (.inr ⟨vP steps (k2 y),rfl,rfl,hl y none⟩),.inl ⟨rfl,k1⟩⟩
 ·exact ⟨D',some q,o,z2,λy=>Dk (x:=fdD fd) (m':=stt m n K s ws W l D' y z (some q)) (e1 y) (.inl ⟨vP steps (k4 y),rfl,hd y _⟩),.inr ⟨q,rfl,k1,k0,k2,k3⟩⟩
theorem lv0 (h0:0<K)(h8:K<=8):Lv m n K T W 0 Al λ_=>True:=⟨h0,h8,λ_ _ _ j _=>⟨λ_=>rfl,λ_ r hr=>absurd hr (Nat.not_lt_zero _)⟩,λ_ _ _ _ _ _ _=>trivial⟩
def Z1 (m n:Nat)(W:Nat->Int)(A:Nat->Bool)(D:Crn):Prop:=∀j,j<m+n->(wv n D W j=0↔A j=true)/\0<=wv n D W j
theorem U3 {W0 W1:Nat->Int}{p q:Nat}(O:Sx.Ok m n T A D)(hz:Z1 m n W0 A D)(hh:Sx.Hc m n W1 A D q)(he:Sx.Ends m n D q p):Z1 m n W0 A (turn D p q):=by
 intro j hj
 have e:=Sx.zM (q:=q) (j:=j) O.I W0 he.1
 rw [(hz q hh.1).1.mpr hh.2.1,Int.zero_mul,Int.sub_zero] at e
 have hb:=O.I.pos
 have hc:=he.2.1
 obtain ⟨z1,z2⟩:=hz j hj
 refine ⟨⟨λz=>z1.mp ?_,λz=>?_⟩,?_⟩
 ·rw [z,Int.mul_zero] at e
  rcases Int.mul_eq_zero.mp e.symm with h | h
  ·exact h
  ·omega
 ·rw [z1.mpr z,Int.zero_mul] at e
  rcases Int.mul_eq_zero.mp e with h | h
  ·omega
  ·exact h
 ·have:0<=D.b*wv n (turn D p q) W0 j:=by rw [e];exact Int.mul_nonneg z2 (by omega)
  exact Int.le_of_mul_le_mul_left (a:=D.b) (by rw [Int.mul_zero];exact this) hb
end
section
variable {m n K:Nat}{s ws:Nat->Int}{bt:Int}{c wl:Nat->Nat->Int}{t:Nat->Int}{h:Nat->Nat}
theorem dX {N k:Nat}{g:Me->Res (Fl×Me)}{ds:List D}{fr:Bool}{d:D}{m':Me}(hn:ds.length=k)(e:g (ds.map Sl.fz++List.replicate (N-k) .un)=.ok (.rt fr d,m')):c7 N k g ds=.ok (fr,d):=by
 unfold c7
 rw [if_pos hn,e]
theorem Mr (q:Nat->Q2):∀l:List Nat,qJ (l.map λi=>qD (q i))=true
 |[]=>rfl
 |a::l=>by
  show (true && qJ (l.map λi=>qD (q i)))=true
  rw [Mr q l];rfl
theorem jb {k:Nat}{q:Nat->Q2}:jd (.lst (rg k λi=>qD (q i)))=true:=Mr q _
theorem Zf {k:Nat}{q:Nat->Q2}:uM (true,.lst (rg k λi=>qD (q i)))=true:=by
 unfold uM
 rw [jb]
 simp
theorem aaQ {o tops:D}(hm:m<=8)(hw:jm "Corner" "wide" o=some (.int m)){a b d:Sl}:ig [.fz o,.fz tops,a,b,d]=.ok (.lst (rg m λ_=>qD (0,1))):=by
 have e:=itR (f:=aa (cA "Corner" "wide" (aj 0)) az) (m:=[.fz o,.fz tops,a,b,d]) (j:=m) (n:=m) (by simp [aa,az,cA,aj,hw]) rfl (by omega)
 have ec:=dC (n:=m) (f:=λi=>.int i) (h:=hName 0) (ft:=eU) (fe:=qH) (m0:=[.un]) (λ_=>qD (0,1)) λi hi=>⟨_,rfl,rfl,rfl⟩
 have hl:m<=16777216:=by omega
 unfold ig cG
 rw [e]
 simp [cMe,bD,hl,ec]
theorem SQ {o r:D}{cn mn:Str}{Φ:List D->Res (Bool×D)}{f0:Me->Res D}{fs:Me->Res (List D)}{m:Me}{ds:List D}(h0:f0 m=.ok o)(ho:mR cn mn o=true)(hf:fs m=.ok ds)(hΦ:Φ (o::ds)=.ok (true,r))(hr:jd r=true):gJ cn mn Φ f0 fs m=.ok r:=by
 unfold gJ
 rw [h0,Res.bh,if_pos ho,hf,Res.bh,hΦ,Res.bh]
 show (if (true && jd r)=true then _ else _)=_
 rw [hr]
 rfl
theorem bA {f:Me->Res D}{g:Me->Res (List D)}{m:Me}{d:D}{ds:List D}(h1:f m=.ok d)(h2:g m=.ok ds):aa f g m=.ok (d::ds):=by
 unfold aa
 rw [h1,h2]
 rfl
def amR (h:Nat->Nat)(t:Nat->Int)(b:Int):Nat->Nat->Q2
 |0=>λ_=>(0,1)
 |k+1=>λi=>if i=h k then low (t k) b else amR h t b k i
theorem Va {o T:D}{k:Nat}{b:Int}(hw:jm "Corner" "wide" o=some (.int m))(hb:jm "Corner" "bottom" o=some (.int b))(h0:0<b)(hB:Bq b):fZ [.fz o,.fz T,.ow (.lst (rg m λi=>qD (amR h t b k i))),.fz (.int (h k)),.fz (.int (t k))]=.ok (.nx,[.fz o,.fz T,.ow (.lst (rg m λi=>qD (amR h t b (k+1) i))),.fz (.int (h k)),.fz (.int (t k))]):=by
 by_cases q:h k<m
 ·have q':(h k:Int)<m:=by omega
  have ex:ixN m (h k:Int)=some (h k):=by unfold ixN;rw [if_pos (by omega),if_pos (by omega)];simp
  have er:(rg m λi=>if i=h k then qD (low (t k) b) else qD (amR h t b k i))=rg m λi=>qD (amR h t b (k+1) i):=kO λi _=>by
   show _=qD (if i=h k then _ else _)
   by_cases w:i=h k
   ·rw [if_pos w,if_pos w]
   ·rw [if_neg w,if_neg w]
  simp [fZ,gIf,aQ,aj,cA,hw,hb,gLt,q',q,yx,aD,fFn,aa,az,ou h0 hB,JM,bD,ex,putL,Gs,er]
 ·have q':¬(h k:Int)<m:=by omega
  have er:(rg m λi=>qD (amR h t b k i))=rg m λi=>qD (amR h t b (k+1) i):=kO λi hi=>by
   show _=qD (if i=h k then _ else _)
   rw [if_neg (by omega)]
  simp [fZ,gIf,aQ,aj,cA,hw,gLt,q',q,gNx,er]
theorem Aw {o:D}{b:Int}(hm:m<=8)(hw:jm "Corner" "wide" o=some (.int m))(hb:jm "Corner" "bottom" o=some (.int b))(hh:jm "Corner" "held_columns" o=some (hD n h))(h0:0<b)(hB:Bq b):dZ [o,iL n t]=.ok (true,.lst (rg m λi=>qD (amR h t b n i))):=by
 obtain ⟨m',e,x,y,em⟩:=lV (n:=n) (f:=λi=>.tup [.int (h i),.int (t i)]) (h:=nZ 2 (cL (hName 3) (cL (hName 4) nW))) (k:=fZ) (m:=[.fz o,.fz (iL n t),.ow (.lst (rg m λ_=>qD (0,1))),.un,.un]) (λk z=>∃x y,z=[.fz o,.fz (iL n t),.ow (.lst (rg m λi=>qD (amR h t b k i))),x,y]) ⟨_,_,rfl⟩ λk z hk ⟨x,y,ez⟩=>by
  subst ez
  exact ⟨_,_,rfl,Va hw hb h0 hB,_,_,rfl⟩
 subst em
 have e1:uc 2 ig [.fz o,.fz (iL n t),.un,.un,.un]=.ok (.nx,[.fz o,.fz (iL n t),.ow (.lst (rg m λ_=>qD (0,1))),.un,.un]):=by
  unfold uc
  rw [aaQ hm hw]
  rfl
 have e2:j9 [.fz o,.fz (iL n t),.ow (.lst (rg m λ_=>qD (0,1))),.un,.un]=.ok (.nx,[.fz o,.fz (iL n t),.ow (.lst (rg m λi=>qD (amR h t b n i))),x,y]):=by
  unfold j9 lZ
  rw [show qC (aa (cA "Corner" "held_columns" (aj 0)) (aa (aD 1) az)) [.fz o,.fz (iL n t),.ow (.lst (rg m λ_=>qD (0,1))),.un,.un]=.ok (rg n λi=>.tup [.int (h i),.int (t i)]) by
   simp [qC,aa,az,cA,aj,hh,aD,hD,iL,wQ]]
  exact e
 have e3:jz [.fz o,.fz (iL n t),.un,.un,.un]=.ok (.rt true (.lst (rg m λi=>qD (amR h t b n i))),Me.let [.fz o,.fz (iL n t),.ow (.lst (rg m λi=>qD (amR h t b n i))),x,y]):=by
  unfold jz mK
  rw [aZ e1,aZ e2]
  rfl
 exact dX rfl e3
theorem XH (hm:m<=8)(hn:n<=8)(h0:0<bt)(hB:Bq bt):cu [obj m n K s ws c wl bt (hD n h)]=.ok (true,.lst (rg m λi=>qD (amR h (λr=>c r (m+n)) bt n i))):=by
 have hl:n<=16777216:=by omega
 have eq:lz [.fz (obj m n K s ws c wl bt (hD n h))]=.ok (iL n λr=>c r (m+n)):=by
  have ec:=dC (n:=n) (f:=λr=>iL (m+n+1) (c r)) (h:=hName 0) (ft:=eU) (fe:=pW) (m0:=[.un]) (λi=>.int (c i (m+n))) λi hi=>⟨_,rfl,rfl,by
   simp [pW,aA,aj,fUn,fC,rJ,Jw]⟩
  simp [lz,cG,lq,cA,aj,qT,cMe,bD,hl,ec]
  rfl
 have ea:=Aw (m:=m) (n:=n) (o:=obj m n K s ws c wl bt (hD n h)) (h:=h) (t:=λr=>c r (m+n)) hm yQ RX BP h0 hB
 have ob:mR "Corner" "amounts" (obj m n K s ws c wl bt (hD n h))=true:=sG (by decide)
 have ef:=SQ (f0:=aj 0) (fs:=aa lz az) (m:=[.fz (obj m n K s ws c wl bt (hD n h))]) rfl ob (bA eq rfl) ea jb
 have eg:pJ [.fz (obj m n K s ws c wl bt (hD n h))]=.ok (.rt true (.lst (rg m λi=>qD (amR h (λr=>c r (m+n)) bt n i))),[.fz (obj m n K s ws c wl bt (hD n h))]):=by
  unfold pJ tV lF
  rw [show Me.let [.fz (obj m n K s ws c wl bt (hD n h))]=[.fz (obj m n K s ws c wl bt (hD n h))] from rfl,ef]
  rfl
 exact dX rfl eg
def BV (h:Nat->Nat)(t:Nat->Int)(b:Int)(n j:Nat):Nat->Q2:=λi=>if i=j then (1,1) else amR h t b n i
theorem Xw {j:Nat}(hm:m<=8)(hn:n<=8)(hj:j<m+n)(h0:0<bt)(hB:Bq bt):bL [obj m n K s ws c wl bt (hD n h),.int j]=.ok (true,.lst (rg m λi=>qD (BV h (λr=>-(c r j)) bt n j i))):=by
 have hl:n<=16777216:=by omega
 have eq:eQ [.fz (obj m n K s ws c wl bt (hD n h)),.fz (.int j),.un]=.ok (iL n λr=>-(c r j)):=by
  have ec:=dC (n:=n) (f:=λr=>iL (m+n+1) (c r)) (h:=hName 0) (ft:=eU) (fe:=ju) (m0:=[.un,.fz (.int j)]) (λi=>.int (-(c i j))) λi hi=>⟨_,rfl,rfl,by
   simp [ju,aA,aj,fUn,rJ,kh (show j<m+n+1 by omega)]⟩
  simp [eQ,cG,lq,cA,aj,qT,cMe,Sl.bor,bD,hl,ec]
  rfl
 have ea:=Aw (m:=m) (n:=n) (o:=obj m n K s ws c wl bt (hD n h)) (h:=h) (t:=λr=>-(c r j)) hm yQ RX BP h0 hB
 have ob:mR "Corner" "amounts" (obj m n K s ws c wl bt (hD n h))=true:=sG (by decide)
 have ef:=SQ (f0:=aj 0) (fs:=aa eQ az) (m:=[.fz (obj m n K s ws c wl bt (hD n h)),.fz (.int j),.un]) rfl ob (bA eq rfl) ea jb
 have e1:uc 2 (gJ "Corner" "amounts" dZ (aj 0) (aa eQ az)) [.fz (obj m n K s ws c wl bt (hD n h)),.fz (.int j),.un]=.ok (.nx,[.fz (obj m n K s ws c wl bt (hD n h)),.fz (.int j),.ow (.lst (rg m λi=>qD (amR h (λr=>-(c r j)) bt n i)))]):=by
  unfold uc
  rw [ef]
  rfl
 have e2:gIf (aQ gLt (aj 1) (cA "Corner" "wide" (aj 0))) (yx 2 (aD 1) (fC (.tup [(.int 1),(.int 1)]))) gNx [.fz (obj m n K s ws c wl bt (hD n h)),.fz (.int j),.ow (.lst (rg m λi=>qD (amR h (λr=>-(c r j)) bt n i)))]=.ok (.nx,[.fz (obj m n K s ws c wl bt (hD n h)),.fz (.int j),.ow (.lst (rg m λi=>qD (BV h (λr=>-(c r j)) bt n j i)))]):=by
  by_cases q:j<m
  ·have ex:ixN m (j:Int)=some j:=by unfold ixN;rw [if_pos (by omega),if_pos (by omega)];simp
   have hj':(j:Int)<m:=by omega
   have er:(rg m λi=>if i=j then D.tup [.int 1,.int 1] else qD (amR h (λr=>-(c r j)) bt n i))=rg m λi=>qD (BV h (λr=>-(c r j)) bt n j i):=kO λi _=>by
    unfold BV
    by_cases w:i=j
    ·rw [if_pos w,if_pos w];rfl
    ·rw [if_neg w,if_neg w]
   simp [gIf,aQ,aj,cA,yQ,gLt,hj',q,yx,aD,fC,JM,bD,ex,putL,Gs,er]
  ·have hj':¬(j:Int)<m:=by omega
   have er:(rg m λi=>qD (amR h (λr=>-(c r j)) bt n i))=rg m λi=>qD (BV h (λr=>-(c r j)) bt n j i):=kO λi hi=>by
    unfold BV
    rw [if_neg (by omega)]
   simp [gIf,aQ,aj,cA,yQ,gLt,hj',q,gNx,er]
 have eg:iJ [.fz (obj m n K s ws c wl bt (hD n h)),.fz (.int j),.un]=.ok (.rt true (.lst (rg m λi=>qD (BV h (λr=>-(c r j)) bt n j i))),[.fz (obj m n K s ws c wl bt (hD n h)),.fz (.int j),.fz (.lst (rg m λi=>qD (BV h (λr=>-(c r j)) bt n j i)))]):=by
  unfold iJ kI
  rw [aZ e1,aZ e2]
  rfl
 exact dX rfl eg
theorem Nj {H:D}{l:Nat}(hm:m<=8)(hn:n<=8)(hl:l<K)(h0:0<bt*ws l)(hB:Bq (bt*ws l))(b1:Bg bt)(b2:Bg (ws l))(b3:∀i,Bg (s i))(b4:∀i,Bg (wl l i)):bz [obj m n K s ws c wl bt H,.int l]=.ok (true,.lst (rg n λi=>qD (low (wl l (m+i)*s i) (bt*ws l)))):=by
 have hln:n<=16777216:=by omega
 have e0:gIx (.lst (rg K λr=>iL (m+n+1) (wl r))) (.int l)=some (iL (m+n+1) (wl l)):=oW hl
 have e1:gIx (iL K ws) (.int l)=some (.int (ws l)):=kh hl
 have ec:=dC (n:=n) (f:=λi=>.tup [.int i,.int (s i)]) (h:=nZ 2 (cL (hName 0) (cL (hName 1) nW))) (ft:=eU) (fe:=lH) (m0:=[.un,.un,.fz (.int (bt*ws l)),.fz (iL (m+n+1) (wl l)),.fz (obj m n K s ws c wl bt H)]) (λi=>qD (low (wl l (m+i)*s i) (bt*ws l))) λi hi=>⟨[.fz (.int i),.fz (.int (s i)),.fz (.int (bt*ws l)),.fz (iL (m+n+1) (wl l)),.fz (obj m n K s ws c wl bt H)],rfl,rfl,by
  have ei:gIx (iL (m+n+1) (wl l)) (.int ((m:Int)+i))=some (.int (wl l (m+i))):=kh (i:=m+i) (by omega)
  simp [lH,fFn,aa,az,aA,aj,cA,yQ,eX,ei,eV,b3,b4,aD,ou h0 hB]⟩
 have eq:lN [.fz (obj m n K s ws c wl bt H),.fz (.int l),.fz (iL (m+n+1) (wl l)),.fz (.int (bt*ws l))]=.ok (.lst (rg n λi=>qD (low (wl l (m+i)*s i) (bt*ws l)))):=by
  have ei:u0 (aa (cA "Corner" "scales" (aj 0)) az) [.fz (obj m n K s ws c wl bt H),.fz (.int l),.fz (iL (m+n+1) (wl l)),.fz (.int (bt*ws l))]=.ok (rg n λi=>.tup [.int i,.int (s i)]):=by
   simp [u0,aa,az,cA,aj,Qv,iL,yh]
  unfold lN cG
  rw [ei]
  simp [cMe,Sl.bor,bD,hln,ec]
 simp [bz,c7,oK,oG,aU,bf,aA,cA,aj,Ob,RX,YF,e0,e1,eV,b1,b2,lF,Me.let,Sl.let,eq]
end
structure cU (q:Q2):Prop where
 pos:0<q.2
 b2:q.2.natAbs<2 ^ 10
 b1:q.1.natAbs<2 ^ 30
def scl (q:Nat->Q2):Nat->Int
 |0=>1
 |i+1=>scl q i*(q i).2 / gI (scl q i) (q i).2
theorem Vr {p q g x y:Int}(hg:0<g)(hx:p=g*x)(hy:q=g*y):p*q / g=p*y/\p*q / g=q*x:=by
 subst hx hy
 have e1:g*x*(g*y) / g=g*x*y:=by
  rw [Int.mul_left_comm,Int.mul_ediv_cancel_left _ (by omega)]
 exact ⟨e1,by rw [e1,Int.mul_assoc,Int.mul_assoc,Int.mul_comm x y]⟩
theorem Xi {a b:Int}(ha:0<a)(h:0<a*b):0<b:=by
 by_cases z:0<b
 ·exact z
 ·have:=Int.mul_nonpos_of_nonneg_of_nonpos (Int.le_of_lt ha) (show b<=0 by omega)
  omega
theorem RV {p q:Int}(hp:0<p)(hq:0<q):p ∣ p*q / gI p q/\q ∣ p*q / gI p q/\0<p*q / gI p q/\p*q / gI p q<=p*q:=by
 have g0:=uo (a:=p) (b:=q) (by omega)
 obtain ⟨x,hx⟩:=Eb p q
 obtain ⟨y,hy⟩:=w5 p q
 obtain ⟨e1,e2⟩:=Vr g0 hx hy
 have y0:0<y:=Xi g0 (by omega)
 refine ⟨⟨y,e1⟩,⟨x,e2⟩,by rw [e1];exact Int.mul_pos hp y0,Int.ediv_le_self _ (Int.le_of_lt (Int.mul_pos hp hq))⟩
theorem Gd {q:Nat->Q2}(h:∀i,cU (q i)):∀k,0<scl q k/\(scl q k).natAbs<2 ^ (1+10*k)/\∀i,i<k->(q i).2 ∣ scl q k
 |0=>⟨(show (0:Int)<1 by decide),(show (1:Int).natAbs<2 ^ 1 by decide),λi hi=>absurd hi (Nat.not_lt_zero _)⟩
 |k+1=>by
  obtain ⟨i1,i2,i3⟩:=Gd h k
  obtain ⟨s1,s2,s3,s4⟩:=RV i1 (h k).pos
  have b:=cV i2 (h k).b2
  refine ⟨s3,?_,λi hi=>?_⟩
  ·show (scl q k*(q k).2 / gI (scl q k) (q k).2).natAbs<2 ^ (1+10*(k+1))
   rw [show 1+10*(k+1)=1+10*k+10 by omega]
   omega
  ·by_cases w:i=k
   ·subst w;exact s2
   ·exact Int.dvd_trans (i3 i (by omega)) s1
theorem cU.bg {q:Q2}(h:cU q):Bg q.1/\Bg q.2:=⟨dD h.b1,dD h.b2⟩
theorem cU.bq {q:Q2}(h:cU q):Bq q.2:=pU h.b2
theorem JG {f:D}{k:Int}{q:Q2}(h1:Bg k)(h2:Bg q.2)(h4:Bq q.2)(h3:0<q.2):pO [.fz f,.fz (.int k),.fz (qD q)]=.ok (.nx,[.fz f,.fz (.int (k*q.2 / gI k q.2)),.fz (qD q)]):=by
 have g0:=uo (a:=k) (b:=q.2) (by omega)
 have g1:gI k q.2≠0:=by omega
 simp [pO,bf,aA,aj,aD,qD,fC,gIx,ix1,eV,h1,h2,fFn,aa,az,ph,jL,g1,Sq h3 h4,dvI,g0]
theorem Hg {q:Nat->Q2}{k:Nat}(hk:k<=9)(h:∀i,cU (q i)):qz [.lst (rg k λi=>qD (q i))]=.ok (false,.int (scl q k)):=by
 obtain ⟨m',e,z,em⟩:=lV (n:=k) (f:=λi=>qD (q i)) (h:=hName 2) (k:=pO) (m:=[.fz (.lst (rg k λi=>qD (q i))),.fz (.int 1),.un]) (λi m=>∃z,m=[.fz (.lst (rg k λi=>qD (q i))),.fz (.int (scl q i)),z]) ⟨_,rfl⟩ λi m hi ⟨z,em⟩=>by
  subst em
  exact ⟨_,_,rfl,JG (dD (Gd h i).2.1 (by omega)) (h i).bg.2 (h i).bq (h i).pos,_,rfl⟩
 subst em
 have e1:bf 1 (fC (.int 1)) [.fz (.lst (rg k λi=>qD (q i))),.un,.un]=.ok (.nx,[.fz (.lst (rg k λi=>qD (q i))),.fz (.int 1),.un]):=rfl
 have e2:xV [.fz (.lst (rg k λi=>qD (q i))),.fz (.int 1),.un]=.ok (.nx,[.fz (.lst (rg k λi=>qD (q i))),.fz (.int (scl q k)),z]):=e
 have eg:tW [.fz (.lst (rg k λi=>qD (q i))),.un,.un]=.ok (.rt false (.int (scl q k)),Me.let [.fz (.lst (rg k λi=>qD (q i))),.fz (.int (scl q k)),z]):=by
  unfold tW wF
  rw [aZ e1,aZ e2]
  rfl
 exact dX rfl eg
theorem Bm {q:Nat->Q2}{S:Int}{k:Nat}(hk:k<=8)(h:∀i,cU (q i))(hS:∀i,Bg (S / (q i).2)):dB [.lst (rg k λi=>qD (q i)),.int S]=.ok (true,.lst (rg k λi=>.int ((q i).1*(S / (q i).2)))):=by
 have ec:=dC (n:=k) (f:=λi=>qD (q i)) (h:=hName 0) (ft:=eU) (fe:=pZ) (m0:=[.un,.fz (.int S)]) (λi=>.int ((q i).1*(S / (q i).2))) λi hi=>⟨[.fz (qD (q i)),.fz (.int S)],rfl,rfl,by
  have n0:(q i).2≠0:=by have:=(h i).pos;omega
  have p0:=(h i).pos
  have e0:gIx (qD (q i)) (.int 0)=some (.int (q i).1):=rfl
  have e1:gIx (qD (q i)) (.int 1)=some (.int (q i).2):=rfl
  simp [pZ,aA,aj,fC,e0,e1,eV,jL,(h i).bg,(h i).bq,n0,dvI,p0,hS i]⟩
 have hl:k<=16777216:=by omega
 have eq:qi [.fz (.lst (rg k λi=>qD (q i))),.fz (.int S)]=.ok (.lst (rg k λi=>.int ((q i).1*(S / (q i).2)))):=by
  simp [qi,cG,lq,aj,cMe,Sl.bor,bD,hl,ec]
 have eg:pB [.fz (.lst (rg k λi=>qD (q i))),.fz (.int S)]=.ok (.rt true (.lst (rg k λi=>.int ((q i).1*(S / (q i).2)))),[.fz (.lst (rg k λi=>qD (q i))),.fz (.int S)]):=by
  unfold pB tU lF
  rw [show Me.let [.fz (.lst (rg k λi=>qD (q i))),.fz (.int S)]=[.fz (.lst (rg k λi=>qD (q i))),.fz (.int S)] from rfl,eq]
  rfl
 exact dX rfl eg
structure In (m n:Nat)(a:Nat->Nat->Q2)(b:Nat->Q2)(w:Nat->Nat->Q2):Prop where
 m8:m<=8
 n8:n<=8
 ha:∀r i,cU (a r i)
 hb:∀r,cU (b r)
 b0:∀r,0<=(b r).1
 hw:∀l i,cU (w l i)
def rb (m:Nat)(a:Nat->Q2)(b:Q2):Nat->Q2:=λi=>if i<m then a i else b
def sS (m:Nat)(a:Nat->Nat->Q2)(b:Nat->Q2)(r:Nat):Int:=scl (rb m (a r) (b r)) (m+1)
def wS0 (m:Nat)(w:Nat->Q2):Int:=scl w m
def tL (m n:Nat)(a:Nat->Nat->Q2)(b:Nat->Q2)(r j:Nat):Int:=if j<m then (a r j).1*(sS m a b r / (a r j).2) else if j<m+n then (if r=j-m then 1 else 0) else (b r).1*(sS m a b r / (b r).2)
def wL (m:Nat)(w:Nat->Q2):Nat->Int:=λj=>if j<m then -((w j).1*(wS0 m w / (w j).2)) else 0
section
variable {m n:Nat}{a w:Nat->Nat->Q2}{b:Nat->Q2}
theorem V8 (I:In m n a b w)(r i:Nat):cU (rb m (a r) (b r) i):=by
 unfold rb
 split
 ·exact I.ha r i
 ·exact I.hb r
theorem zy (I:In m n a b w)(r:Nat):0<sS m a b r/\(sS m a b r).natAbs<2 ^ 91/\(∀i,i<m->(a r i).2 ∣ sS m a b r)/\(b r).2 ∣ sS m a b r:=by
 obtain ⟨h1,h2,h3⟩:=Gd (V8 I r) (m+1)
 have:=I.m8
 refine ⟨h1,dh h2 (by omega),λi hi=>?_,?_⟩
 ·have:=h3 i (by omega)
  unfold rb at this
  rwa [if_pos hi] at this
 ·have:=h3 m (by omega)
  unfold rb at this
  rwa [if_neg (by omega)] at this
theorem my (I:In m n a b w)(l:Nat):0<wS0 m (w l)/\(wS0 m (w l)).natAbs<2 ^ 91/\∀i,i<m->(w l i).2 ∣ wS0 m (w l):=by
 obtain ⟨h1,h2,h3⟩:=Gd (I.hw l) m
 have:=I.m8
 exact ⟨h1,dh h2 (by omega),h3⟩
theorem Eh {k q:Int}(hq:0<q)(hk:0<k)(h:k.natAbs<2 ^ 91):(k / q).natAbs<2 ^ 91:=by
 have h1:=Int.ediv_le_self q (Int.le_of_lt hk)
 have h2:=Int.ediv_nonneg (Int.le_of_lt hk) (Int.le_of_lt hq)
 omega
theorem aaX (I:In m n a b w)(r j:Nat):(tL m n a b r j).natAbs<2 ^ 121:=by
 obtain ⟨h1,h2,_⟩:=zy I r
 unfold tL
 split
 ·exact cV (I.ha r j).b1 (Eh (I.ha r j).pos h1 h2)
 ·split
  ·split<;>decide
  ·exact cV (I.hb r).b1 (Eh (I.hb r).pos h1 h2)
theorem w_lt (I:In m n a b w)(l j:Nat):(wL m (w l) j).natAbs<2 ^ 121:=by
 obtain ⟨h1,h2,_⟩:=my I l
 unfold wL
 split
 ·rw [Int.natAbs_neg];exact cV (I.hw l j).b1 (Eh (I.hw l j).pos h1 h2)
 ·decide
theorem Qd:∀n,n<=8->Sx.fct n<=40320:=by decide
theorem o9 (I:In m n a b w):LP m n (tL m n a b) (λl=>wL m (w l)) (2 ^ 121) (2 ^ 121):=by
 have h8:=I.n8
 have p1:(2 ^ 121:Nat) ^ n<=2 ^ 968:=by
  rw [← Nat.pow_mul]
  exact Nat.pow_le_pow_right (by decide) (by omega)
 have p2:Sx.fct n*(2 ^ 121) ^ n<=40320*2 ^ 968:=Nat.mul_le_mul (Qd n h8) p1
 refine ⟨I.m8,I.n8,⟨λi hi k hk=>?_,λi hi=>?_⟩,λl j hj=>if_neg (by omega),⟨λi hi j hj=>Nat.le_of_lt (aaX I i j)⟩,λl j hj=>Nat.le_of_lt (w_lt I l j),Nat.lt_of_le_of_lt p2 (by decide),?_⟩
 ·unfold tL
  rw [if_neg (by omega),if_pos (by omega)]
  by_cases q:i=k
  ·rw [if_pos q,if_pos (by omega)]
  ·rw [if_neg q,if_neg (by omega)]
 ·unfold tL
  rw [if_neg (by omega),if_neg (by omega)]
  exact Int.mul_nonneg (I.b0 i) (Int.ediv_nonneg (Int.le_of_lt (zy I i).1) (Int.le_of_lt (I.hb i).pos))
 ·refine Nat.lt_of_le_of_lt (Nat.mul_le_mul (show n+1<=9 by omega) (Nat.mul_le_mul_right (2 ^ 121) p2)) (by decide)
end
section
variable {m n K:Nat}{a w:Nat->Nat->Q2}{b:Nat->Q2}
def au (m:Nat)(a:Nat->Q2):D:=.lst (rg m λi=>qD (a i))
def aK (m n:Nat)(a:Nat->Nat->Q2):D:=.lst (rg n λr=>au m (a r))
theorem Jz {k q:Int}(hq:0<q)(hk:0<k)(h:k.natAbs<2 ^ 91):Bg (k / q):=dD (Eh hq hk h)
theorem b8 {Φ:List D->Res (Bool×D)}{fs:Me->Res (List D)}{x:Me}{ds:List D}{c:Bool}{d:D}(h:fs x=.ok ds)(h2:Φ ds=.ok (c,d)):fFn Φ fs x=.ok d:=by
 unfold fFn
 rw [h,Res.bh,h2]
 rfl
theorem J3 {f g:Nat->D}:∀k,rg n f++rg k g=rg (n+k) λj=>if j<n then f j else g (j-n)
 |0=>by
  show rg n f++[]=_
  rw [List.append_nil]
  exact kO λi hi=>by rw [if_pos hi]
 |k+1=>by
  rw [vG,← List.append_assoc,J3 k]
  show _=rg (n+k+1) _
  rw [vG,if_neg (by omega),Nat.add_sub_cancel_left]
theorem T5 {o:D}(I:In m n a b w)(ho:jm "Corner" "scales" o=some (iL n (sS m a b))){r:Nat}(hr:r<n):gR [o,.int r,au m (a r),qD (b r)]=.ok (true,iL (m+n+1) (tL m n a b r)):=by
 obtain ⟨s1,s2,_⟩:=zy I r
 have h8:=I.m8
 have n8:=I.n8
 have wa:dB [au m (a r),.int (sS m a b r)]=.ok (true,.lst (rg m λi=>.int ((a r i).1*(sS m a b r / (a r i).2)))):=Bm h8 (I.ha r) λi=>Jz (I.ha r i).pos s1 s2
 have wb:dB [.lst [qD (b r)],.int (sS m a b r)]=.ok (true,.lst [.int ((b r).1*(sS m a b r / (b r).2))]):=Bm (k:=1) (q:=λ_=>b r) (by decide) (λ_=>I.hb r) λi=>Jz (I.hb r).pos s1 s2
 have hln:n<=16777216:=by omega
 have e1:gh [.fz o,.fz (.int r),.fz (au m (a r)),.fz (qD (b r)),.un,.un]=.ok (.lst (rg n λk=>.int (if r=k then 1 else 0))):=by
  have ei:=itR (f:=aa (bJ fH (aa (cA "Corner" "scales" (aj 0)) az)) az) (m:=[.fz o,.fz (.int r),.fz (au m (a r)),.fz (qD (b r)),.un,.un]) (j:=n) (n:=n) (by simp [aa,az,bJ,cA,aj,ho,fH,iL,bD]) rfl (by omega)
  have ec:=dC (n:=n) (f:=λi=>.int i) (h:=hName 0) (ft:=eU) (fe:=f9) (m0:=[.un,.fz (.int r)]) (λk=>.int (if r=k then 1 else 0)) λk hk=>⟨[.fz (.int k),.fz (.int r)],rfl,rfl,by
   by_cases q:r=k
   ·simp [f9,fIf,aQ,aj,fC,q]
   ·have q':¬(k:Int)=r:=by omega
    simp [f9,fIf,aQ,aj,fC,q,q']⟩
  unfold gh cG
  rw [ei]
  simp [cMe,Sl.bor,bD,hln,ec]
 have e2:gIx (iL n (sS m a b)) (.int r)=some (.int (sS m a b r)):=kh hr
 have e3:(rg m λi=>D.int ((a r i).1*(sS m a b r / (a r i).2)))++(rg n λk=>D.int (if r=k then 1 else 0))++[D.int ((b r).1*(sS m a b r / (b r).2))]=rg (m+n+1) λj=>D.int (tL m n a b r j):=by
  rw [J3,vG (n:=m+n)]
  congr 1
  ·refine kO λj hj=>?_
   unfold tL
   by_cases q:j<m
   ·rw [if_pos q,if_pos q]
   ·rw [if_neg q,if_neg q,if_pos hj]
  ·unfold tL
   rw [if_neg (by omega),if_neg (by omega)]
 have hl:m+n<=sizeLine:=by rw [szl];omega
 have hl2:m+n+1<=sizeLine:=by rw [szl];omega
 generalize hrs:(rg n λk=>D.int (if r=k then 1 else 0))=rs at *
 have hrl:rs.length=n:=by rw [← hrs,bD]
 have f1:bf 4 gh [.fz o,.fz (.int r),.fz (au m (a r)),.fz (qD (b r)),.un,.un]=.ok (.nx,[.fz o,.fz (.int r),.fz (au m (a r)),.fz (qD (b r)),.fz (.lst rs),.un]):=by
  unfold bf;rw [e1];rfl
 have f2:bf 5 (aA gIx (cA "Corner" "scales" (aj 0)) (aj 1)) [.fz o,.fz (.int r),.fz (au m (a r)),.fz (qD (b r)),.fz (.lst rs),.un]=.ok (.nx,[.fz o,.fz (.int r),.fz (au m (a r)),.fz (qD (b r)),.fz (.lst rs),.fz (.int (sS m a b r))]):=by
  simp [bf,aA,cA,aj,ho,e2]
 have f3:(aA Bu (aA eX (fFn dB (aa (aD 2) (aa (aD 5) az))) (aj 4)) (fFn dB (aa (jr (aa (aD 3) az)) (aa (aD 5) az)))) [.fz o,.fz (.int r),.fz (au m (a r)),.fz (qD (b r)),.fz (.lst rs),.fz (.int (sS m a b r))]=.ok (.lst (rg (m+n+1) λj=>D.int (tL m n a b r j))):=by
  have g1:=b8 (fs:=aa (aD 2) (aa (aD 5) az)) (x:=[.fz o,.fz (.int r),.fz (au m (a r)),.fz (qD (b r)),.fz (.lst rs),.fz (.int (sS m a b r))]) rfl wa
  have g2:=b8 (fs:=aa (jr (aa (aD 3) az)) (aa (aD 5) az)) (x:=[.fz o,.fz (.int r),.fz (au m (a r)),.fz (qD (b r)),.fz (.lst rs),.fz (.int (sS m a b r))]) (ds:=[.lst [qD (b r)],.int (sS m a b r)]) (by simp [aa,az,jr,aD]) wb
  unfold aA
  rw [g1,g2,Res.bh,show aj 4 [.fz o,.fz (.int r),.fz (au m (a r)),.fz (qD (b r)),.fz (.lst rs),.fz (.int (sS m a b r))]=.ok (.lst rs) from rfl,Res.bh]
  have k1:eX (.lst (rg m λi=>D.int ((a r i).1*(sS m a b r / (a r i).2)))) (.lst rs)=some (.lst ((rg m λi=>D.int ((a r i).1*(sS m a b r / (a r i).2)))++rs)):=by
   show (if (rg m λi=>D.int ((a r i).1*(sS m a b r / (a r i).2))).length+rs.length<=sizeLine then _ else _)=_
   rw [bD,hrl,if_pos hl]
  have k2:Bu (.lst ((rg m λi=>D.int ((a r i).1*(sS m a b r / (a r i).2)))++rs)) (.lst [.int ((b r).1*(sS m a b r / (b r).2))])=some (.lst ((rg m λi=>D.int ((a r i).1*(sS m a b r / (a r i).2)))++rs++[.int ((b r).1*(sS m a b r / (b r).2))])):=by
   show (if ((rg m λi=>D.int ((a r i).1*(sS m a b r / (a r i).2)))++rs).length+1<=sizeLine then _ else _)=_
   rw [List.length_append,bD,hrl]
   exact if_pos hl2
  rw [k1,nY,Res.bh,Res.bh,k2,e3]
  rfl
 have eg:gQ [.fz o,.fz (.int r),.fz (au m (a r)),.fz (qD (b r)),.un,.un]=.ok (.rt true (iL (m+n+1) (tL m n a b r)),[.fz o,.fz (.int r),.fz (au m (a r)),.fz (qD (b r)),.fz (.lst rs),.fz (.int (sS m a b r))]):=by
  unfold gQ jQ
  rw [aZ f1,aZ f2]
  unfold lF
  rw [show Me.let [.fz o,.fz (.int r),.fz (au m (a r)),.fz (qD (b r)),.fz (.lst rs),.fz (.int (sS m a b r))]=[.fz o,.fz (.int r),.fz (au m (a r)),.fz (qD (b r)),.fz (.lst rs),.fz (.int (sS m a b r))] from rfl,f3]
  rfl
 exact dX rfl eg
theorem Rc {o:D}{l:Nat}(hl0:l<K)(I:In m n a b w)(ho:jm "Corner" "scales" o=some (iL n (sS m a b)))(hs:jm "Corner" "wish_scales" o=some (iL K λl=>wS0 m (w l))):eG [o,.int l,au m (w l)]=.ok (true,iL (m+n+1) (wL m (w l))):=by
 obtain ⟨s1,s2,_⟩:=my I l
 have h8:=I.m8
 have n8:=I.n8
 have ww:dB [au m (w l),.int (wS0 m (w l))]=.ok (true,.lst (rg m λi=>.int ((w l i).1*(wS0 m (w l) / (w l i).2)))):=Bm h8 (I.hw l) λi=>Jz (I.hw l i).pos s1 s2
 have e3:gIx (iL K λl=>wS0 m (w l)) (.int l)=some (.int (wS0 m (w l))):=kh hl0
 have f1:bf 3 (fFn dB (aa (aD 2) (aa (aA gIx (cA "Corner" "wish_scales" (aj 0)) (aj 1)) az))) [.fz o,.fz (.int l),.fz (au m (w l)),.un]=.ok (.nx,[.fz o,.fz (.int l),.fz (au m (w l)),.fz (.lst (rg m λi=>.int ((w l i).1*(wS0 m (w l) / (w l i).2))))]):=by
  have g:=b8 (fs:=aa (aD 2) (aa (aA gIx (cA "Corner" "wish_scales" (aj 0)) (aj 1)) az)) (x:=[.fz o,.fz (.int l),.fz (au m (w l)),.un]) (ds:=[au m (w l),.int (wS0 m (w l))]) (by simp [aa,az,aD,aA,cA,aj,hs,e3]) ww
  unfold bf
  rw [g]
  rfl
 have hl:m<=16777216:=by omega
 have hln:n<=16777216:=by omega
 have q1:dM [.fz o,.fz (.int l),.fz (au m (w l)),.fz (.lst (rg m λi=>.int ((w l i).1*(wS0 m (w l) / (w l i).2))))]=.ok (.lst (rg m λi=>.int (-((w l i).1*(wS0 m (w l) / (w l i).2))))):=by
  have ec:=dC (n:=m) (f:=λi=>.int ((w l i).1*(wS0 m (w l) / (w l i).2))) (h:=hName 0) (ft:=eU) (fe:=jl) (m0:=[.un]) (λi=>.int (-((w l i).1*(wS0 m (w l) / (w l i).2)))) λi hi=>⟨_,rfl,rfl,rfl⟩
  simp [dM,cG,lq,aj,cMe,bD,hl,ec]
 have q2:dN [.fz o,.fz (.int l),.fz (au m (w l)),.fz (.lst (rg m λi=>.int ((w l i).1*(wS0 m (w l) / (w l i).2))))]=.ok (.lst (rg n λ_=>.int 0)):=by
  have ec:=dC (n:=n) (f:=λi=>.int (sS m a b i)) (h:=hName 0) (ft:=eU) (fe:=jq) (m0:=[.un]) (λ_=>.int 0) λi hi=>⟨_,rfl,rfl,rfl⟩
  simp [dN,cG,lq,cA,aj,ho,iL,cMe,bD,hln,ec]
 have e4:(rg m λi=>D.int (-((w l i).1*(wS0 m (w l) / (w l i).2))))++(rg n λ_=>D.int 0)++[D.int 0]=rg (m+n+1) λj=>D.int (wL m (w l) j):=by
  rw [J3,vG (n:=m+n)]
  congr 1
  ·refine kO λj hj=>?_
   unfold wL
   by_cases q:j<m
   ·rw [if_pos q,if_pos q]
   ·rw [if_neg q,if_neg q]
  ·unfold wL
   rw [if_neg (by omega)]
 have hl1:m+n<=sizeLine:=by rw [szl];omega
 have hl2:m+n+1<=sizeLine:=by rw [szl];omega
 have f3:(aA Bu (aA eX dM dN) (jr (aa (fC (.int 0)) az))) [.fz o,.fz (.int l),.fz (au m (w l)),.fz (.lst (rg m λi=>.int ((w l i).1*(wS0 m (w l) / (w l i).2))))]=.ok (.lst (rg (m+n+1) λj=>D.int (wL m (w l) j))):=by
  unfold aA
  rw [q1,q2,Res.bh,Res.bh]
  have k1:eX (.lst (rg m λi=>D.int (-((w l i).1*(wS0 m (w l) / (w l i).2))))) (.lst (rg n λ_=>.int 0))=some (.lst ((rg m λi=>D.int (-((w l i).1*(wS0 m (w l) / (w l i).2))))++rg n λ_=>.int 0)):=by
   show (if (rg m λi=>D.int (-((w l i).1*(wS0 m (w l) / (w l i).2)))).length+(rg n λ_=>D.int 0).length<=sizeLine then _ else _)=_
   rw [bD,bD,if_pos hl1]
  have k2:Bu (.lst ((rg m λi=>D.int (-((w l i).1*(wS0 m (w l) / (w l i).2))))++rg n λ_=>.int 0)) (.lst [.int 0])=some (.lst (((rg m λi=>D.int (-((w l i).1*(wS0 m (w l) / (w l i).2))))++rg n λ_=>.int 0)++[.int 0])):=by
   show (if ((rg m λi=>D.int (-((w l i).1*(wS0 m (w l) / (w l i).2))))++rg n λ_=>D.int 0).length+1<=sizeLine then _ else _)=_
   rw [List.length_append,bD,bD]
   exact if_pos hl2
  rw [k1,nY,Res.bh,show jr (aa (fC (.int 0)) az) [.fz o,.fz (.int l),.fz (au m (w l)),.fz (.lst (rg m λi=>.int ((w l i).1*(wS0 m (w l) / (w l i).2))))]=.ok (.lst [.int 0]) from rfl,Res.bh,k2,e4]
  rfl
 have eg:eF [.fz o,.fz (.int l),.fz (au m (w l)),.un]=.ok (.rt true (iL (m+n+1) (wL m (w l))),[.fz o,.fz (.int l),.fz (au m (w l)),.fz (.lst (rg m λi=>.int ((w l i).1*(wS0 m (w l) / (w l i).2))))]):=by
  unfold eF gG
  rw [aZ f1]
  unfold lF
  rw [show Me.let [.fz o,.fz (.int l),.fz (au m (w l)),.fz (.lst (rg m λi=>.int ((w l i).1*(wS0 m (w l) / (w l i).2))))]=[.fz o,.fz (.int l),.fz (au m (w l)),.fz (.lst (rg m λi=>.int ((w l i).1*(wS0 m (w l) / (w l i).2))))] from rfl,f3]
  rfl
 exact dX rfl eg
theorem vR {g:Me->Res (Fl×Me)}{h:Me->Res (Me×D)}{x x':Me}(e:g x=.ok (.nx,x')):vY g h x=h x':=by unfold vY;rw [e]
def aO (n:Nat)(b:Nat->Q2):D:=.lst (rg n λr=>qD (b r))
def st (m n K:Nat)(a:Nat->Nat->Q2)(b:Nat->Q2)(w:Nat->Nat->Q2)(ns:List Str)(ds:List D):Me:=[.io (.ins "Corner" ns ds),.fz (aK m n a),.fz (aO n b),.fz (.lst (rg K λl=>au m (w l)))]
theorem yN {ns:List Str}{ds:List D}{f:Str}{g:Me->Res D}{d:D}{ns':List Str}{ds':List D}(hl:ns.length<999)(hg:g (st m n K a b w ns ds)=.ok d)(hp:iT ns ds f d=(ns',ds')):j5 0 "Corner" f g (st m n K a b w ns ds)=.ok (.nx,st m n K a b w ns' ds'):=by
 have:=Fq (i:=0) (f:=f) (m:=st m n K a b w ns ds) rfl hg hl
 rw [hp] at this
 exact this
theorem Rb {x:Str}{ns:List Str}{ds:List D}(hm:ns.contains x=false):mR "Corner" x (.ins "Corner" ns ds)=true:=by
 show (decide (Str.ofString "Corner" = Str.ofString "Corner") && !ns.contains x)=true
 rw [hm];simp
theorem HF (I:In m n a b w){ns:List Str}{ds:List D}:jO (st m n K a b w ns ds)=.ok (iL n (sS m a b)):=by
 have hl:m+1<=16777216:=by have:=I.m8;omega
 have hn:n<=16777216:=by have:=I.n8;omega
 have ec:=dC (n:=n) (f:=λr=>.tup [au m (a r),qD (b r)]) (h:=nZ 2 (cL (hName 0) (cL (hName 1) nW))) (ft:=eU) (fe:=oV) (m0:=[.un,.un]) (λr=>.int (sS m a b r)) λr hr=>⟨[.fz (au m (a r)),.fz (qD (b r))],rfl,rfl,by
  have e:=Hg (k:=m+1) (by have:=I.m8;omega) (V8 I r)
  have er:(rg (m+1) λi=>qD (rb m (a r) (b r) i))=(rg m λi=>qD (a r i))++[qD (b r)]:=by
   rw [vG,show rb m (a r) (b r) m=b r from if_neg (by omega),kO (g:=λi=>qD (a r i)) λi hi=>by rw [show rb m (a r) (b r) i=a r i from if_pos hi]]
  rw [er] at e
  refine b8 (ds:=[.lst ((rg m λi=>qD (a r i))++[qD (b r)])]) ?_ e
  simp [aa,az,aA,aj,jr,aD,eX,au,bD,hl]⟩
 unfold jO cG
 rw [show qC (aa (aj 1) (aa (aj 2) az)) (st m n K a b w ns ds)=.ok (rg n λr=>.tup [au m (a r),qD (b r)]) by simp [qC,aa,az,aj,st,aK,aO,wQ]]
 simp [cMe,bD,hn,ec]
 rfl
theorem TV (I:In m n a b w)(hK:K<=8){ns:List Str}{ds:List D}:jK (st m n K a b w ns ds)=.ok (iL K λl=>wS0 m (w l)):=by
 have ec:=dC (n:=K) (f:=λl=>au m (w l)) (h:=hName 0) (ft:=eU) (fe:=oU) (m0:=[.un]) (λl=>.int (wS0 m (w l))) λl hl=>⟨[.fz (au m (w l))],rfl,rfl,b8 (ds:=[au m (w l)]) rfl (Hg (k:=m) (by have:=I.m8;omega) (I.hw l))⟩
 have hl:K<=16777216:=by omega
 simp [jK,cG,lq,aj,st,cMe,bD,hl,ec]
 rfl
theorem Ju (I:In m n a b w){ns:List Str}{ds:List D}(hm:ns.contains "first_line" = false)(ho:jm "Corner" "scales" (.ins "Corner" ns ds)=some (iL n (sS m a b))):jJ (st m n K a b w ns ds)=.ok (.lst (rg n λr=>iL (m+n+1) (tL m n a b r))):=by
 have hn:n<=16777216:=by have:=I.n8;omega
 have ei:=itR (f:=aa (bJ fH (aa (aj 1) az)) az) (m:=st m n K a b w ns ds) (j:=n) (n:=n) (by simp [aa,az,bJ,aj,st,aK,fH,bD]) rfl (by have:=I.n8;omega)
 have ec:=dC (n:=n) (f:=λi=>.int i) (h:=hName 0) (ft:=eU) (fe:=oY) (m0:=[.un,.bw (.ins "Corner" ns ds),.fz (aK m n a),.fz (aO n b)]) (λr=>iL (m+n+1) (tL m n a b r)) λr hr=>⟨[.fz (.int r),.bw (.ins "Corner" ns ds),.fz (aK m n a),.fz (aO n b)],rfl,rfl,by
  have g1:gIx (aK m n a) (.int r)=some (au m (a r)):=oW hr
  have g2:gIx (aO n b) (.int r)=some (qD (b r)):=oW hr
  exact mt1 (o:=.ins "Corner" ns ds) (ds:=[.int r,au m (a r),qD (b r)]) (b:=true) rfl (Rb hm) (by simp [aa,az,aA,aj,g1,g2]) (T5 I ho hr) Ei⟩
 unfold jJ cG
 rw [ei]
 simp [cMe,Sl.bor,st,bD,hn,ec]
theorem Th (I:In m n a b w)(hK:K<=8){ns:List Str}{ds:List D}(hm:ns.contains "first_wish_line" = false)(ho:jm "Corner" "scales" (.ins "Corner" ns ds)=some (iL n (sS m a b)))(hs:jm "Corner" "wish_scales" (.ins "Corner" ns ds)=some (iL K λl=>wS0 m (w l))):jR (st m n K a b w ns ds)=.ok (.lst (rg K λl=>iL (m+n+1) (wL m (w l)))):=by
 have ec:=dC (n:=K) (f:=λl=>.tup [.int l,au m (w l)]) (h:=nZ 2 (cL (hName 0) (cL (hName 1) nW))) (ft:=eU) (fe:=pA) (m0:=[.un,.un,.bw (.ins "Corner" ns ds)]) (λl=>iL (m+n+1) (wL m (w l))) λl hl=>⟨[.fz (.int l),.fz (au m (w l)),.bw (.ins "Corner" ns ds)],rfl,rfl,mt1 (o:=.ins "Corner" ns ds) (ds:=[.int l,au m (w l)]) (b:=true) rfl (Rb hm) rfl (Rc hl I ho hs) Ei⟩
 have hl:K<=16777216:=by omega
 unfold jR cG
 rw [show u0 (aa (aj 3) az) (st m n K a b w ns ds)=.ok (rg K λl=>.tup [.int l,au m (w l)]) by simp [u0,aa,az,aj,st,yh]]
 simp [cMe,Sl.bor,st,bD,hl,ec]
theorem Nt {ns:List Str}{ds:List D}(hn:n<=8)(ho:jm "Corner" "wide" (.ins "Corner" ns ds)=some (.int m)):jk (st m n K a b w ns ds)=.ok (hD n λr=>m+r):=by
 have hl:n<=16777216:=by omega
 have ei:=itR (f:=aa (bJ fH (aa (aj 1) az)) az) (m:=st m n K a b w ns ds) (j:=n) (n:=n) (by simp [aa,az,bJ,aj,st,aK,fH,bD]) rfl (by omega)
 have ec:=dC (n:=n) (f:=λi=>.int i) (h:=hName 0) (ft:=eU) (fe:=jT) (m0:=[.un,.bw (.ins "Corner" ns ds)]) (λr=>.int ((m+r:Nat):Int)) λr hr=>⟨[.fz (.int r),.bw (.ins "Corner" ns ds)],rfl,rfl,by
  simp [jT,aA,cA,aj,ho,eX]⟩
 unfold jk cG
 rw [ei]
 simp [cMe,Sl.bor,st,bD,hl,ec]
 rfl
def n6:List Str:=["wide", "scales", "wish_scales", "lines", "wish_lines", "bottom"]
def d6 (m n K:Nat)(a:Nat->Nat->Q2)(b:Nat->Q2)(w:Nat->Nat->Q2):List D:=[.int m,iL n (sS m a b),(iL K λl=>wS0 m (w l)),.lst (rg n λr=>iL (m+n+1) (tL m n a b r)),.lst (rg K λl=>iL (m+n+1) (wL m (w l))),.int 1]
theorem Kd (I:In m n a b w)(h0:0<K)(hK:K<=8):cg [aK m n a,aO n b,.lst (rg K λl=>au m (w l))]=.ok (n6,d6 m n K a b w,hD n λr=>m+r):=by
 have s1:=yN (m:=m) (n:=n) (K:=K) (a:=a) (b:=b) (w:=w) (ns:=[]) (ds:=[]) (f:="wide") (g:=bJ fH (aa (aA gIx (aj 3) (fC (.int 0))) az)) (d:=.int m) (by decide) (by
  have e0:gIx (.lst (rg K λl=>au m (w l))) (.int 0)=some (au m (w 0)):=oW (i:=0) h0
  have e1:fH [au m (w 0)]=some (.int m):=by simp [fH,au,bD]
  simp [bJ,aa,az,aA,aj,st,fC,e0,e1]) rfl
 have s2:=yN (f:="scales") (ns':=["wide", "scales"]) (ds':=[.int m,iL n (sS m a b)]) (by decide) (HF (K:=K) I (ns:=["wide"]) (ds:=[.int m])) (by simp [iT])
 have s3:=yN (f:="wish_scales") (ns':=["wide", "scales", "wish_scales"]) (ds':=[.int m,iL n (sS m a b),(iL K λl=>wS0 m (w l))]) (by decide) (TV I hK (ns:=["wide", "scales"]) (ds:=[.int m,iL n (sS m a b)])) (by simp [iT])
 have s4:=yN (f:="lines") (ns':=["wide", "scales", "wish_scales", "lines"]) (ds':=[.int m,iL n (sS m a b),(iL K λl=>wS0 m (w l)),.lst (rg n λr=>iL (m+n+1) (tL m n a b r))]) (by decide) (Ju (K:=K) I (ns:=["wide", "scales", "wish_scales"]) (ds:=[.int m,iL n (sS m a b),(iL K λl=>wS0 m (w l))]) (by decide) (by simp [jm,vg])) (by simp [iT])
 have s5:=yN (f:="wish_lines") (ns':=["wide", "scales", "wish_scales", "lines", "wish_lines"]) (ds':=[.int m,iL n (sS m a b),(iL K λl=>wS0 m (w l)),.lst (rg n λr=>iL (m+n+1) (tL m n a b r)),.lst (rg K λl=>iL (m+n+1) (wL m (w l)))]) (by decide) (Th I hK (ns:=["wide", "scales", "wish_scales", "lines"]) (ds:=[.int m,iL n (sS m a b),(iL K λl=>wS0 m (w l)),.lst (rg n λr=>iL (m+n+1) (tL m n a b r))]) (by decide) (by simp [jm,vg]) (by simp [jm,vg])) (by simp [iT])
 have s6:=yN (m:=m) (n:=n) (K:=K) (a:=a) (b:=b) (w:=w) (f:="bottom") (ns':=n6) (ds':=d6 m n K a b w) (ns:=["wide", "scales", "wish_scales", "lines", "wish_lines"]) (ds:=[.int m,iL n (sS m a b),(iL K λl=>wS0 m (w l)),.lst (rg n λr=>iL (m+n+1) (tL m n a b r)),.lst (rg K λl=>iL (m+n+1) (wL m (w l)))]) (g:=fC (.int 1)) (d:=.int 1) (by decide) rfl (by simp [iT,n6,d6])
 have s7:=Nt (m:=m) (n:=n) (K:=K) (a:=a) (b:=b) (w:=w) (ns:=n6) (ds:=d6 m n K a b w) I.n8 (by simp [jm,n6,d6,vg])
 have e:gq (st m n K a b w [] [])=.ok (st m n K a b w n6 (d6 m n K a b w),hD n λr=>m+r):=by
  unfold gq lD
  rw [vR s1]
  refine (vR s2).trans ?_
  rw [vR s3,vR s4,vR s5,vR s6]
  have ob:mR "Corner" "" ((nU (st m n K a b w n6 (d6 m n K a b w)) 0).getD .non)=true:=Rb (by decide)
  rw [if_pos ob]
  unfold Fv
  rw [s7]
  rfl
 unfold cg Oq
 rw [if_pos (show [aK m n a,aO n b,D.lst (rg K λl=>au m (w l))].length+1=4 from rfl)]
 show (match gq (st m n K a b w [] []) with | .ok (m',d)=>_ | _=>_)=_
 rw [e]
 show (if Str.ofString "Corner" = Str.ofString "Corner"/\n6.length<999 then _ else _)=_
 rw [if_pos ⟨rfl,by decide⟩]
end
end K37
namespace Sx
def sr:Nat->(Nat->Rat)->Rat
 |0,_=>0
 |n+1,f=>sr n f+f n
theorem bM {f g:Nat->Rat}:∀{n:Nat},(∀i,i<n->f i=g i)->sr n f=sr n g
 |0,_=>rfl
 |n+1,h=>by
  show sr n f+f n=sr n g+g n
  rw [bM λi hi=>h i (by omega),h n (by omega)]
theorem nG {f:Nat->Rat}:∀{n:Nat},(∀i,i<n->f i=0)->sr n f=0
 |0,_=>rfl
 |n+1,h=>by
  show sr n f+f n=0
  rw [nG λi hi=>h i (by omega),h n (by omega)];grind
theorem uN (f g:Nat->Rat):∀n:Nat,sr n (λi=>f i+g i)=sr n f+sr n g
 |0=>by show (0:Rat)=0+0;grind
 |n+1=>by
  show sr n (λi=>f i+g i)+(f n+g n)=sr n f+f n+(sr n g+g n)
  rw [uN f g n];grind
theorem gn (a:Rat)(f:Nat->Rat):∀n:Nat,sr n (λi=>a*f i)=a*sr n f
 |0=>by show (0:Rat)=a*0;grind
 |n+1=>by
  show sr n (λi=>a*f i)+a*f n=a*(sr n f+f n)
  rw [gn a f n];grind
theorem GR (f:Nat->Nat->Rat)(k:Nat):∀n:Nat,sr n (λi=>sr k λj=>f i j)=sr k λj=>sr n λi=>f i j
 |0=>(nG λ_ _=>rfl).symm
 |n+1=>by
  show sr n (λi=>sr k λj=>f i j)+sr k (f n)=sr k λj=>sr n (λi=>f i j)+f n j
  rw [GR f k n,uN]
theorem Em {f:Nat->Rat}{p:Nat}:∀{n:Nat},p<n->(∀i,i<n->i≠p->f i=0)->sr n f=f p
 |0,h,_=>absurd h (Nat.not_lt_zero _)
 |n+1,h,h0=>by
  show sr n f+f n=f p
  by_cases q:p=n
  ·subst q
   rw [nG λi hi=>h0 i (by omega) (by omega)];grind
  ·rw [Em (p:=p) (by omega) λi hi hp=>h0 i (by omega) hp,h0 n (by omega) (Ne.symm q)];grind
theorem Dh {f g:Nat->Rat}:∀{n:Nat},(∀i,i<n->f i<=g i)->sr n f<=sr n g
 |0,_=>Rat.le_refl
 |n+1,h=>by
  have h1:=Dh (f:=f) (g:=g) (n:=n) λi hi=>h i (by omega)
  have h2:=h n (by omega)
  show sr n f+f n<=sr n g+g n
  grind
theorem O4 {f:Nat->Rat}{n:Nat}(h:∀i,i<n->0<=f i):0<=sr n f:=by
 have:=Dh (f:=λ_=>0) (g:=f) h
 rwa [nG λ_ _=>rfl] at this
theorem wU (f:Nat->Int):∀n,((sm n f:Int):Rat)=sr n λi=>(f i:Rat)
 |0=>rfl
 |n+1=>by
  show ((sm n f+f n:Int):Rat)=sr n _+_
  rw [← wU f n];grind
theorem Kz {h:Nat->Nat}{m:Nat}(f:Nat->Rat)(y:Nat->Rat)(n:Nat):sr m (λj=>f j*sr n λr=>if h r=j then y r else 0)=sr n λr=>if h r<m then f (h r)*y r else 0:=by
 have e1:∀j,j<m->f j*sr n (λr=>if h r=j then y r else 0)=sr n λr=>if h r=j then f j*y r else 0:=λj _=>by
  rw [← gn]
  exact bM λr _=>by split<;>grind
 rw [bM e1,GR]
 refine bM λr _=>?_
 by_cases q:h r<m
 ·rw [if_pos q,Em (p:=h r) q λi _ z=>if_neg (Ne.symm z),if_pos rfl]
 ·rw [if_neg q]
  exact nG λi hi=>if_neg (by omega)
theorem Eo {a b:Rat}(ha:0<=a)(hb:0<b):0<=a / b:=by
 have h:a / b*b=a:=by grind
 refine Rat.not_lt.mp λz=>?_
 have:a / b*b<0:=by
  have:=Rat.mul_pos (show 0 < -(a / b) by grind) hb
  grind
 grind
theorem nu {a b k:Rat}(hk:0<k)(h:k*a<=k*b):a<=b:=by
 refine Rat.not_lt.mp λz=>?_
 have:=Rat.mul_pos hk (show 0<a-b by grind)
 grind
theorem yE {a b k:Rat}(hk:0<k)(h:k*a=k*b):a=b:=by
 have:k≠0:=by grind
 grind
theorem W7 (f:Nat->Rat)(n:Nat):sr n (λi=>-f i)=-sr n f:=by
 have:=gn (-1) f n
 rw [show (λi=>-f i)=λi=>-1*f i by funext i;grind,this];grind
structure Fit (m n:Nat)(A:Nat->Nat->Rat)(B:Nat->Rat)(x:Nat->Rat):Prop where
 nn:∀j,j<m->0<=x j
 le:∀i,i<n->sr m (λj=>A i j*x j)<=B i
structure xU (m n:Nat)(A:Nat->Nat->Rat)(B C:Nat->Rat)(x y:Nat->Rat):Prop where
 nn:∀i,i<n->0<=y i
 ge:∀j,j<m->C j<=sr n λi=>A i j*y i
 eq:sr m (λj=>C j*x j)=sr n λi=>B i*y i
structure Way (m n:Nat)(A:Nat->Nat->Rat)(C:Nat->Rat)(d:Nat->Rat):Prop where
 nn:∀j,j<m->0<=d j
 le:∀i,i<n->sr m (λj=>A i j*d j)<=0
 pos:0<sr m λj=>C j*d j
section
variable {m n:Nat}{A:Nat->Nat->Rat}{B C:Nat->Rat}{x y z d:Nat->Rat}
theorem Ke (hy:∀i,i<n->0<=y i)(hg:∀j,j<m->C j<=sr n λi=>A i j*y i)(hz:∀j,j<m->0<=z j):sr m (λj=>C j*z j)<=sr n λi=>y i*sr m λj=>A i j*z j:=by
 have e:sr n (λi=>y i*sr m λj=>A i j*z j)=sr m λj=>(sr n λi=>A i j*y i)*z j:=by
  have e1:∀i,i<n->y i*sr m (λj=>A i j*z j)=sr m λj=>A i j*y i*z j:=λi _=>by
   rw [← gn]
   exact bM λj _=>by grind
  rw [bM e1,GR]
  exact bM λj _=>by
   rw [Rat.mul_comm,← gn]
   exact bM λi _=>by grind
 rw [e]
 refine Dh λj hj=>?_
 have:=Rat.mul_le_mul_of_nonneg_left (hg j hj) (hz j hj)
 grind
theorem xU.most (P:xU m n A B C x y)(F:Fit m n A B z):sr m (λj=>C j*z j)<=sr m λj=>C j*x j:=by
 rw [P.eq]
 refine Rat.le_trans (Ke P.nn P.ge F.nn) (Dh λi hi=>?_)
 have:=Rat.mul_le_mul_of_nonneg_left (F.le i hi) (P.nn i hi)
 grind
theorem xU.JR (P:xU m n A B C x y)(Wd:Way m n A C d):False:=by
 have h1:=Ke P.nn P.ge Wd.nn
 have h2:sr n (λi=>y i*sr m λj=>A i j*d j)<=sr n λ_=>0:=Dh λi hi=>by
  have:=Rat.mul_le_mul_of_nonneg_left (Wd.le i hi) (P.nn i hi)
  grind
 rw [nG λ_ _=>rfl] at h2
 have:=Wd.pos
 grind
end
section
variable {m n:Nat}{T:Nat->Nat->Int}{W:Nat->Int}{D:Crn}{A:Nat->Nat->Rat}{B C S:Nat->Rat}{w:Rat}
structure Scl (m n:Nat)(T:Nat->Nat->Int)(W:Nat->Int)(A:Nat->Nat->Rat)(B C S:Nat->Rat)(w:Rat):Prop where
 s:∀i,i<n->0<S i
 w0:0<w
 a:∀i,i<n->∀j,j<m->(T i j:Rat)=A i j*S i
 b:∀i,i<n->(T i (m+n):Rat)=B i*S i
 c:∀j,j<m->(W j:Rat)=-(C j*w)
def hx (n:Nat)(D:Crn)(t:Nat->Int)(j:Nat):Rat:=sr n λr=>if D.h r=j then (t r:Rat) / (D.b:Rat) else 0
theorem bq (I:cz m n T D):(0:Rat)<(D.b:Rat):=by have:=I.pos;exact_mod_cast this
theorem ir {x y:Int}(h:x<=y):(x:Rat)<=(y:Rat):=Rat.intCast_le_intCast.mpr h
theorem BJ (I:cz m n T D)(f:Nat->Int)(t:Nat->Int):(D.b:Rat)*sr m (λj=>(f j:Rat)*hx n D t j)=sr n λr=>if D.h r<m then ((f (D.h r)*t r:Int):Rat) else 0:=by
 have hb:=bq I
 unfold hx
 rw [Kz (λj=>(f j:Rat)),← gn]
 refine bM λr _=>?_
 split
 ·have:(D.b:Rat)*((t r:Rat) / (D.b:Rat))=t r:=by grind
  grind
 ·grind
theorem Di (f:Nat->Int)(h:Nat->Nat)(n:Nat):((sm n f:Int):Rat)=sr n (λr=>if h r<m then (f r:Rat) else 0)+sr n λr=>if h r<m then 0 else (f r:Rat):=by
 rw [wU,← uN]
 exact bM λr _=>by split<;>grind
theorem Ha (F:Ig m n T)(I:cz m n T D){i r:Nat}(hi:i<n)(hr:r<n)(h:¬D.h r<m):0<=T i (D.h r):=by
 have:=I.hlt r hr
 have e:=F.one i hi (D.h r-m) (by omega)
 rw [show m+(D.h r-m)=D.h r by omega] at e
 rw [e]
 split<;>decide
theorem Wj (F:Ig m n T)(I:cz m n T D)(X:Scl m n T W A B C S w):Fit m n A B (hx n D λr=>D.c r (m+n)):=by
 have hb:=bq I
 refine ⟨λj _=>O4 λr hr=>?_,λi hi=>?_⟩
 ·split
  ·exact Eo (by have:=ir (I.nn r hr);exact_mod_cast this) hb
  ·exact Rat.le_refl
 ·refine nu (X.s i hi) (nu hb ?_)
  have e0:(D.b:Rat)*(S i*sr m λj=>A i j*hx n D (λr=>D.c r (m+n)) j)=(D.b:Rat)*sr m λj=>(T i j:Rat)*hx n D (λr=>D.c r (m+n)) j:=by
   rw [← gn]
   congr 1
   exact bM λj hj=>by rw [X.a i hi j hj];grind
  rw [e0,BJ I (λj=>T i j)]
  have e1:=I.eq i hi (m+n)
  have e2:=Di (m:=m) (λr=>D.c r (m+n)*T i (D.h r)) D.h n
  rw [e1] at e2
  have e3:0<=sr n λr=>if D.h r<m then (0:Rat) else ((D.c r (m+n)*T i (D.h r):Int):Rat):=O4 λr hr=>by
   split
   ·exact Rat.le_refl
   ·rename_i z
    have:=ir (Int.mul_nonneg (I.nn r hr) (Ha F I hi hr z))
    exact_mod_cast this
  have e4:sr n (λr=>if D.h r<m then ((T i (D.h r)*D.c r (m+n):Int):Rat) else 0)=sr n λr=>if D.h r<m then ((D.c r (m+n)*T i (D.h r):Int):Rat) else 0:=bM λr _=>by rw [Int.mul_comm]
  rw [e4]
  have e5:((D.b*T i (m+n):Int):Rat)=(D.b:Rat)*(S i*B i):=by
   have:=X.b i hi
   grind
  rw [e5] at e2
  grind
theorem ye (I:cz m n T D)(hW:∀j,m<=j->W j=0)(X:Scl m n T W A B C S w)(t:Nat->Int):(D.b:Rat)*(w*sr m λj=>C j*hx n D t j)=-((sm n λr=>t r*W (D.h r):Int):Rat):=by
 have e0:(D.b:Rat)*(w*sr m λj=>C j*hx n D t j)=-((D.b:Rat)*sr m λj=>(W j:Rat)*hx n D t j):=by
  rw [← gn,← Rat.neg_mul,← gn (-(D.b:Rat)),← gn]
  exact bM λj hj=>by rw [X.c j hj];grind
 rw [e0,BJ I W,wU]
 congr 1
 refine bM λr _=>?_
 split
 ·rw [Int.mul_comm]
 ·rename_i z
  rw [hW _ (by omega),Int.mul_zero];rfl
theorem UG (I:cz m n T D)(hW:∀j,m<=j->W j=0)(X:Scl m n T W A B C S w)(h:∀j,j<m+n->0<=wv n D W j):xU m n A B C (hx n D λr=>D.c r (m+n)) λi=>(wv n D W (m+i):Rat)*S i / ((D.b:Rat)*w):=by
 have hb:=bq I
 have hw:=X.w0
 have hbw:=Rat.mul_pos hb hw
 refine ⟨λi hi=>Eo (Rat.mul_nonneg (by have:=ir (h (m+i) (by omega));exact_mod_cast this) (Rat.le_of_lt (X.s i hi))) hbw,λj hj=>?_,?_⟩
 ·refine nu hbw ?_
  rw [← gn]
  have e1:=yR I hW j
  have e2:sr n (λi=>(D.b:Rat)*w*(A i j*((wv n D W (m+i):Rat)*S i / ((D.b:Rat)*w))))=((sm n λi=>wv n D W (m+i)*T i j:Int):Rat):=by
   rw [wU]
   refine bM λi hi=>?_
   have:=X.a i hi j hj
   grind
  rw [e2]
  have e3:=ir (h j (by omega))
  rw [e1,Rat.intCast_add,Rat.intCast_mul,X.c j hj,Rat.intCast_zero] at e3
  grind
 ·have e1:=ye I hW X λr=>D.c r (m+n)
  have e2:=Hl I hW
  rw [e2] at e1
  have e3:=yR I hW (m+n)
  rw [hW (m+n) (by omega),Int.mul_zero,Int.zero_add] at e3
  have e4:(D.b:Rat)*w*sr n (λi=>B i*((wv n D W (m+i):Rat)*S i / ((D.b:Rat)*w)))=((sm n λi=>wv n D W (m+i)*T i (m+n):Int):Rat):=by
   rw [← gn,wU]
   refine bM λi hi=>?_
   have:=X.b i hi
   grind
  rw [← e3] at e4
  rw [Rat.intCast_neg] at e1
  refine yE hbw ?_
  rw [e4]
  grind
def wx (n:Nat)(D:Crn)(q j:Nat):Rat:=if j=q then 1 else hx n D (λr=>-D.c r q) j
theorem Rj (I:cz m n T D){q:Nat}(hq:wv n D W q<0)(j:Nat):wx n D q j=(if j=q then 1 else 0)+hx n D (λr=>-D.c r q) j:=by
 unfold wx
 by_cases z:j=q
 ·rw [if_pos z,if_pos z]
  have:hx n D (λr=>-D.c r q) j=0:=nG λr hr=>by
   refine if_neg λe=>?_
   have:=xG I W hr
   rw [e,z] at this
   omega
  rw [this];grind
 ·rw [if_neg z,if_neg z];grind
theorem Gn {q:Nat}(f:Nat->Rat):sr m (λj=>f j*if j=q then 1 else 0)=if q<m then f q else 0:=by
 by_cases z:q<m
 ·rw [if_pos z,Em (p:=q) z λi _ h=>by rw [if_neg h];grind,if_pos rfl];grind
 ·rw [if_neg z]
  exact nG λi hi=>by rw [if_neg (by omega)];grind
theorem Yc (F:Ig m n T)(I:cz m n T D)(hW:∀j,m<=j->W j=0)(X:Scl m n T W A B C S w){q:Nat}(hq:q<m+n)(hw:wv n D W q<0)(hc:∀r,r<n->D.c r q<=0):Way m n A C (wx n D q):=by
 have hb:=bq I
 refine ⟨λj _=>?_,λi hi=>?_,?_⟩
 ·unfold wx
  split
  ·decide
  ·refine O4 λr hr=>?_
   split
   ·exact Eo (by have:=ir (show 0<=-D.c r q by have:=hc r hr;omega);exact_mod_cast this) hb
   ·exact Rat.le_refl
 ·refine nu (X.s i hi) (nu hb ?_)
  have e0:(D.b:Rat)*(S i*sr m λj=>A i j*wx n D q j)=(D.b:Rat)*(if q<m then (T i q:Rat) else 0)+(D.b:Rat)*sr m λj=>(T i j:Rat)*hx n D (λr=>-D.c r q) j:=by
   rw [← Gn (λj=>(T i j:Rat)),← gn,← gn,← gn,← gn,← uN]
   exact bM λj hj=>by rw [X.a i hi j hj,Rj I hw];grind
  rw [e0,BJ I (λj=>T i j)]
  have e1:=I.eq i hi q
  have e2:=Di (m:=m) (λr=>D.c r q*T i (D.h r)) D.h n
  rw [e1] at e2
  have e3:sr n (λr=>if D.h r<m then (0:Rat) else ((D.c r q*T i (D.h r):Int):Rat))<=sr n λ_=>0:=Dh λr hr=>by
   split
   ·exact Rat.le_refl
   ·rename_i z
    have h1:=Int.mul_nonneg (show 0<=-D.c r q by have:=hc r hr;omega) (Ha F I hi hr z)
    rw [Int.neg_mul] at h1
    have:=ir (show D.c r q*T i (D.h r)<=0 by omega)
    exact_mod_cast this
  rw [nG λ_ _=>rfl] at e3
  have e4:sr n (λr=>if D.h r<m then ((T i (D.h r) * -D.c r q:Int):Rat) else 0)=-sr n λr=>if D.h r<m then ((D.c r q*T i (D.h r):Int):Rat) else 0:=by
   rw [← W7]
   refine bM λr _=>?_
   split
   ·rw [show T i (D.h r) * -D.c r q=-(D.c r q*T i (D.h r)) by grind,Rat.intCast_neg]
   ·grind
  rw [e4]
  rw [Rat.intCast_mul] at e2
  by_cases z:q<m
  ·rw [if_pos z]
   grind
  ·rw [if_neg z]
   have h1:=F.one i hi (q-m) (by omega)
   rw [show m+(q-m)=q by omega] at h1
   have h2:(0:Rat)<=(D.b:Rat)*(T i q:Rat):=Rat.mul_nonneg (Rat.le_of_lt hb) (by
    have:=ir (show 0<=T i q by rw [h1];split<;>decide)
    exact_mod_cast this)
   grind
 ·have e1:=ye I hW X λr=>-D.c r q
  have e2:(D.b:Rat)*(w*sr m λj=>C j*wx n D q j)=(D.b:Rat)*(w*if q<m then C q else 0)+(D.b:Rat)*(w*sr m λj=>C j*hx n D (λr=>-D.c r q) j):=by
   rw [← Gn C,← Rat.mul_add,← Rat.mul_add,← uN]
   congr 2
   exact bM λj _=>by rw [Rj I hw];grind
  have e3:sm n (λr=>-D.c r q*W (D.h r))=-sm n λr=>D.c r q*W (D.h r):=by
   rw [← Int.neg_one_mul,← iK]
   exact dH λr _=>by grind
  rw [e3,Rat.intCast_neg] at e1
  have e4:(D.b:Rat)*(w*if q<m then C q else 0)=-((D.b*W q:Int):Rat):=by
   by_cases z:q<m
   ·rw [if_pos z,Rat.intCast_mul,X.c q z];grind
   ·rw [if_neg z,hW q (by omega),Int.mul_zero];grind
  rw [e1,e4] at e2
  have e5:((wv n D W q:Int):Rat)<0:=by exact_mod_cast hw
  unfold wv at e5
  rw [Rat.intCast_sub] at e5
  have hbw:=Rat.mul_pos hb X.w0
  refine Rat.not_le.mp λz=>?_
  have:=Rat.mul_nonneg (Rat.le_of_lt hbw) (show 0<=-(sr m λj=>C j*wx n D q j) by grind)
  grind
end
structure Perm (m:Nat)(p i:Nat->Nat):Prop where
 lt:∀t,t<m->p t<m
 ilt:∀j,j<m->i j<m
 pi:∀j,j<m->p (i j)=j
 ip:∀t,t<m->i (p t)=t
theorem MJ {m:Nat}{p i:Nat->Nat}(P:Perm m p i)(f:Nat->Rat):sr m (λt=>f (p t))=sr m f:=by
 have e:=Kz (h:=p) (m:=m) f (λ_=>1) m
 have e1:sr m (λj=>f j*sr m λr=>if p r=j then (1:Rat) else 0)=sr m f:=bM λj hj=>by
  rw [Em (p:=i j) (P.ilt j hj) λr hr z=>if_neg λw=>z (by rw [← w,P.ip r hr]),if_pos (P.pi j hj)]
  grind
 rw [e1] at e
 rw [e]
 exact bM λt ht=>by rw [if_pos (P.lt t ht)];grind
structure Abt (m n k:Nat)(A A':Nat->Nat->Rat)(B B' C C':Nat->Rat)(p i J R:Nat->Nat)(b:Nat->Rat)(g:Rat):Prop where
 P:Perm m p i
 hJ:∀r,r<k->J r<n
 hR:∀s,s<n->R s<k/\J (R s)=s
 hb:∀s,s<n->0<b s
 hg:0<g
 a:∀r,r<k->∀t,t<m->A' r t=b (J r)*A (J r) (p t)
 bd:∀r,r<k->B' r=b (J r)*B (J r)
 c:∀t,t<m->C' t=g*C (p t)
section
variable {m n k:Nat}{A A':Nat->Nat->Rat}{B B' C C':Nat->Rat}{p i J R:Nat->Nat}{b:Nat->Rat}{g:Rat}
variable (T:Abt m n k A A' B B' C C' p i J R b g)
include T
theorem Abt.w1 (x:Nat->Rat):sr m (λt=>C' t*x (p t))=g*sr m λj=>C j*x j:=by
 rw [← MJ T.P (λj=>C j*x j),← gn]
 exact bM λt ht=>by rw [T.c t ht];grind
theorem Abt.w2 (z:Nat->Rat):g*sr m (λj=>C j*z (i j))=sr m λt=>C' t*z t:=by
 rw [← MJ T.P (λj=>C j*z (i j)),← gn]
 exact bM λt ht=>by rw [T.c t ht,T.P.ip t ht];grind
end
section
variable {m n:Nat}{T:Nat->Nat->Int}{D:Crn}{W W0 W1:Nat->Int}{A:Nat->Nat->Rat}{B C C0 C1 S:Nat->Rat}{w w0 w1 L:Rat}
def yp (m n:Nat)(D:Crn)(W:Nat->Int)(S:Nat->Rat)(w:Rat)(i:Nat):Rat:=(wv n D W (m+i):Rat)*S i / ((D.b:Rat)*w)
theorem V9 (I:cz m n T D)(hW:∀j,m<=j->W j=0)(X:Scl m n T W A B C S w){j:Nat}(hj:j<m):(D.b:Rat)*w*(sr n (λi=>A i j*yp m n D W S w i)-C j)=(wv n D W j:Rat):=by
 have hbw:=Rat.mul_pos (bq I) X.w0
 have e2:(D.b:Rat)*w*sr n (λi=>A i j*yp m n D W S w i)=((sm n λi=>wv n D W (m+i)*T i j:Int):Rat):=by
  rw [← gn,wU]
  refine bM λi hi=>?_
  have:=X.a i hi j hj
  unfold yp
  grind
 have e3:(wv n D W j:Rat)=(D.b:Rat) * -(C j*w)+((sm n λi=>wv n D W (m+i)*T i j:Int):Rat):=by
  rw [yR I hW j,Rat.intCast_add,Rat.intCast_mul,X.c j hj]
 rw [e3,← e2]
 grind
theorem Lw (I:cz m n T D)(hW:∀j,m<=j->W j=0)(X:Scl m n T W A B C S w):sr m (λj=>C j*hx n D (λr=>D.c r (m+n)) j)=sr n λi=>B i*yp m n D W S w i:=by
 have hbw:=Rat.mul_pos (bq I) X.w0
 have e1:=ye I hW X λr=>D.c r (m+n)
 have e2:=Hl I hW
 rw [e2] at e1
 have e3:=yR I hW (m+n)
 rw [hW (m+n) (by omega),Int.mul_zero,Int.zero_add] at e3
 have e4:(D.b:Rat)*w*sr n (λi=>B i*yp m n D W S w i)=((sm n λi=>wv n D W (m+i)*T i (m+n):Int):Rat):=by
  rw [← gn,wU]
  refine bM λi hi=>?_
  have:=X.b i hi
  unfold yp
  grind
 rw [← e3] at e4
 rw [Rat.intCast_neg] at e1
 refine yE hbw ?_
 rw [e4]
 grind
structure Nxt (m n:Nat)(A:Nat->Nat->Rat)(B C0 C1 x y:Nat->Rat)(L:Rat):Prop where
 nn:∀i,i<n->0<=y i
 l0:0<=L
 ge:∀j,j<m->C1 j<=sr n (λi=>A i j*y i)-L*C0 j
 eq:sr n (λi=>B i*y i)-L*sr m (λj=>C0 j*x j)=sr m λj=>C1 j*x j
theorem Yu (I:cz m n T D)(h0:∀j,m<=j->W0 j=0)(h1:∀j,m<=j->W1 j=0)(X0:Scl m n T W0 A B C0 S w0)(X1:Scl m n T W1 A B C1 S w1)(l0:0<=L)(hL:∀j,j<m+n->0<=(wv n D W1 j:Rat)*w0+L*((wv n D W0 j:Rat)*w1)):
  Nxt m n A B C0 C1 (hx n D λr=>D.c r (m+n)) (λi=>yp m n D W1 S w1 i+L*yp m n D W0 S w0 i) L:=by
 have hb:=bq I
 have p0:=X0.w0
 have p1:=X1.w0
 refine ⟨λi hi=>?_,l0,λj hj=>?_,?_⟩
 ·have e:=hL (m+i) (by omega)
  have hs:=X0.s i hi
  have q:yp m n D W1 S w1 i+L*yp m n D W0 S w0 i=((wv n D W1 (m+i):Rat)*w0+L*((wv n D W0 (m+i):Rat)*w1))*S i / ((D.b:Rat)*w0*w1):=by
   unfold yp
   grind
  rw [q]
  exact Eo (Rat.mul_nonneg e (Rat.le_of_lt hs)) (Rat.mul_pos (Rat.mul_pos hb p0) p1)
 ·have e:=hL j (by omega)
  have r0:=V9 I h0 X0 hj
  have r1:=V9 I h1 X1 hj
  have es:sr n (λi=>A i j*(yp m n D W1 S w1 i+L*yp m n D W0 S w0 i))=sr n (λi=>A i j*yp m n D W1 S w1 i)+L*sr n λi=>A i j*yp m n D W0 S w0 i:=by
   rw [← gn,← uN]
   exact bM λi _=>by grind
  rw [es]
  refine nu (Rat.mul_pos (Rat.mul_pos hb p0) p1) ?_
  rw [← r0,← r1] at e
  grind
 ·have q0:=Lw I h0 X0
  have q1:=Lw I h1 X1
  have es:sr n (λi=>B i*(yp m n D W1 S w1 i+L*yp m n D W0 S w0 i))=sr n (λi=>B i*yp m n D W1 S w1 i)+L*sr n λi=>B i*yp m n D W0 S w0 i:=by
   rw [← gn,← uN]
   exact bM λi _=>by grind
  rw [es,q0,q1]
  grind
def Bs (n:Nat)(W:Nat->Int)(D1 D:Crn):Prop:=∀j,wv n D W j*D1.b=wv n D1 W j*D.b
theorem Bs.turn {D1:Crn}{p q:Nat}(R:Bs n W D1 D)(I:cz m n T D)(hp:p<n)(hq:wv n D W q=0):Bs n W D1 (turn D p q):=by
 intro j
 have e:=zM (q:=q) (j:=j) I W hp
 rw [hq,Int.zero_mul,Int.sub_zero] at e
 have hb:=I.pos
 have r:=R j
 show wv n (Sx.turn D p q) W j*D1.b=wv n D1 W j*D.c p q
 refine Int.eq_of_mul_eq_mul_left (a:=D.b) (by omega) ?_
 have f1:D.b*(wv n (Sx.turn D p q) W j*D1.b)=D.b*wv n (Sx.turn D p q) W j*D1.b:=by grind
 rw [f1,e]
 grind
theorem Bs.yp {D1:Crn}(R:Bs n W D1 D)(h1:0<D1.b)(h2:0<D.b)(i:Nat):yp m n D W S w i=yp m n D1 W S w i:=by
 have r:=R (m+i)
 have r':(wv n D W (m+i):Rat)*(D1.b:Rat)=(wv n D1 W (m+i):Rat)*(D.b:Rat):=by exact_mod_cast r
 have b1:(0:Rat)<(D1.b:Rat):=by exact_mod_cast h1
 have b2:(0:Rat)<(D.b:Rat):=by exact_mod_cast h2
 unfold Sx.yp
 by_cases z:w=0
 ·subst z;grind
 ·grind
theorem Rx (I:cz m n T D)(h0:∀j,m<=j->W0 j=0)(X0:Scl m n T W0 A B C0 S w0){q:Nat}(h1:wv n D W1 q<0)(hz:wv n D W0 q=0):sr m (λj=>C0 j*wx n D q j)=0:=by
 have hb:=bq I
 have e1:=ye I h0 X0 λr=>-D.c r q
 have e2:(D.b:Rat)*(w0*sr m λj=>C0 j*wx n D q j)=(D.b:Rat)*(w0*if q<m then C0 q else 0)+(D.b:Rat)*(w0*sr m λj=>C0 j*hx n D (λr=>-D.c r q) j):=by
  rw [← Gn C0,← Rat.mul_add,← Rat.mul_add,← uN]
  congr 2
  exact bM λj _=>by rw [Rj I h1];grind
 have e3:sm n (λr=>-D.c r q*W0 (D.h r))=-sm n λr=>D.c r q*W0 (D.h r):=by
  rw [← Int.neg_one_mul,← iK]
  exact dH λr _=>by grind
 rw [e3,Rat.intCast_neg] at e1
 have e4:(D.b:Rat)*(w0*if q<m then C0 q else 0)=-((D.b*W0 q:Int):Rat):=by
  by_cases z:q<m
  ·rw [if_pos z,Rat.intCast_mul,X0.c q z];grind
  ·rw [if_neg z,h0 q (by omega),Int.mul_zero];grind
 rw [e1,e4] at e2
 have e5:((wv n D W0 q:Int):Rat)=0:=by rw [hz];rfl
 unfold wv at e5
 rw [Rat.intCast_sub] at e5
 have hbw:=Rat.mul_pos hb X0.w0
 refine yE hbw ?_
 grind
end
section
variable {m n:Nat}{T:Nat->Nat->Int}{D:Crn}{W0 W1:Nat->Int}{X Y:Nat}
theorem Uk (S:Szs m n T X)(I:cz m n T D){p q r j:Nat}(hq:q<=m+n)(hj:j<=m+n):(nxc T D.h n p q r j).natAbs<=fct n*X ^ n:=by
 unfold nxc
 refine zO λk hk i hi=>?_
 by_cases z:k=r
 ·subst z
  rw [dW]
  exact S.t i hi j hj
 ·rw [bj z]
  by_cases y:k=p
  ·subst y
   rw [dW]
   exact S.t i hi q hq
  ·rw [bj y]
   exact S.t i hi _ (by have:=I.hlt k hk;omega)
theorem Ma (f g:Nat->Int)(n:Nat):sm n f*sm n g=sm n λr=>sm n λs=>f r*g s:=by
 have e:sm n (λr=>sm n λs=>f r*g s)=sm n λr=>f r*sm n g:=dH λr _=>iK (f r) g n
 rw [e]
 have e2:sm n (λr=>f r*sm n g)=sm n λr=>sm n g*f r:=dH λr _=>Int.mul_comm _ _
 rw [e2,iK,Int.mul_comm]
def two (n:Nat)(T:Nat->Nat->Int)(D:Crn)(W0 W1:Nat->Int)(j q:Nat):Int:=
 D.b*(W1 j*W0 q)-D.b*(W1 q*W0 j)-W1 j*sm n (λr=>D.c r q*W0 (D.h r))-W0 q*sm n (λr=>D.c r j*W1 (D.h r))+W1 q*sm n (λr=>D.c r j*W0 (D.h r))+W0 j*sm n (λr=>D.c r q*W1 (D.h r))+sm n λr=>sm n λs=>(if r=s then 0 else nxc T D.h n s q r j)*(W1 (D.h r)*W0 (D.h s))
theorem WR (I:cz m n T D){j q:Nat}:D.b*two n T D W0 W1 j q=wv n D W1 j*wv n D W0 q-wv n D W1 q*wv n D W0 j:=by
 have e:D.b*sm n (λr=>sm n λs=>(if r=s then 0 else nxc T D.h n s q r j)*(W1 (D.h r)*W0 (D.h s)))=sm n (λr=>D.c r j*W1 (D.h r))*sm n (λr=>D.c r q*W0 (D.h r))-sm n (λr=>D.c r q*W1 (D.h r))*sm n (λr=>D.c r j*W0 (D.h r)):=by
  rw [Ma,Ma,← iK]
  have e2:∀f g:Nat->Int,sm n f-sm n g=sm n λr=>f r-g r:=λf g=>by
   have:=yu 1 (-1) f g n
   rw [show (λi=>1*f i + -1*g i)=λr=>f r-g r from funext λi=>by omega] at this
   rw [this];omega
  rw [e2]
  refine dH λr hr=>?_
  rw [← iK,e2]
  refine dH λs hs=>?_
  by_cases z:r=s
  ·subst z
   rw [if_pos rfl]
   grind
  ·rw [if_neg z]
   have:=I.nx (p:=s) (q:=q) (r:=r) (j:=j) hs hr z
   have f1:D.b*(nxc T D.h n s q r j*(W1 (D.h r)*W0 (D.h s)))=D.b*nxc T D.h n s q r j*(W1 (D.h r)*W0 (D.h s)):=by grind
   rw [f1,this]
   grind
 unfold two wv
 generalize sm n (λr=>sm n λs=>(if r=s then 0 else nxc T D.h n s q r j)*(W1 (D.h r)*W0 (D.h s)))=N at *
 generalize sm n (λr=>D.c r j*W1 (D.h r))=a at *
 generalize sm n (λr=>D.c r q*W0 (D.h r))=b at *
 generalize sm n (λr=>D.c r q*W1 (D.h r))=c at *
 generalize sm n (λr=>D.c r j*W0 (D.h r))=d at *
 grind
theorem lO {a b:Int}{A B:Nat}(ha:a.natAbs<=A)(hb:b.natAbs<=B):(a*b).natAbs<=A*B:=by
 rw [Int.natAbs_mul]
 exact Nat.mul_le_mul ha hb
theorem Vs (S:Szs m n T X)(I:cz m n T D)(h0:∀j,j<=m+n->(W0 j).natAbs<=Y)(h1:∀j,j<=m+n->(W1 j).natAbs<=Y){j q:Nat}(hj:j<=m+n)(hq:q<=m+n):(two n T D W0 W1 j q).natAbs<=(2+4*n+n*n)*(fct n*X ^ n*(Y*Y)):=by
 have hb:=I.ble S
 have hh:∀r,r<n->D.h r<=m+n:=λr hr=>by have:=I.hlt r hr;omega
 have g:∀(W:Nat->Int) (k:Nat),(∀j,j<=m+n->(W j).natAbs<=Y)->k<=m+n->(sm n λr=>D.c r k*W (D.h r)).natAbs<=n*(fct n*X ^ n*Y):=λW k hW hk=>yI λr hr=>lO (I.cle S hr hk) (hW _ (hh r hr))
 have p1:=lO hb (lO (h1 j hj) (h0 q hq))
 have p2:=lO hb (lO (h1 q hq) (h0 j hj))
 have p3:=lO (h1 j hj) (g W0 q h0 hq)
 have p4:=lO (h0 q hq) (g W1 j h1 hj)
 have p5:=lO (h1 q hq) (g W0 j h0 hj)
 have p6:=lO (h0 j hj) (g W1 q h1 hq)
 have p7:(sm n λr=>sm n λs=>(if r=s then 0 else nxc T D.h n s q r j)*(W1 (D.h r)*W0 (D.h s))).natAbs<=n*(n*(fct n*X ^ n*(Y*Y))):=yI λr hr=>yI λs hs=>lO (by
  split
  ·exact Nat.zero_le _
  ·exact Uk S I hq hj) (lO (h1 _ (hh r hr)) (h0 _ (hh s hs)))
 have e:Y*(n*(fct n*X ^ n*Y))=n*(fct n*X ^ n*(Y*Y)):=by ac_rfl
 have e2:n*(n*(fct n*X ^ n*(Y*Y)))=n*n*(fct n*X ^ n*(Y*Y)):=by ac_rfl
 rw [e] at p3 p4 p5 p6
 rw [e2] at p7
 have e3:(2+4*n+n*n)*(fct n*X ^ n*(Y*Y))=2*(fct n*X ^ n*(Y*Y))+4*(n*(fct n*X ^ n*(Y*Y)))+n*n*(fct n*X ^ n*(Y*Y)):=by
  rw [Nat.add_mul,Nat.add_mul,Nat.mul_assoc 4]
 rw [e3]
 unfold two
 generalize fct n*X ^ n*(Y*Y)=Z at *
 generalize n*n*Z=Z2 at *
 generalize n*Z=Z1 at *
 omega
end
end Sx
namespace K37
open PySem L2 Hd F
open Sx (Crn cz wv sr sm hx wx)
def vq (q:Q2):Rat:=(q.1:Rat) / (q.2:Rat)
theorem ip {x:Int}(h:0<x):(0:Rat)<(x:Rat):=by exact_mod_cast h
theorem Af {x y:Q2}(hx:0<x.2)(hy:0<y.2):vq x<=vq y↔x.1*y.2<=y.1*x.2:=by
 have h1:=ip hx
 have h2:=ip hy
 have k:=Rat.mul_pos h1 h2
 have e1:(x.2:Rat)*(y.2:Rat)*vq x=((x.1*y.2:Int):Rat):=by unfold vq;grind
 have e2:(x.2:Rat)*(y.2:Rat)*vq y=((y.1*x.2:Int):Rat):=by unfold vq;grind
 constructor
 ·intro h
  have:=Rat.mul_le_mul_of_nonneg_left h (Rat.le_of_lt k)
  rw [e1,e2] at this
  exact Rat.intCast_le_intCast.mp this
 ·intro h
  refine Sx.nu k ?_
  rw [e1,e2]
  exact Rat.intCast_le_intCast.mpr h
theorem VJ {x y:Q2}(hx:0<x.2)(hy:0<y.2):vq x=vq y↔x.1*y.2=y.1*x.2:=by
 have h1:=Af hx hy
 have h2:=Af hy hx
 constructor
 ·intro h
  have a:=h1.mp (by rw [h];exact Rat.le_refl)
  have b:=h2.mp (by rw [h];exact Rat.le_refl)
  omega
 ·intro h
  have a:=h1.mpr (by omega)
  have b:=h2.mpr (by omega)
  grind
theorem nP {t u:Int}(hb:0<u):0<(low t u).2:=by have:=JB (t:=t) (b:=u) (by omega);show 0<lb t u;omega
theorem wN {t u:Int}(hb:0<u):vq (low t u)=(t:Rat) / (u:Rat):=by
 have c:(low t u).1*u=t*(low t u).2:=Dy (by omega)
 have h1:=ip hb
 have h2:=ip (nP (t:=t) hb)
 have c':((low t u).1:Rat)*(u:Rat)=(t:Rat)*((low t u).2:Rat):=by exact_mod_cast c
 unfold vq
 grind
theorem vq0:vq (0,1)=0:=by unfold vq;grind
theorem vq1:vq (1,1)=1:=by unfold vq;grind
def dt (u v:Nat->Q2):Nat->Q2
 |0=>(0,1)
 |i+1=>((dt u v i).1*(u i).2*(v i).2+(u i).1*(v i).1*(dt u v i).2,(dt u v i).2*(u i).2*(v i).2)
theorem Pq {u v:Nat->Q2}(hu:∀i,0<(u i).2)(hv:∀i,0<(v i).2):∀k,0<(dt u v k).2/\vq (dt u v k)=sr k λi=>vq (u i)*vq (v i)
 |0=>⟨by show (0:Int)<1;decide,vq0⟩
 |k+1=>by
  obtain ⟨h1,h2⟩:=Pq hu hv k
  refine ⟨Int.mul_pos (Int.mul_pos h1 (hu k)) (hv k),?_⟩
  show _=sr k (λi=>vq (u i)*vq (v i))+vq (u k)*vq (v k)
  rw [← h2]
  have a1:=ip h1
  have a2:=ip (hu k)
  have a3:=ip (hv k)
  unfold vq
  show ((((dt u v k).1*(u k).2*(v k).2+(u k).1*(v k).1*(dt u v k).2:Int)):Rat) / (((dt u v k).2*(u k).2*(v k).2:Int):Rat)=_
  grind
def BQ (k:Nat)(q:Q2):Prop:=q.1.natAbs<2 ^ k/\q.2.natAbs<2 ^ k
theorem Qf {u v:Nat->Q2}(hu:∀i,BQ 30 (u i))(hv:∀i,BQ 1900 (v i)):∀i,BQ (1+1931*i) (dt u v i)
 |0=>⟨show (0:Int).natAbs<2 ^ 1 by decide,show (1:Int).natAbs<2 ^ 1 by decide⟩
 |i+1=>by
  obtain ⟨h1,h2⟩:=Qf hu hv i
  obtain ⟨u1,u2⟩:=hu i
  obtain ⟨v1,v2⟩:=hv i
  have e1:=cV (cV h1 u2) v2
  have e2:=cV (cV u1 v1) h2
  have e3:=cV (cV h2 u2) v2
  rw [show 1+1931*i+30+1900=30+1900+(1+1931*i) by omega] at e1 e3
  have e4:=W3 e1 e2
  exact ⟨dh e4 (by omega),dh e3 (by omega)⟩
theorem Qs {s t:D}{d x y:Q2}(h1:Bg d.1)(h2:Bg d.2)(hx:BQ 30 x)(hy:BQ 1900 y)(h3:Bg (d.1*x.2))(h4:Bg (d.2*x.2)):pC [.fz s,.fz t,.fz (.int d.1),.fz (.int d.2),.fz (qD x),.fz (qD y)]=.ok (.nx,[.fz s,.fz t,.fz (.int (d.1*x.2*y.2+x.1*y.1*d.2)),.fz (.int (d.2*x.2*y.2)),.fz (qD x),.fz (qD y)]):=by
 have k1:Bg (x.1*y.1):=dD (cV hx.1 hy.1) (by decide)
 have k2:Bg x.1:=dD hx.1
 have k3:Bg x.2:=dD hx.2
 have k4:Bg y.1:=dD hy.1
 have k5:Bg y.2:=dD hy.2
 simp [pC,aU,bf,aA,aj,qD,fC,gIx,ix0,ix1,eV,eX,h1,h2,h3,h4,k1,k2,k3,k4,k5]
theorem Xx {n:Nat}{u v:Nat->Q2}(hn:n<=8)(hu:∀i,BQ 30 (u i))(hv:∀i,BQ 1900 (v i)):aW [au n u,au n v]=.ok (false,qD (dt u v n)):=by
 obtain ⟨m',e,x,y,em⟩:=lV (n:=n) (f:=λi=>.tup [qD (u i),qD (v i)]) (h:=nZ 2 (cL (hName 4) (cL (hName 5) nW))) (k:=pC) (m:=[.fz (au n u),.fz (au n v),.fz (.int 0),.fz (.int 1),.un,.un]) (λi m=>∃x y,m=[.fz (au n u),.fz (au n v),.fz (.int (dt u v i).1),.fz (.int (dt u v i).2),x,y]) ⟨_,_,rfl⟩ λi m hi ⟨x,y,em⟩=>by
  subst em
  obtain ⟨h1,h2⟩:=Qf hu hv i
  exact ⟨_,_,rfl,Qs (dD h1 (by omega)) (dD h2 (by omega)) (hu i) (hv i) (dD (cV h1 (hu i).2) (by omega)) (dD (cV h2 (hu i).2) (by omega)),_,_,rfl⟩
 subst em
 have eL:sZ [.fz (au n u),.fz (au n v),.fz (.int 0),.fz (.int 1),.un,.un]=.ok (.nx,[.fz (au n u),.fz (au n v),.fz (.int (dt u v n).1),.fz (.int (dt u v n).2),x,y]):=by
  unfold sZ lZ
  rw [show qC (aa (aD 0) (aa (aD 1) az)) [.fz (au n u),.fz (au n v),.fz (.int 0),.fz (.int 1),.un,.un]=.ok (rg n λi=>.tup [qD (u i),qD (v i)]) by
   simp [qC,aa,az,aD,au,wQ]]
  exact e
 have eg:sY [.fz (au n u),.fz (au n v),.un,.un,.un,.un]=.ok (.rt false (qD (dt u v n)),Me.let [.fz (au n u),.fz (au n v),.fz (.int (dt u v n).1),.fz (.int (dt u v n).2),x,y]):=by
  unfold sY wu
  rw [aZ (m':=[.fz (au n u),.fz (au n v),.fz (.int 0),.un,.un,.un]) rfl,aZ (m':=[.fz (au n u),.fz (au n v),.fz (.int 0),.fz (.int 1),.un,.un]) rfl,aZ eL]
  rfl
 exact dX rfl eg
open Sx (Crn cz wv turn sm det sr hx wx)
section
variable {m n K:Nat}{a w:Nat->Nat->Q2}{b u v:Nat->Q2}
theorem refuse_eq (hm:m<=8)(hn:n<=8):bU [aK m n a,au m u]=.ok (false,.non):=by
 have h:¬8<(m:Int):=by omega
 have h':¬8<(n:Int):=by omega
 simp [bU,c7,iQ,iH,aU,gIf,aQ,bJ,fH,aa,az,aj,au,aK,bD,fC,gGt,gLt,h,h',gNx]
def oS (m n K:Nat)(a:Nat->Nat->Q2)(b:Nat->Q2)(w:Nat->Nat->Q2)(D:Crn)(h:F.D):F.D:=oD m n K (sS m a b) (λl=>wS0 m (w l)) (λl=>wL m (w l)) D h
theorem KY (I:In m n a b w){y:Addr}:F.D.ins "Corner" fN (d6 m n K a b w++[.adr y])=oS m n K a b w (D0 m (tL m n a b)) (.adr y):=by
 show obj m n K (sS m a b) (λl=>wS0 m (w l)) (tL m n a b) (λl=>wL m (w l)) 1 (.adr y)=_
 refine Lh (λr hr j hj=>(lB (D:=D0 m (tL m n a b)) hr hj).symm) λl j hj=>?_
 rw [cw_is hj]
 show wL m (w l) j=1*wL m (w l) j-sm n λr=>tL m n a b r j*wL m (w l) (m+r)
 rw [Sx.G7 λr _=>by rw [show wL m (w l) (m+r)=0 from if_neg (by omega),Int.mul_zero]]
 omega
theorem Hs {y:Addr}:iT n6 (d6 m n K a b w) "held_columns" (.adr y)=(fN,(d6 m n K a b w)++[.adr y]):=by simp [iT,n6,d6,fN]
variable {D:Crn}
theorem UJ (In':In m n a b w):Sx.fct n*(2 ^ 121) ^ n<=40320*2 ^ 968:=by
 have h8:=In'.n8
 have p1:(2 ^ 121:Nat) ^ n<=2 ^ 968:=by
  rw [← Nat.pow_mul]
  exact Nat.pow_le_pow_right (by decide) (by omega)
 exact Nat.mul_le_mul (Qd n h8) p1
theorem G8 (In':In m n a b w)(I:cz m n (tL m n a b) D):D.b.natAbs<2 ^ 985:=
 Nat.lt_of_le_of_lt (Nat.le_trans (I.ble (o9 In').sz) (UJ In')) (by decide)
theorem Hy (In':In m n a b w)(I:cz m n (tL m n a b) D)(l j:Nat):(cw m n (λl=>wL m (w l)) D l j).natAbs<2 ^ 1110:=by
 have P:=o9 In'
 unfold cw
 split
 ·rename_i z
  refine Nat.lt_of_le_of_lt (I.wle P.sz (P.wz l) (by omega)) ?_
  have h8:=In'.n8
  have e1:Sx.fct n*(2 ^ 121) ^ n*2 ^ 121<=40320*2 ^ 968*2 ^ 121:=Nat.mul_le_mul_right _ (UJ In')
  have e2:(n+1)*(Sx.fct n*(2 ^ 121) ^ n*2 ^ 121)<=9*(40320*2 ^ 968*2 ^ 121):=Nat.mul_le_mul (by omega) e1
  exact Nat.lt_of_le_of_lt e2 (by decide)
 ·exact Nat.pow_pos (by decide)
variable {x:Me}{i j:Nat}{t:Bool}{y:Addr}
def wD (m n:Nat)(D:Crn):Nat->Q2:=amR D.h (λr=>cc m n D r (m+n)) D.b n
def zj (m n:Nat)(D:Crn)(q:Nat):Nat->Q2:=BV D.h (λr=>-(cc m n D r q)) D.b n q
def gZ (m n:Nat)(a:Nat->Nat->Q2)(b:Nat->Q2)(w:Nat->Nat->Q2)(D:Crn)(l i:Nat):Q2:=low (cw m n (λl=>wL m (w l)) D l (m+i)*sS m a b i) (D.b*wS0 m (w l))
theorem Bl (I:In m n a b w)(o:cz m n (tL m n a b) D)(hi:x[i]? = some (.ow (oS m n K a b w D (.adr y))))(hj:x[j]? = some (.hd t y (hD n D.h))):gJ "Corner" "fit" cu (cB i j) az x=.ok (au m (wD m n D)):=by
 have e:=XH (K:=K) (s:=sS m a b) (ws:=λl=>wS0 m (w l)) (c:=cc m n D) (wl:=cw m n (λl=>wL m (w l)) D) (h:=D.h) I.m8 I.n8 o.pos (XS (o9 I) o)
 exact SQ (pN (.inr hi) hj) (sG (by decide)) rfl e jb
theorem JK (I:In m n a b w)(o:cz m n (tL m n a b) D){q:Nat}(hq:q<m+n){fs:Me->Res (List F.D)}(hf:fs x=.ok [.int q])(hi:x[i]? = some (.ow (oS m n K a b w D (.adr y))))(hj:x[j]? = some (.hd t y (hD n D.h))):gJ "Corner" "way_along" bL (cB i j) fs x=.ok (au m (zj m n D q)):=by
 have e:=Xw (K:=K) (s:=sS m a b) (ws:=λl=>wS0 m (w l)) (c:=cc m n D) (wl:=cw m n (λl=>wL m (w l)) D) (h:=D.h) (j:=q) I.m8 I.n8 hq o.pos (XS (o9 I) o)
 exact SQ (pN (.inr hi) hj) (sG (by decide)) (ds:=[.int q]) hf e jb
theorem V0 (I:In m n a b w)(o:cz m n (tL m n a b) D){l:Nat}(hl:l<K):bz [oS m n K a b w D (hD n D.h),.int l]=.ok (true,au n (gZ m n a b w D l)):=by
 obtain ⟨w1,w2,_⟩:=my I l
 have P:=o9 I
 exact Nj (s:=sS m a b) (ws:=λl=>wS0 m (w l)) (bt:=D.b) (c:=cc m n D) (wl:=cw m n (λl=>wL m (w l)) D) (H:=hD n D.h) I.m8 I.n8 hl (Int.mul_pos o.pos w1) (pU (cV (Yp P o) w2) (by decide)) (dD (Yp P o)) (dD w2) (λi=>dD (zy I i).2.1) (cw_bg P o l)
theorem KQ (I:In m n a b w)(o:cz m n (tL m n a b) D){l:Nat}(hl:l<K){fs:Me->Res (List F.D)}(hf:fs x=.ok [.int l])(hi:x[i]? = some (.ow (oS m n K a b w D (.adr y))))(hj:x[j]? = some (.hd t y (hD n D.h))):gJ "Corner" "prices" bz (cB i j) fs x=.ok (au n (gZ m n a b w D l)):=
 SQ (pN (.inr hi) hj) (sG (by decide)) hf (V0 I o hl) jb
theorem Xm (I:In m n a b w)(o:cz m n (tL m n a b) D){l:Nat}(hl:l<K){fs:Me->Res (List F.D)}(hf:fs x=.ok [.int l])(hi:x[i]? = some (.ow (oS m n K a b w D (.adr y))))(hj:x[j]? = some (.hd t y (hD n D.h))):fMt "Corner" "prices" bz (cB i j) fs x=.ok (au n (gZ m n a b w D l)):=
 mt1 (pN (.inr hi) hj) (sG (by decide)) hf (V0 I o hl) Zf
end
theorem Dn {f:Me->Res D}{g:Me->Res (List D)}{x:Me}{d:D}{ds:List D}(h1:f x=.ok d)(hf:gj d=true)(h2:g x=.ok ds):j6 f g x=.ok (d::ds):=by
 unfold j6
 rw [h1,Res.bh,if_pos hf,h2]
 rfl
theorem xr {f:Me->Res D}{g:Me->Res (List D)}{x:Me}{d:D}{ds:List D}(h1:f x=.ok d)(hf:jd d=true)(h2:g x=.ok ds):gF f g x=.ok (d::ds):=by
 unfold gF
 rw [h1,Res.bh,if_pos hf,h2]
 rfl
theorem Rm {i:Nat}{g:Me->Res (List D)}{x:Me}{d:D}{ds:List D}(h1:x[i]? = some (.ow d))(hf:jd d=true)(h2:g x=.ok ds):sW i g x=.ok (d::ds):=by
 unfold sW owF
 rw [h1]
 simp only [hf,if_true,nY,Res.bh,h2]
theorem HD {fs:Me->Res (List D)}{x:Me}{ds:List D}(h:fs x=.ok ds)(hl:ds.length<=100):sJ fs x=.ok (.rt true (.tup ds),x.map λ_=>.un):=by
 unfold sJ
 rw [h,Res.bh,if_pos (by rw [szl];omega)]
section
variable {m n:Nat}{a:Nat->Nat->Q2}{b u v:Nat->Q2}{D:Crn}
def s6 (R B W o:F.D)(x:Sl)(y:Addr)(H:F.D):Me:=[.fz R,.fz B,.fz W,.ow o,x,.hd true y H]
def kS : Me → Res (Fl × Me) := aU (u9 4 (fxM "Corner" "climb" bB 3 5 (aa (fC (.int 0)) az)))
 (aU (gIf (aQ uA (aj 4) (fC .non)) (sJ (j6 (fC (.str "endless")) (gF (gJ "Corner" "fit" cu (cB 3 5) az) (gF (gJ "Corner" "way_along" bL (cB 3 5) (aa (aj 4) az)) az)))) gNx)
 (sJ (j6 (fC (.str "best")) (gF (gJ "Corner" "fit" cu (cB 3 5) az) (gF (gJ "Corner" "prices" bz (cB 3 5) (aa (fC (.int 0)) az)) az)))))
theorem Dm (I:In m n a b λ_=>u){r:F.D}(hk:∀y,∃m',kS (s6 (aK m n a) (aO n b) (au m u) (oS m n 1 a b (λ_=>u) (D0 m (tL m n a b)) (.adr y)) .un y (hD n λr=>m+r))=.ok (.rt true r,m')/\m'.length=6):jC [aK m n a,aO n b,au m u]=.ok (true,r):=by
 have e1:gEx (fFn bU (aa (aD 0) (aa (aD 2) az))) [.fz (aK m n a),.fz (aO n b),.fz (au m u),.un,.un,.un]=.ok (.nx,[.fz (aK m n a),.fz (aO n b),.fz (au m u),.un,.un,.un]):=by
  unfold gEx
  rw [b8 (ds:=[aK m n a,au m u]) rfl (refuse_eq I.m8 I.n8)]
  rfl
 have ei:cg [aK m n a,aO n b,.lst [au m u]]=.ok (n6,d6 m n 1 a b (λ_=>u),hD n λr=>m+r):=Kd (K:=1) I (by decide) (by decide)
 have e2:Cu 3 5 "Corner" "held_columns" cg (aa (aD 0) (aa (aD 1) (aa (jr (aa (aD 2) az)) az))) kS [.fz (aK m n a),.fz (aO n b),.fz (au m u),.un,.un,.un]=.ok (.rt true r,[.un,.un,.un,.un,.un,.un]):=by
  unfold Cu
  rw [show (aa (aD 0) (aa (aD 1) (aa (jr (aa (aD 2) az)) az))) [.fz (aK m n a),.fz (aO n b),.fz (au m u),.un,.un,.un]=.ok [aK m n a,aO n b,.lst [au m u]] by simp [aa,az,aD,jr],Res.bh,ei]
  simp only []
  rw [if_pos ⟨(show 3<6 by decide),(show 5<6 by decide)⟩]
  refine HR λy=>?_
  rw [Hs]
  have:=hk y
  rw [← KY I] at this
  exact this
 have e3:zX [.fz (aK m n a),.fz (aO n b),.fz (au m u),.un,.un,.un]=.ok (.rt true r,[.un,.un,.un,.un,.un,.un]):=by
  unfold zX Et
  rw [aZ e1]
  exact e2
 exact dX rfl e3
theorem BK {R B W o o' x H H':F.D}{y:Addr}(ho:mR "Corner" "climb" o=true)(e:bB [.int 0] o (y,H)=.ok (x,o',H')):u9 4 (fxM "Corner" "climb" bB 3 5 (aa (fC (.int 0)) az)) (s6 R B W o .un y H)=.ok (.nx,s6 R B W o' (.fz x) y H'):=by
 simp [u9,fxM,Nh,Ih,s6,ho,aa,az,fC,e,G6]
theorem WL {R B W o o' H H' f p:F.D}{y:Addr}(ho:mR "Corner" "climb" o=true)(e:bB [.int 0] o (y,H)=.ok (.non,o',H'))(k1:jd f=true)(k2:jd p=true)
  (ef:gJ "Corner" "fit" cu (cB 3 5) az (s6 R B W o' (.fz .non) y H')=.ok f) (ep:gJ "Corner" "prices" bz (cB 3 5) (aa (fC (.int 0)) az) (s6 R B W o' (.fz .non) y H')=.ok p):∃m',kS (s6 R B W o .un y H)=.ok (.rt true (.tup [.str "best",f,p]),m')/\m'.length=6:=by
 refine ⟨(s6 R B W o' (.fz .non) y H').map λ_=>.un,?_,rfl⟩
 unfold kS
 rw [aZ (BK ho e)]
 refine (aZ (m':=s6 R B W o' (.fz .non) y H') rfl).trans ?_
 exact HD (Dn rfl rfl (xr ef k1 (xr ep k2 rfl))) (by simp)
theorem Nq {R B W o o' H H' f p:F.D}{y:Addr}{k:Nat}(ho:mR "Corner" "climb" o=true)(e:bB [.int 0] o (y,H)=.ok (.int k,o',H'))(k1:jd f=true)(k2:jd p=true)
  (ef:gJ "Corner" "fit" cu (cB 3 5) az (s6 R B W o' (.fz (.int k)) y H')=.ok f) (ep:gJ "Corner" "way_along" bL (cB 3 5) (aa (aj 4) az) (s6 R B W o' (.fz (.int k)) y H')=.ok p):∃m',kS (s6 R B W o .un y H)=.ok (.rt true (.tup [.str "endless",f,p]),m')/\m'.length=6:=by
 refine ⟨(s6 R B W o' (.fz (.int k)) y H').map λ_=>.un,?_,rfl⟩
 have eg:=HD (Dn (f:=fC (.str "endless")) rfl rfl (xr ef k1 (xr ep k2 (g:=az) rfl))) (by simp)
 unfold kS
 rw [aZ (BK ho e)]
 unfold aU gIf
 rw [show aQ uA (aj 4) (fC .non) (s6 R B W o' (.fz (.int k)) y H')=.ok true from rfl,Res.bh,if_pos rfl,eg]
theorem Rw (I : In m n a b λ_ => u) : ∃ D, cz m n (tL m n a b) D ∧
    (((∀ j, j < m + n → 0 ≤ wv n D (wL m u) j) ∧ jC [aK m n a, aO n b, au m u] = .ok (true, .tup [.str "best", au m (wD m n D), au n (gZ m n a b (λ_ => u) D 0)])) ∨
     ∃ q, q < m + n ∧ wv n D (wL m u) q < 0 ∧ (∀ r, r < n → D.c r q ≤ 0) ∧ jC [aK m n a, aO n b, au m u] = .ok (true, .tup [.str "endless", au m (wD m n D), au m (zj m n D q)])) := by
  obtain ⟨D, r, o, _, e, k⟩ := Bf (K := 1) (s := sS m a b) (ws := λ_ => wS0 m u) (o9 I) (lv0 (by decide) (by decide)) (ok0 (o9 I)) trivial
  refine ⟨D, o.I, ?_⟩
  rcases k with ⟨rfl, k⟩ | ⟨q, rfl, k1, k0, k2, k3⟩
  · exact .inl ⟨λj hj => k j hj rfl, Dm I λy => WL (sG (by decide)) (e y) jb jb (Bl (K := 1) I o.I rfl rfl) (KQ I o.I (l := 0) (by decide) rfl rfl rfl)⟩
  · exact .inr ⟨q, k1, k2, k3, Dm I λy => Nq (sG (by decide)) (e y) jb jb (Bl (K := 1) I o.I rfl rfl) (JK (K := 1) I o.I k1 rfl rfl rfl)⟩
end
open Sx (Crn cz wv turn sm det sr hx wx)
theorem Qj {x y:Q2}(h1:Bg x.1)(h2:Bg x.2)(h3:Bg y.1)(h4:Bg y.2):uh [qD x,qD y]=.ok (false,.bl (decide (x.1*y.2<y.1*x.2))):=by
 simp [uh,c7,Gh,Fo,bT,Me.let,Sl.let,iI,aA,aj,fC,qD,gIx,ix0,ix1,eV,h1,h2,h3,h4,gLt]
theorem Ry {x y:Q2}(hx:0<x.2)(hy:0<y.2)(bx:BQ 1210 x)(by':BQ 1210 y):z8 [qD x,qD y]=.ok (false,qD (low (x.1*y.1) (x.2*y.2))):=by
 have h1:Bg x.1:=dD bx.1
 have h2:Bg x.2:=dD bx.2
 have h3:Bg y.1:=dD by'.1
 have h4:Bg y.2:=dD by'.2
 have e:=ou (t:=x.1*y.1) (Int.mul_pos hx hy) (pU (cV bx.2 by'.2))
 have eg:zH [.fz (qD x),.fz (qD y)]=.ok (.rt false (qD (low (x.1*y.1) (x.2*y.2))),[.fz (qD x),.fz (qD y)]):=by
  unfold zH G4 bT
  rw [show Me.let [.fz (qD x),.fz (qD y)]=[.fz (qD x),.fz (qD y)] from rfl,b8 (ds:=[.int (x.1*y.1),.int (x.2*y.2)]) (by simp [aa,az,aA,aj,fC,qD,gIx,ix0,ix1,eV,h1,h2,h3,h4]) e]
  rfl
 exact dX rfl eg
theorem Ur {x y:Q2}(hx:0<x.2)(hy:0<y.2)(bx:BQ 1210 x)(by':BQ 2420 y):GZ [qD x,qD y]=.ok (false,qD (low (x.1*y.2+y.1*x.2) (x.2*y.2))):=by
 have h1:Bg x.1:=dD bx.1
 have h2:Bg x.2:=dD bx.2
 have h3:Bg y.1:=dD by'.1
 have h4:Bg y.2:=dD by'.2
 have e:=ou (t:=x.1*y.2+y.1*x.2) (Int.mul_pos hx hy) (pU (cV bx.2 by'.2))
 have eg:GX [.fz (qD x),.fz (qD y)]=.ok (.rt false (qD (low (x.1*y.2+y.1*x.2) (x.2*y.2))),[.fz (qD x),.fz (qD y)]):=by
  unfold GX J8 bT
  rw [show Me.let [.fz (qD x),.fz (qD y)]=[.fz (qD x),.fz (qD y)] from rfl,b8 (ds:=[.int (x.1*y.2+y.1*x.2),.int (x.2*y.2)]) (by simp [aa,az,aA,aj,fC,qD,gIx,ix0,ix1,eV,eX,h1,h2,h3,h4]) e]
  rfl
 exact dX rfl eg
theorem Qt {k:Nat}{f:Nat->D}:cut (rg (k+1) f) none (some (-1))=rg k f:=by
 unfold cut
 rw [bD,show HT.sIx (k+1) 0 none=0 from rfl,show HT.sIx (k+1) (k+1) (some (-1))=k by
  unfold HT.sIx
  simp
  omega]
 rw [List.drop_zero,Nat.sub_zero]
 exact Le (K:=k+1) (by omega)
theorem JC {t u:Int}{k:Nat}(hu:0<u)(h1:t.natAbs<2 ^ k)(h2:u.natAbs<2 ^ k):BQ k (low t u):=⟨Nat.lt_of_le_of_lt (Kl (by omega)) h1,Nat.lt_of_le_of_lt (Ln (by omega)) h2⟩
structure qN (M:Nat)(wl:Nat->Nat->Int)(ws:Nat->Int)(k:Nat)(L:Q2):Prop where
 pos:0<L.2
 bq:BQ 1210 L
 g:gI L.1 L.2=1
 nn:0<=L.1
 ge:∀i,i<k->wl 1 i<0->((-(wl 1 i)*ws 0:Int):Rat) / ((wl 0 i*ws 1:Int):Rat)<=vq L
 at':L=(0,1)\/∃q,q<M/\wl 1 q<0/\0<wl 0 q/\L=low (-(wl 1 q)*ws 0) (wl 0 q*ws 1)
theorem YS {M:Nat}{wl:Nat->Nat->Int}{ws:Nat->Int}:qN M wl ws 0 (0,1):=⟨by decide,⟨show (0:Int).natAbs<2 ^ 1210 from Nat.pow_pos (by decide),show (1:Int).natAbs<2 ^ 1210 from Nat.one_lt_two_pow (by decide)⟩,by decide,by decide,λi hi=>absurd hi (Nat.not_lt_zero _),.inl rfl⟩
theorem qN.skip {M k:Nat}{wl:Nat->Nat->Int}{ws:Nat->Int}{L:Q2}(h:qN M wl ws k L)(q:¬wl 1 k<0):qN M wl ws (k+1) L:=
 ⟨h.pos,h.bq,h.g,h.nn,λi hi w=>by
  by_cases z:i=k
  ·subst z;exact absurd w q
  ·exact h.ge i (by omega) w,h.at'⟩
theorem qN.take {M k:Nat}{wl:Nat->Nat->Int}{ws:Nat->Int}{L:Q2}(h:qN M wl ws k L)(hk:k<M)(q:wl 1 k<0)(hc:0<wl 0 k)(w0:0<ws 0)(w1:0<ws 1)(hN:BQ 1210 (low (-(wl 1 k)*ws 0) (wl 0 k*ws 1))):
  qN M wl ws (k+1) (if L.1*(low (-(wl 1 k)*ws 0) (wl 0 k*ws 1)).2<(low (-(wl 1 k)*ws 0) (wl 0 k*ws 1)).1*L.2 then low (-(wl 1 k)*ws 0) (wl 0 k*ws 1) else L):=by
 have hp:=Int.mul_pos hc w1
 have e:=wN (t:=-(wl 1 k)*ws 0) hp
 have np:=nP (t:=-(wl 1 k)*ws 0) hp
 have ng:=zP (t:=-(wl 1 k)*ws 0) (b:=wl 0 k*ws 1) (by omega)
 have nc:(low (-(wl 1 k)*ws 0) (wl 0 k*ws 1)).1*(wl 0 k*ws 1)=-(wl 1 k)*ws 0*(low (-(wl 1 k)*ws 0) (wl 0 k*ws 1)).2:=Dy (by omega)
 have nn:0<=(low (-(wl 1 k)*ws 0) (wl 0 k*ws 1)).1:=by
  have h1:0<=-(wl 1 k)*ws 0*(low (-(wl 1 k)*ws 0) (wl 0 k*ws 1)).2:=Int.mul_nonneg (Int.mul_nonneg (by omega) (by omega)) (by omega)
  by_cases z:0<=(low (-(wl 1 k)*ws 0) (wl 0 k*ws 1)).1
  ·exact z
  ·have:=Int.mul_neg_of_neg_of_pos (show (low (-(wl 1 k)*ws 0) (wl 0 k*ws 1)).1<0 by omega) hp
   omega
 have le:=Af (x:=low (-(wl 1 k)*ws 0) (wl 0 k*ws 1)) (y:=L) np h.pos
 have le2:=Af (x:=L) (y:=low (-(wl 1 k)*ws 0) (wl 0 k*ws 1)) h.pos np
 by_cases z:L.1*(low (-(wl 1 k)*ws 0) (wl 0 k*ws 1)).2<(low (-(wl 1 k)*ws 0) (wl 0 k*ws 1)).1*L.2
 ·rw [if_pos z]
  refine ⟨np,hN,ng,nn,λi hi w=>?_,.inr ⟨k,hk,q,hc,rfl⟩⟩
  by_cases y:i=k
  ·subst y;rw [e];exact Rat.le_refl
  ·exact Rat.le_trans (h.ge i (by omega) w) (le2.mpr (by omega))
 ·rw [if_neg z]
  refine ⟨h.pos,h.bq,h.g,h.nn,λi hi w=>?_,h.at'⟩
  by_cases y:i=k
  ·subst y;rw [← e];exact le.mpr (by omega)
  ·exact h.ge i (by omega) w
section
variable {m n K:Nat}{s ws:Nat->Int}{bt:Int}{c wl:Nat->Nat->Int}{h:D}
theorem Np {o f x:D}{cost gain:Int}(q:¬gain<0){e:Sl}:fG [.fz o,.fz f,.fz (.int cost),.fz (.int gain),e]=.ok (.nx,[.fz o,.fz f,.fz (.int cost),.fz (.int gain),e]):=by
 simp [fG,gIf,aQ,aj,fC,gLt,q,gNx]
theorem Ou {o:D}{L:Q2}{cost gain:Int}{e:Sl}(h0:jm "Corner" "wish_scales" o=some (iL 2 ws))(q:gain<0)(hc:0<cost)(w0:0<ws 0)(w1:0<ws 1)(b0:(ws 0).natAbs<2 ^ 91)(b1:(ws 1).natAbs<2 ^ 91)(bc:cost.natAbs<2 ^ 1110)(bg:gain.natAbs<2 ^ 1110)(hL:BQ 1210 L):
  fG [.fz o,.fz (qD L),.fz (.int cost),.fz (.int gain),e]=.ok (.nx,[.fz o,.fz (qD (if L.1*(low (-gain*ws 0) (cost*ws 1)).2<(low (-gain*ws 0) (cost*ws 1)).1*L.2 then low (-gain*ws 0) (cost*ws 1) else L)),.fz (.int cost),.fz (.int gain),.fz (qD (low (-gain*ws 0) (cost*ws 1)))])/\0<(low (-gain*ws 0) (cost*ws 1)).2/\BQ 1210 (low (-gain*ws 0) (cost*ws 1)):=by
 have hp:=Int.mul_pos hc w1
 have bn:(-gain).natAbs<2 ^ 1110:=by rw [Int.natAbs_neg];exact bg
 have hN:BQ 1210 (low (-gain*ws 0) (cost*ws 1)):=JC hp (dh (cV bn b0) (by decide)) (dh (cV bc b1) (by decide))
 refine ⟨?_,nP hp,hN⟩
 have i0:gIx (iL 2 ws) (.int 0)=some (.int (ws 0)):=kh (i:=0) (by decide)
 have i1:gIx (iL 2 ws) (.int 1)=some (.int (ws 1)):=kh (i:=1) (by decide)
 have g1:Bg (-gain):=dD bn
 have g2:Bg (ws 0):=dD b0
 have g3:Bg (ws 1):=dD b1
 have g4:Bg cost:=dD bc
 have el:=ou (t:=-gain*ws 0) hp (pU (cV bc b1))
 generalize low (-gain*ws 0) (cost*ws 1)=N at *
 have eu:=Qj (x:=L) (y:=N) (dD hL.1) (dD hL.2) (dD hN.1) (dD hN.2)
 have s1:bf 4 (fFn gA (aa (aA eV (fUn rJ (aj 3)) (aA gIx (cA "Corner" "wish_scales" (aj 0)) (fC (.int 0)))) (aa (aA eV (aj 2) (aA gIx (cA "Corner" "wish_scales" (aj 0)) (fC (.int 1)))) az))) [.fz o,.fz (qD L),.fz (.int cost),.fz (.int gain),e]=.ok (.nx,[.fz o,.fz (qD L),.fz (.int cost),.fz (.int gain),.fz (qD N)]):=by
  unfold bf
  rw [b8 (ds:=[.int (-gain*ws 0),.int (cost*ws 1)]) (by
   generalize iL 2 ws=WW at *
   simp [aa,az,aA,fUn,rJ,aj,cA,h0,fC,i0,i1,eV,g1,g2,g3,g4]) el]
  rfl
 have eb:fG [.fz o,.fz (qD L),.fz (.int cost),.fz (.int gain),e]=gIf (fTv (fFn uh (aa (aD 1) (aa (aD 4) az)))) (bf 1 (aD 4)) gNx [.fz o,.fz (qD L),.fz (.int cost),.fz (.int gain),.fz (qD N)]:=by
  unfold fG gIf
  rw [show aQ gLt (aj 3) (fC (.int 0)) [.fz o,.fz (qD L),.fz (.int cost),.fz (.int gain),e]=.ok true by simp [aQ,aj,fC,gLt,q],Res.bh,if_pos rfl,aZ s1]
 rw [eb]
 have et:fTv (fFn uh (aa (aD 1) (aa (aD 4) az))) [.fz o,.fz (qD L),.fz (.int cost),.fz (.int gain),.fz (qD N)]=.ok (decide (L.1*N.2<N.1*L.2)):=by
  unfold fTv
  rw [b8 (ds:=[qD L,qD N]) rfl eu]
  rfl
 unfold gIf
 rw [et,Res.bh]
 by_cases z:L.1*N.2<N.1*L.2
 ·rw [if_pos z,if_pos (decide_eq_true z)]
  rfl
 ·rw [if_neg z,if_neg (by simpa using z)]
  rfl
theorem Uh (hm:m<=8)(hn:n<=8)(w0:0<ws 0)(w1:0<ws 1)(b0:(ws 0).natAbs<2 ^ 91)(b1:(ws 1).natAbs<2 ^ 91)(bw:∀l j,(wl l j).natAbs<2 ^ 1110)(hp:∀j,j<m+n->wl 1 j<0->0<wl 0 j):∃L:Q2,fM [obj m n 2 s ws c wl bt h]=.ok (false,qD L)/\qN (m+n) wl ws (m+n) L:=by
 obtain ⟨m',e,L,x,y,z,em,li⟩:=lV (n:=m+n) (f:=λj=>.tup [.int (wl 0 j),.int (wl 1 j)]) (h:=nZ 2 (cL (hName 2) (cL (hName 3) nW))) (k:=fG) (m:=[.fz (obj m n 2 s ws c wl bt h),.fz (qD (0,1)),.un,.un,.un]) (λk m'=>∃(L:Q2) (x y z:Sl),m'=[.fz (obj m n 2 s ws c wl bt h),.fz (qD L),x,y,z]/\qN (m+n) wl ws k L) ⟨(0,1),_,_,_,rfl,YS⟩ λj m' hj ⟨L,x,y,z,em,li⟩=>by
  subst em
  by_cases q:wl 1 j<0
  ·obtain ⟨t1,t2,t3⟩:=Ou (o:=obj m n 2 s ws c wl bt h) (L:=L) (cost:=wl 0 j) (gain:=wl 1 j) (e:=z) YF q (hp j hj q) w0 w1 b0 b1 (bw 0 j) (bw 1 j) li.bq
   exact ⟨_,_,rfl,t1,_,_,_,_,rfl,li.take hj q (hp j hj q) w0 w1 t3⟩
  ·exact ⟨_,_,rfl,Np (x:=.non) q,L,_,_,_,rfl,li.skip q⟩
 subst em
 refine ⟨L,?_,li⟩
 have i0:gIx (.lst (rg 2 λr=>iL (m+n+1) (wl r))) (.int 0)=some (iL (m+n+1) (wl 0)):=oW (i:=0) (by decide)
 have i1:gIx (.lst (rg 2 λr=>iL (m+n+1) (wl r))) (.int 1)=some (iL (m+n+1) (wl 1)):=oW (i:=1) (by decide)
 have sl:∀f:Nat->Int,gSl (iL (m+n+1) f) none (some (-1))=some (.lst (rg (m+n) λi=>.int (f i))):=λf=>by
  show some (D.lst (cut (rg (m+n+1) λi=>.int (f i)) none (some (-1))))=_
  rw [Qt]
 have eL:oJ [.fz (obj m n 2 s ws c wl bt h),.fz (qD (0,1)),.un,.un,.un]=.ok (.nx,[.fz (obj m n 2 s ws c wl bt h),.fz (qD L),x,y,z]):=by
  unfold oJ lZ
  rw [show qC (aa (fSl (aA gIx (cA "Corner" "wish_lines" (aj 0)) (fC (.int 0))) fO0 (fO1 (fUn rJ (fC (.int 1))))) (aa (fSl (aA gIx (cA "Corner" "wish_lines" (aj 0)) (fC (.int 1))) fO0 (fO1 (fUn rJ (fC (.int 1))))) az)) [.fz (obj m n 2 s ws c wl bt h),.fz (qD (0,1)),.un,.un,.un]=.ok (rg (m+n) λj=>.tup [.int (wl 0 j),.int (wl 1 j)]) by
   have w:=Ob (m:=m) (n:=n) (K:=2) (s:=s) (ws:=ws) (c:=c) (wl:=wl) (bt:=bt) (h:=h)
   generalize obj m n 2 s ws c wl bt h=oo at *
   generalize D.lst (rg 2 λr=>iL (m+n+1) (wl r))=WW at *
   have a0:=sl (wl 0)
   have a1:=sl (wl 1)
   generalize iL (m+n+1) (wl 0)=A0 at *
   generalize iL (m+n+1) (wl 1)=A1 at *
   simp [qC,aa,az,fSl,aA,cA,aj,w,fC,i0,i1,fO0,fO1,fUn,rJ,a0,a1,wQ]]
  exact e
 have eg:nJ [.fz (obj m n 2 s ws c wl bt h),.un,.un,.un,.un]=.ok (.rt false (qD L),Me.let [.fz (obj m n 2 s ws c wl bt h),.fz (qD L),x,y,z]):=by
  unfold nJ rm
  rw [aZ (m':=[.fz (obj m n 2 s ws c wl bt h),.fz (qD (0,1)),.un,.un,.un]) rfl,aZ eL]
  rfl
 exact dX rfl eg
end
open Sx (Crn cz wv turn sm det sr hx wx)
section
variable {R B U V:D}
def sN (R B U V o:D)(x5 x6 x7 x8:Sl)(y:Addr)(H:D):Me:=[.fz R,.fz B,.fz U,.fz V,.ow o,x5,x6,x7,x8,.hd true y H]
def kN : Me → Res (Fl × Me) :=
 (aU (u9 5 (fxM "Corner" "climb" bB 4 9 (aa (fC (.int 0)) az)))
 (aU (gIf (aQ uA (aj 5) (fC .non)) (sJ (j6 (fC (.str "endless")) (gF (gJ "Corner" "fit" cu (cB 4 9) az) (gF (gJ "Corner" "way_along" bL (cB 4 9) (aa (aj 5) az)) az)))) gNx)
 (aU (uc 6 (gJ "Corner" "prices" bz (cB 4 9) (aa (fC (.int 0)) az)))
 (aU (u9 5 (fxM "Corner" "climb" bB 4 9 (aa (fC (.int 1)) az)))
 (aU (gIf (aQ uA (aj 5) (fC .non)) (sJ (j6 (fC (.str "endless next")) (gF (gJ "Corner" "fit" cu (cB 4 9) az) (sW 6 (gF (gJ "Corner" "way_along" bL (cB 4 9) (aa (aj 5) az)) az))))) gNx)
 (aU (bf 7 (fMt "Corner" "lift" fM (cB 4 9) az))
 (aU (uc 8 gW)
 (sJ (j6 (fC (.str "best")) (gF (gJ "Corner" "fit" cu (cB 4 9) az) (sW 6 (sW 8 (j6 (aD 7) az)))))))))))))
theorem Bd {l:Nat}{o o' x H H':D}{x5 x6 x7 x8:Sl}{y:Addr}(ho:mR "Corner" "climb" o=true)(e:bB [.int l] o (y,H)=.ok (x,o',H')):u9 5 (fxM "Corner" "climb" bB 4 9 (aa (fC (.int l)) az)) (sN R B U V o x5 x6 x7 x8 y H)=.ok (.nx,sN R B U V o' (.fz x) x6 x7 x8 y H'):=by
 simp [u9,fxM,Nh,Ih,sN,ho,aa,az,fC,e,G6]
theorem Ea {o H:D}{x6 x7 x8:Sl}{y:Addr}{g:Me->Res (Fl×Me)}:gIf (aQ uA (aj 5) (fC .non)) g gNx (sN R B U V o (.fz .non) x6 x7 x8 y H)=.ok (.nx,sN R B U V o (.fz .non) x6 x7 x8 y H):=rfl
theorem Wr {o o' H H' f p:D}{y:Addr}{k:Nat}(ho:mR "Corner" "climb" o=true)(e:bB [.int (0:Nat)] o (y,H)=.ok (.int k,o',H'))(k1:jd f=true)(k2:jd p=true)
  (ef:gJ "Corner" "fit" cu (cB 4 9) az (sN R B U V o' (.fz (.int k)) .un .un .un y H')=.ok f) (ep:gJ "Corner" "way_along" bL (cB 4 9) (aa (aj 5) az) (sN R B U V o' (.fz (.int k)) .un .un .un y H')=.ok p):∃m',kN (sN R B U V o .un .un .un .un y H)=.ok (.rt true (.tup [.str "endless",f,p]),m')/\m'.length=10:=by
 refine ⟨(sN R B U V o' (.fz (.int k)) .un .un .un y H').map λ_=>.un,?_,rfl⟩
 have eg:=HD (Dn (f:=fC (.str "endless")) rfl rfl (xr ef k1 (xr ep k2 (g:=az) rfl))) (by simp)
 unfold kN
 refine (aZ (Bd ho e)).trans ?_
 unfold aU gIf
 rw [show aQ uA (aj 5) (fC .non) (sN R B U V o' (.fz (.int k)) .un .un .un y H')=.ok true from rfl,Res.bh,if_pos rfl,eg]
theorem Y8 {o1 H1 p0:D}{y:Addr}(e0:gJ "Corner" "prices" bz (cB 4 9) (aa (fC (.int 0)) az) (sN R B U V o1 (.fz .non) .un .un .un y H1)=.ok p0):uc 6 (gJ "Corner" "prices" bz (cB 4 9) (aa (fC (.int 0)) az)) (sN R B U V o1 (.fz .non) .un .un .un y H1)=.ok (.nx,sN R B U V o1 (.fz .non) (.ow p0) .un .un y H1):=by
 unfold uc
 rw [e0]
 rfl
theorem Uu {o o1 o2 H H1 H2 f p0 p:D}{y:Addr}{k:Nat}(ho:mR "Corner" "climb" o=true)(ho1:mR "Corner" "climb" o1=true)(e:bB [.int (0:Nat)] o (y,H)=.ok (.non,o1,H1))(k0:jd p0=true)(k1:jd f=true)(k2:jd p=true)(e0:gJ "Corner" "prices" bz (cB 4 9) (aa (fC (.int 0)) az) (sN R B U V o1 (.fz .non) .un .un .un y H1)=.ok p0)
  (e1:bB [.int (1:Nat)] o1 (y,H1)=.ok (.int k,o2,H2))
  (ef:gJ "Corner" "fit" cu (cB 4 9) az (sN R B U V o2 (.fz (.int k)) (.ow p0) .un .un y H2)=.ok f) (ep:gJ "Corner" "way_along" bL (cB 4 9) (aa (aj 5) az) (sN R B U V o2 (.fz (.int k)) (.ow p0) .un .un y H2)=.ok p):∃m',kN (sN R B U V o .un .un .un .un y H)=.ok (.rt true (.tup [.str "endless next",f,p0,p]),m')/\m'.length=10:=by
 refine ⟨(sN R B U V o2 (.fz (.int k)) (.ow p0) .un .un y H2).map λ_=>.un,?_,rfl⟩
 have eg:=HD (Dn (f:=fC (.str "endless next")) rfl rfl (xr ef k1 (Rm (i:=6) rfl k0 (xr ep k2 (g:=az) rfl)))) (by simp)
 unfold kN
 refine (aZ (Bd ho e)).trans ?_
 rw [aZ Ea,aZ (Y8 e0)]
 refine (aZ (Bd ho1 e1)).trans ?_
 unfold aU gIf
 rw [show aQ uA (aj 5) (fC .non) (sN R B U V o2 (.fz (.int k)) (.ow p0) .un .un y H2)=.ok true from rfl,Res.bh,if_pos rfl,eg]
theorem Vt {o o1 o2 H H1 H2 f p0 li ot:D}{y:Addr}(ho:mR "Corner" "climb" o=true)(ho1:mR "Corner" "climb" o1=true)(e:bB [.int (0:Nat)] o (y,H)=.ok (.non,o1,H1))(k0:jd p0=true)(k1:jd f=true)(k2:jd ot=true)(k3:gj li=true)(e0:gJ "Corner" "prices" bz (cB 4 9) (aa (fC (.int 0)) az) (sN R B U V o1 (.fz .non) .un .un .un y H1)=.ok p0)
  (e1:bB [.int (1:Nat)] o1 (y,H1)=.ok (.non,o2,H2)) (el:fMt "Corner" "lift" fM (cB 4 9) az (sN R B U V o2 (.fz .non) (.ow p0) .un .un y H2)=.ok li) (eq:gW (sN R B U V o2 (.fz .non) (.ow p0) (.fz li) .un y H2)=.ok ot)
  (ef:gJ "Corner" "fit" cu (cB 4 9) az (sN R B U V o2 (.fz .non) (.ow p0) (.fz li) (.ow ot) y H2)=.ok f):∃m',kN (sN R B U V o .un .un .un .un y H)=.ok (.rt true (.tup [.str "best",f,p0,ot,li]),m')/\m'.length=10:=by
 refine ⟨(sN R B U V o2 (.fz .non) (.ow p0) (.fz li) (.ow ot) y H2).map λ_=>.un,?_,rfl⟩
 have s6:bf 7 (fMt "Corner" "lift" fM (cB 4 9) az) (sN R B U V o2 (.fz .non) (.ow p0) .un .un y H2)=.ok (.nx,sN R B U V o2 (.fz .non) (.ow p0) (.fz li) .un y H2):=by
  unfold bf
  rw [el]
  rfl
 have s7:uc 8 gW (sN R B U V o2 (.fz .non) (.ow p0) (.fz li) .un y H2)=.ok (.nx,sN R B U V o2 (.fz .non) (.ow p0) (.fz li) (.ow ot) y H2):=by
  unfold uc
  rw [eq]
  rfl
 have eg:=HD (Dn (f:=fC (.str "best")) rfl rfl (xr ef k1 (Rm (i:=6) rfl k0 (Rm (i:=8) rfl k2 (Dn (f:=aD 7) (d:=li) rfl k3 (g:=az) rfl))))) (by simp)
 unfold kN
 refine (aZ (Bd ho e)).trans ?_
 rw [aZ Ea,aZ (Y8 e0)]
 refine (aZ (Bd ho1 e1)).trans ?_
 rw [aZ Ea,aZ s6,aZ s7]
 exact eg
end
section
variable {m n:Nat}{a:Nat->Nat->Q2}{b u v:Nat->Q2}{D:Crn}
def uv (u v:Nat->Q2)(l:Nat):Nat->Q2:=if l=0 then u else v
theorem Ay (I:In m n a b (uv u v)){r:F.D}(hk:∀y,∃m',kN (sN (aK m n a) (aO n b) (au m u) (au m v) (oS m n 2 a b (uv u v) (D0 m (tL m n a b)) (.adr y)) .un .un .un .un y (hD n λr=>m+r))=.ok (.rt true r,m')/\m'.length=10):cC [aK m n a,aO n b,au m u,au m v]=.ok (true,r):=by
 have e1:gEx (fFn bU (aa (aD 0) (aa (aD 2) az))) [.fz (aK m n a),.fz (aO n b),.fz (au m u),.fz (au m v),.un,.un,.un,.un,.un,.un]=.ok (.nx,[.fz (aK m n a),.fz (aO n b),.fz (au m u),.fz (au m v),.un,.un,.un,.un,.un,.un]):=by
  unfold gEx
  rw [b8 (ds:=[aK m n a,au m u]) rfl (refuse_eq I.m8 I.n8)]
  rfl
 have ei:cg [aK m n a,aO n b,.lst [au m u,au m v]]=.ok (n6,d6 m n 2 a b (uv u v),hD n λr=>m+r):=Kd (K:=2) I (by decide) (by decide)
 have e2:Cu 4 9 "Corner" "held_columns" cg (aa (aD 0) (aa (aD 1) (aa (jr (aa (aD 2) (aa (aD 3) az))) az))) kN [.fz (aK m n a),.fz (aO n b),.fz (au m u),.fz (au m v),.un,.un,.un,.un,.un,.un]=.ok (.rt true r,[.un,.un,.un,.un,.un,.un,.un,.un,.un,.un]):=by
  unfold Cu
  rw [show (aa (aD 0) (aa (aD 1) (aa (jr (aa (aD 2) (aa (aD 3) az))) az))) [.fz (aK m n a),.fz (aO n b),.fz (au m u),.fz (au m v),.un,.un,.un,.un,.un,.un]=.ok [aK m n a,aO n b,.lst [au m u,au m v]] by simp [aa,az,aD,jr],Res.bh,ei]
  simp only []
  rw [if_pos ⟨(show 4<10 by decide),(show 9<10 by decide)⟩]
  refine HR λy=>?_
  rw [Hs]
  have:=hk y
  rw [← KY I] at this
  exact this
 have e3:pF [.fz (aK m n a),.fz (aO n b),.fz (au m u),.fz (au m v),.un,.un,.un,.un,.un,.un]=.ok (.rt true r,[.un,.un,.un,.un,.un,.un,.un,.un,.un,.un]):=by
  unfold pF uf
  rw [aZ e1]
  exact e2
 exact dX rfl e3
theorem YD {w:Nat->Nat->Q2}{R B U V:F.D}(I:In m n a b w)(o:cz m n (tL m n a b) D)(hp:∀j,j<m+n->wv n D (wL m (w 1)) j<0->0<wv n D (wL m (w 0)) j)(x5 x6 x7 x8:Sl):∃L:Q2,(∀y,fMt "Corner" "lift" fM (cB 4 9) az (sN R B U V (oS m n 2 a b w D (.adr y)) x5 x6 x7 x8 y (hD n D.h))=.ok (qD L))/\qN (m+n) (cw m n (λl=>wL m (w l)) D) (λl=>wS0 m (w l)) (m+n) L:=by
 obtain ⟨L,e,li⟩:=Uh (s:=sS m a b) (ws:=λl=>wS0 m (w l)) (c:=cc m n D) (wl:=cw m n (λl=>wL m (w l)) D) (bt:=D.b) (h:=hD n D.h) I.m8 I.n8 (my I 0).1 (my I 1).1 (my I 0).2.1 (my I 1).2.1 (Hy I o) λj hj=>by
  rw [cw_is (by omega),cw_is (by omega)]
  exact hp j hj
 exact ⟨L,λy=>mt1 (pN (.inr rfl) rfl) (sG (by decide)) rfl e rfl,li⟩
theorem yw {w:Nat->Nat->Q2}(I:In m n a b w)(o:cz m n (tL m n a b) D)(l i:Nat):0<(gZ m n a b w D l i).2/\BQ 1210 (gZ m n a b w D l i):=by
 obtain ⟨w1,w2,_⟩:=my I l
 have hp:=Int.mul_pos o.pos w1
 exact ⟨nP hp,JC hp (dh (cV (Hy I o l (m+i)) (zy I i).2.1) (by decide)) (dh (cV (G8 I o) w2) (by decide))⟩
def wG (L:Q2)(p0 p1:Nat->Q2)(i:Nat):Q2:=low ((p1 i).1*(low (L.1*(p0 i).1) (L.2*(p0 i).2)).2+(low (L.1*(p0 i).1) (L.2*(p0 i).2)).1*(p1 i).2) ((p1 i).2*(low (L.1*(p0 i).1) (L.2*(p0 i).2)).2)
theorem Tf {R B U V o H:F.D}{y:Addr}{L:Q2}{p0 p1:Nat->Q2}(hn:n<=8)(l1:0<L.2)(l2:BQ 1210 L)(h0:∀i,0<(p0 i).2/\BQ 1210 (p0 i))(h1:∀i,0<(p1 i).2/\BQ 1210 (p1 i))(e:fMt "Corner" "prices" bz (cB 4 9) (aa (fC (.int 1)) az) (sN R B U V o (.fz .non) (.ow (au n p0)) (.fz (qD L)) .un y H)=.ok (au n p1)):
  gW (sN R B U V o (.fz .non) (.ow (au n p0)) (.fz (qD L)) .un y H)=.ok (au n (wG L p0 p1)):=by
 have ei:qC (aa (fMt "Corner" "prices" bz (cB 4 9) (aa (fC (.int 1)) az)) (aa (aj 6) az)) (sN R B U V o (.fz .non) (.ow (au n p0)) (.fz (qD L)) .un y H)=.ok (rg n λi=>.tup [qD (p1 i),qD (p0 i)]):=by
  unfold qC
  rw [bA e (bA (f:=aj 6) (d:=au n p0) (g:=az) rfl rfl)]
  show Res.ok (Cw (rg n λi=>qD (p1 i)) (rg n λi=>qD (p0 i)))=_
  rw [wQ]
 have ec:=dC (n:=n) (f:=λi=>.tup [qD (p1 i),qD (p0 i)]) (h:=nZ 2 (cL (hName 0) (cL (hName 1) nW))) (ft:=eU) (fe:=qb) (m0:=[.un,.un,.fz (qD L)]) (λi=>qD (wG L p0 p1 i)) λi hi=>⟨[.fz (qD (p1 i)),.fz (qD (p0 i)),.fz (qD L)],rfl,rfl,by
  obtain ⟨z1,z2⟩:=h0 i
  obtain ⟨y1,y2⟩:=h1 i
  have hp:=Int.mul_pos l1 z1
  have et:=Ry l1 z1 l2 z2
  have ep:=Ur (x:=p1 i) (y:=low (L.1*(p0 i).1) (L.2*(p0 i).2)) y1 (nP hp) y2 (JC hp (cV l2.1 z2.1) (cV l2.2 z2.2))
  unfold qb
  exact b8 (bA (f:=aD 0) (d:=qD (p1 i)) rfl (bA (b8 (ds:=[qD L,qD (p0 i)]) rfl et) (g:=az) rfl)) ep⟩
 have z:n<=sizeLine:=by rw [szl];omega
 unfold gW cG
 rw [ei,Res.bh,bD,if_pos z]
 rw [show cMe 2 [7] (sN R B U V o (.fz .non) (.ow (au n p0)) (.fz (qD L)) .un y H)=[.un,.un,.fz (qD L)] from rfl,ec]
 rfl
theorem aat {T W:Nat->Nat->Int}{A:Nat->Bool}{D1:Crn}:Lv m n 2 T W 1 A λD=>Z1 m n (W 0) A D/\Sx.Bs n (W 0) D1 D:=by
 refine ⟨by decide,by decide,λD O hz j hj=>?_,λD p q O hz hh he=>⟨U3 O hz.1 hh he,hz.2.turn O.I he.1 ((hz.1 q hh.1).1.mpr hh.2.1)⟩⟩
 rw [← (hz.1 j hj).1]
 refine ⟨λh=>?_,λh r hr=>?_⟩
 ·have:=h 0 (by omega)
  rwa [cw_is (by omega)] at this
 ·rw [show r=0 by omega,cw_is (by omega)]
  exact h
theorem U8 (I : In m n a b (uv u v)) : ∃ D1, cz m n (tL m n a b) D1 ∧
    ((∃ q, q < m + n ∧ wv n D1 (wL m u) q < 0 ∧ (∀ r, r < n → D1.c r q ≤ 0) ∧ cC [aK m n a, aO n b, au m u, au m v] = .ok (true, .tup [.str "endless", au m (wD m n D1), au m (zj m n D1 q)])) ∨
     ∃ D2, cz m n (tL m n a b) D2 ∧ (∀ j, j < m + n → 0 ≤ wv n D2 (wL m u) j) ∧ Sx.Bs n (wL m u) D1 D2 ∧
      ((∃ q, q < m + n ∧ wv n D2 (wL m u) q = 0 ∧ wv n D2 (wL m v) q < 0 ∧ (∀ r, r < n → D2.c r q ≤ 0) ∧ cC [aK m n a, aO n b, au m u, au m v] = .ok (true, .tup [.str "endless next", au m (wD m n D2), au n (gZ m n a b (uv u v) D1 0), au m (zj m n D2 q)])) ∨
       ∃ L, qN (m + n) (cw m n (λl => wL m (uv u v l)) D2) (λl => wS0 m (uv u v l)) (m + n) L ∧ (∀ j, j < m + n → wv n D2 (wL m v) j < 0 → 0 < wv n D2 (wL m u) j) ∧ cC [aK m n a, aO n b, au m u, au m v] = .ok (true, .tup [.str "best", au m (wD m n D2), au n (gZ m n a b (uv u v) D1 0), au n (wG L (gZ m n a b (uv u v) D1 0) (gZ m n a b (uv u v) D2 1)), qD L]))) := by
  have P := o9 I
  obtain ⟨D1, r1, o1, _, e1, k⟩ := Bf (K := 2) (s := sS m a b) (ws := λl => wS0 m (uv u v l)) P (lv0 (by decide) (by decide)) (ok0 P) trivial
  refine ⟨D1, o1.I, ?_⟩
  rcases k with ⟨rfl, k⟩ | ⟨q, rfl, k1, k0, k2, k3⟩
  · have O : Sx.Ok m n (tL m n a b) (λj => decide (wv n D1 (wL m (uv u v 0)) j = 0)) D1 := ⟨o1.I, λr hr => decide_eq_true (Sx.xG o1.I _ hr)⟩
    have Zz : Z1 m n (wL m (uv u v 0)) (λj => decide (wv n D1 (wL m (uv u v 0)) j = 0)) D1 := λj hj => ⟨by simp, k j hj rfl⟩
    have e0 := λy => KQ (K := 2) (x := sN (aK m n a) (aO n b) (au m u) (au m v) (oS m n 2 a b (uv u v) D1 (.adr y)) (.fz .non) .un .un .un y (hD n D1.h)) (i := 4) (j := 9) (fs := aa (fC (.int 0)) az) I o1.I (l := 0) (by decide) rfl rfl rfl
    obtain ⟨D2, r2, o2, z2, e2, k'⟩ := Bf (K := 2) (l := 1) (s := sS m a b) (ws := λl => wS0 m (uv u v l)) P aat O ⟨Zz, λj => rfl⟩
    refine .inr ⟨D2, o2.I, λj hj => (z2.1 j hj).2, z2.2, ?_⟩
    rcases k' with ⟨rfl, k'⟩ | ⟨q, rfl, k1, k0, k2, k3⟩
    · have hp : ∀ j, j < m + n → wv n D2 (wL m (uv u v 1)) j < 0 → 0 < wv n D2 (wL m (uv u v 0)) j := λj hj hlt => by
        obtain ⟨za, zb⟩ := z2.1 j hj
        have : ¬ wv n D2 (wL m (uv u v 0)) j = 0 := λz => by
          have h9 : 0 ≤ wv n D2 (wL m (uv u v 1)) j := k' j hj (za.mp z)
          omega
        have h8 : 0 ≤ wv n D2 (wL m (uv u v 0)) j := zb
        omega
      obtain ⟨L, el, li⟩ := YD (R := aK m n a) (B := aO n b) (U := au m u) (V := au m v) I o2.I hp (.fz .non) (.ow (au n (gZ m n a b (uv u v) D1 0))) .un .un
      have e4 := λy => Tf (U := au m u) (V := au m v) I.n8 li.pos li.bq (yw I o1.I 0) (yw I o2.I 1) (Xm (K := 2) (y := y) (x := sN (aK m n a) (aO n b) (au m u) (au m v) (oS m n 2 a b (uv u v) D2 (.adr y)) (.fz .non) (.ow (au n (gZ m n a b (uv u v) D1 0))) (.fz (qD L)) .un y (hD n D2.h)) (i := 4) (j := 9) (fs := aa (fC (.int 1)) az) I o2.I (l := 1) (by decide) rfl rfl rfl)
      exact .inr ⟨L, li, hp, Ay I λy => Vt (sG (by decide)) (sG (by decide)) (e1 y) jb jb jb rfl (e0 y) (e2 y) (el y) (e4 y) (Bl (K := 2) I o2.I rfl rfl)⟩
    · exact .inl ⟨q, k1, (z2.1 q k1).1.mpr k0, k2, k3, Ay I λy => Uu (sG (by decide)) (sG (by decide)) (e1 y) jb jb jb (e0 y) (e2 y) (Bl (K := 2) I o2.I rfl rfl) (JK (K := 2) I o2.I k1 rfl rfl rfl)⟩
  · exact .inl ⟨q, k1, k2, k3, Ay I λy => Wr (sG (by decide)) (e1 y) jb jb (Bl (K := 2) I o1.I rfl rfl) (JK (K := 2) I o1.I k1 rfl rfl rfl)⟩
end
open Sx (Crn cz wv turn sm det sr hx wx)
section
variable {m n:Nat}{a w:Nat->Nat->Q2}{b u v:Nat->Q2}{D:Crn}
theorem TF {q k:Int}(hq:0<q)(hk:0<k)(h:q ∣ k):q*(k / q)=k:=by
 obtain ⟨x,rfl⟩:=h
 rw [Int.mul_ediv_cancel_left _ (by omega)]
theorem Ez {q:Q2}{k:Int}(hq:0<q.2)(hk:0<k)(h:q.2 ∣ k):((q.1*(k / q.2):Int):Rat)=vq q*(k:Rat):=by
 have e:=TF hq hk h
 have e':(q.2:Rat)*((k / q.2:Int):Rat)=(k:Rat):=by exact_mod_cast e
 have h1:=ip hq
 unfold vq
 rw [Rat.intCast_mul,← e']
 grind
theorem yt (I:In m n a b w)(l:Nat):Sx.Scl m n (tL m n a b) (wL m (w l)) (λi j=>vq (a i j)) (λi=>vq (b i)) (λj=>vq (w l j)) (λi=>(sS m a b i:Rat)) (wS0 m (w l):Rat) where
 s:=λi _=>ip (zy I i).1
 w0:=ip (my I l).1
 a:=λi _ j hj=>by
  unfold tL
  rw [if_pos hj]
  exact Ez (I.ha i j).pos (zy I i).1 ((zy I i).2.2.1 j hj)
 b:=λi _=>by
  unfold tL
  rw [if_neg (by omega),if_neg (by omega)]
  exact Ez (I.hb i).pos (zy I i).1 (zy I i).2.2.2
 c:=λj hj=>by
  unfold wL
  rw [if_pos hj,Rat.intCast_neg,Ez (I.hw l j).pos (my I l).1 ((my I l).2.2 j hj)]
theorem J7 {h:Nat->Nat}{t:Nat->Int}{u:Int}(hu:0<u)(i:Nat):∀k,(∀a,a<k->∀b,b<k->h a=h b->a=b)->vq (amR h t u k i)=sr k λr=>if h r=i then (t r:Rat) / (u:Rat) else 0
 |0,_=>vq0
 |k+1,inj=>by
  show vq (if i=h k then low (t k) u else amR h t u k i)=sr k _+if h k=i then _ else 0
  by_cases q:i=h k
  ·rw [if_pos q,if_pos q.symm,wN hu,Sx.nG λr hr=>if_neg λe=>absurd (inj r (by omega) k (by omega) (by rw [e,q])) (by omega)]
   grind
  ·rw [if_neg q,if_neg (Ne.symm q),J7 hu i k λa ha b hb e=>inj a (by omega) b (by omega) e]
   grind
theorem TX (I:cz m n (tL m n a b) D)(j:Nat):vq (wD m n D j)=hx n D (λr=>D.c r (m+n)) j:=by
 unfold wD
 rw [J7 I.pos j n λa ha b hb e=>I.inj ha hb e]
 exact Sx.bM λr hr=>by rw [lB hr (by omega)]
theorem Mp (I:cz m n (tL m n a b) D){q:Nat}(hq:q<m+n)(j:Nat):vq (zj m n D q j)=wx n D q j:=by
 unfold zj BV wx
 split
 ·exact vq1
 ·rw [J7 I.pos j n λa ha b hb e=>I.inj ha hb e]
  exact Sx.bM λr hr=>by rw [lB hr (by omega)]
theorem yf (In':In m n a b w)(I:cz m n (tL m n a b) D){l i:Nat}(hi:i<n):vq (gZ m n a b w D l i)=Sx.yp m n D (wL m (w l)) (λi=>(sS m a b i:Rat)) (wS0 m (w l):Rat) i:=by
 unfold gZ Sx.yp
 rw [wN (Int.mul_pos I.pos (my In' l).1),cw_is (by omega),Rat.intCast_mul,Rat.intCast_mul]
def QL (q:Q2):Prop:=0<q.2/\gI q.1 q.2=1/\BQ 1900 q
theorem Pg {t u:Int}(hu:0<u)(h1:t.natAbs<2 ^ 1900)(h2:u.natAbs<2 ^ 1900):QL (low t u):=⟨nP hu,zP (by omega),Nat.lt_of_le_of_lt (Kl (by omega)) h1,Nat.lt_of_le_of_lt (Ln (by omega)) h2⟩
theorem ql0:QL (0,1):=⟨by decide,by decide,by show (0:Int).natAbs<_;exact Nat.pow_pos (by decide),by show 1<2 ^ 1900;exact Nat.one_lt_two_pow (by decide)⟩
theorem ql1:QL (1,1):=⟨by decide,by decide,by show 1<2 ^ 1900;exact Nat.one_lt_two_pow (by decide),by show 1<2 ^ 1900;exact Nat.one_lt_two_pow (by decide)⟩
theorem QW {h:Nat->Nat}{t:Nat->Int}{u:Int}(hu:0<u)(hu2:u.natAbs<2 ^ 1900)(ht:∀r,(t r).natAbs<2 ^ 1900)(i:Nat):∀j,QL (amR h t u j i)
 |0=>ql0
 |j+1=>by
  show QL (if i=h j then low (t j) u else amR h t u j i)
  split
  ·exact Pg hu (ht j) hu2
  ·exact QW hu hu2 ht i j
theorem Sh (I:In m n a b w)(J:cz m n (tL m n a b) D)(l i:Nat):QL (gZ m n a b w D l i):=by
 obtain ⟨w1,w2,_⟩:=my I l
 exact Pg (Int.mul_pos J.pos w1) (dh (cV (Hy I J l _) (zy I i).2.1) (by decide)) (dh (cV (G8 I J) w2) (by decide))
theorem QH (In':In m n a b w)(I:cz m n (tL m n a b) D)(r j:Nat):(cc m n D r j).natAbs<2 ^ 985:=by
 unfold cc
 split
 ·rename_i z
  exact Nat.lt_of_le_of_lt (Nat.le_trans (I.cle (o9 In').sz z.1 (by omega)) (UJ In')) (by decide)
 ·exact Nat.pow_pos (by decide)
theorem Ac (I:In m n a b w)(J:cz m n (tL m n a b) D)(j:Nat):QL (wD m n D j):=QW J.pos (dh (G8 I J) (by decide)) (λr=>dh (QH I J r _) (by decide)) j n
theorem Q6 (I:In m n a b w)(J:cz m n (tL m n a b) D)(q j:Nat):QL (zj m n D q j):=by
 unfold zj BV
 split
 ·exact ql1
 ·exact QW J.pos (dh (G8 I J) (by decide)) (λr=>by rw [Int.natAbs_neg];exact dh (QH I J r _) (by decide)) j n
abbrev Aq (a:Nat->Nat->Q2):Nat->Nat->Rat:=λi j=>vq (a i j)
abbrev Vq (b:Nat->Q2):Nat->Rat:=λi=>vq (b i)
theorem Qq (J:cz m n (tL m n a b) D):Vq (wD m n D)=hx n D λr=>D.c r (m+n):=funext λj=>TX J j
theorem Hr (I:In m n a b w)(J:cz m n (tL m n a b) D):Sx.Fit m n (Aq a) (Vq b) (Vq (wD m n D)):=by
 rw [Qq J];exact Sx.Wj (o9 I).fst J (yt I 0)
theorem O9 (I:In m n a b w)(J:cz m n (tL m n a b) D){l q:Nat}(hq:q<m+n)(h1:wv n D (wL m (w l)) q<0)(h2:∀r,r<n->D.c r q<=0):Sx.Way m n (Aq a) (Vq (w l)) (Vq (zj m n D q)):=by
 rw [show Vq (zj m n D q)=wx n D q from funext λj=>Mp J hq j]
 exact Sx.Yc (o9 I).fst J ((o9 I).w0 l) (yt I l) hq h1 h2
theorem JN (I:In m n a b w){D1:Crn}(J1:cz m n (tL m n a b) D1)(J:cz m n (tL m n a b) D){l:Nat}(S:Sx.Bs n (wL m (w l)) D1 D)(h:∀j,j<m+n->0<=wv n D (wL m (w l)) j):Sx.xU m n (Aq a) (Vq b) (Vq (w l)) (Vq (wD m n D)) (Vq (gZ m n a b w D1 l)):=by
 have p:=Sx.UG J ((o9 I).w0 l) (yt I l) h
 have e:∀i,i<n->vq (gZ m n a b w D1 l i)=(wv n D (wL m (w l)) (m+i):Rat)*(sS m a b i:Rat) / ((D.b:Rat)*(wS0 m (w l):Rat)):=λi hi=>by
  rw [yf I J1 hi,← S.yp J1.pos J.pos i]
  rfl
 rw [Qq J]
 refine ⟨λi hi=>?_,λj hj=>?_,?_⟩
 ·show 0<=vq _
  rw [e i hi];exact p.nn i hi
 ·rw [Sx.bM λi hi=>by show vq (a i j)*vq (gZ m n a b w D1 l i)=_;rw [e i hi]];exact p.ge j hj
 ·rw [Sx.bM (f:=λi=>vq (b i)*vq (gZ m n a b w D1 l i)) λi hi=>by rw [e i hi]];exact p.eq
theorem Oo {W:Nat->Int}:Sx.Bs n W D D:=λ_=>rfl
theorem Xh {x y:Q2}(hx:0<x.2)(hy:0<y.2):vq (low (x.1*y.1) (x.2*y.2))=vq x*vq y:=by
 rw [wN (Int.mul_pos hx hy),Rat.intCast_mul,Rat.intCast_mul]
 have h1:=ip hx
 have h2:=ip hy
 unfold vq
 grind
theorem Xu {x y:Q2}(hx:0<x.2)(hy:0<y.2):vq (low (x.1*y.2+y.1*x.2) (x.2*y.2))=vq x+vq y:=by
 rw [wN (Int.mul_pos hx hy),Rat.intCast_add,Rat.intCast_mul,Rat.intCast_mul,Rat.intCast_mul]
 have h1:=ip hx
 have h2:=ip hy
 unfold vq
 grind
theorem K8 {L:Q2}{p0 p1:Nat->Q2}{i:Nat}(hL:0<L.2)(h0:0<(p0 i).2)(h1:0<(p1 i).2):vq (wG L p0 p1 i)=vq (p1 i)+vq L*vq (p0 i):=by
 unfold wG
 rw [Xu h1 (nP (Int.mul_pos hL h0)),Xh hL h0]
theorem Zm {q:Q2}{t u:Int}(hq:0<q.2)(hg:gI q.1 q.2=1)(hu:0<u)(h:vq q=(t:Rat) / (u:Rat)):q.1.natAbs<=t.natAbs/\q.2.natAbs<=u.natAbs:=by
 have e:=(VJ hq (nP (t:=t) hu)).mp (h.trans (wN hu).symm)
 obtain ⟨e1,e2⟩:=Iv (p:=q.1) (q:=q.2) (r:=lt t u) (s:=lb t u) (by omega) (JB (by omega)) hg (zP (by omega)) e
 rw [e1,e2]
 exact ⟨Kl (by omega),Ln (by omega)⟩
theorem Xe (I:In m n a b w)(J:cz m n (tL m n a b) D){j q:Nat}(hj:j<=m+n)(hq:q<=m+n):(Sx.two n (tL m n a b) D (wL m (w 0)) (wL m (w 1)) j q).natAbs<2 ^ 1240:=by
 have P:=o9 I
 have h8:=I.n8
 refine Nat.lt_of_le_of_lt (Sx.Vs P.sz J (P.wz 0) (P.wz 1) hj hq) ?_
 have e1:n*n<=8*8:=Nat.mul_le_mul h8 h8
 have e2:Sx.fct n*(2 ^ 121) ^ n*(2 ^ 121*2 ^ 121)<=40320*2 ^ 968*(2 ^ 121*2 ^ 121):=Nat.mul_le_mul_right _ (UJ I)
 exact Nat.lt_of_le_of_lt (Nat.mul_le_mul (show 2+4*n+n*n<=98 by omega) e2) (by decide)
theorem frac2 {b s w0 w1 A0 A1 G C E:Rat}(hb:0<b)(h0:0<w0)(h1:0<w1)(hC:0<C)(h:b*E=A1*C-G*A0):A1*s / (b*w1) + -G*w0 / (C*w1)*(A0*s / (b*w0))=s*E / (w1*C):=by
 have e:E=(A1*C-G*A0) / b:=by grind
 rw [e]
 grind
theorem Yn (I:In m n a b (uv u v)){D1:Crn}(J1:cz m n (tL m n a b) D1)(J:cz m n (tL m n a b) D)(S:Sx.Bs n (wL m u) D1 D){L:Q2}(li:qN (m+n) (cw m n (λl=>wL m (uv u v l)) D) (λl=>wS0 m (uv u v l)) (m+n) L){i:Nat}(hi:i<n):
  QL (wG L (gZ m n a b (uv u v) D1 0) (gZ m n a b (uv u v) D 1) i):=by
 obtain ⟨p0,q0⟩:=yw I J1 0 i
 obtain ⟨p1,q1⟩:=yw I J 1 i
 have hp:=Int.mul_pos p1 (nP (t:=L.1*(gZ m n a b (uv u v) D1 0 i).1) (Int.mul_pos li.pos p0))
 have ov:=K8 (p0:=gZ m n a b (uv u v) D1 0) (p1:=gZ m n a b (uv u v) D 1) li.pos p0 p1
 have op:0<(wG L (gZ m n a b (uv u v) D1 0) (gZ m n a b (uv u v) D 1) i).2:=nP hp
 have og:gI (wG L (gZ m n a b (uv u v) D1 0) (gZ m n a b (uv u v) D 1) i).1 (wG L (gZ m n a b (uv u v) D1 0) (gZ m n a b (uv u v) D 1) i).2=1:=zP (by omega)
 rw [yf I J hi,yf I J1 hi] at ov
 have st:=S.yp (m:=m) (S:=λi=>(sS m a b i:Rat)) (w:=(wS0 m u:Rat)) J1.pos J.pos i
 have st:Sx.yp m n D1 (wL m (uv u v 0)) (λi=>(sS m a b i:Rat)) (wS0 m (uv u v 0):Rat) i=Sx.yp m n D (wL m u) (λi=>(sS m a b i:Rat)) (wS0 m u:Rat) i:=st.symm
 rw [st] at ov
 refine ⟨op,og,?_⟩
 generalize wG L (gZ m n a b (uv u v) D1 0) (gZ m n a b (uv u v) D 1) i=o at *
 obtain ⟨w1,w2,_⟩:=my I 1
 have v0:=(my I 0).1
 have s1:=zy I i
 have hb:=ip J.pos
 rcases li.at' with e | ⟨q,hq,g1,g2,e⟩
 ·rw [e,vq0] at ov
  have ov2:vq o=((wv n D (wL m (uv u v 1)) (m+i)*sS m a b i:Int):Rat) / ((D.b*wS0 m (uv u v 1):Int):Rat):=by
   rw [ov,Rat.zero_mul,Rat.add_zero,Rat.intCast_mul,Rat.intCast_mul]
   rfl
  obtain ⟨k1,k2⟩:=Zm op og (Int.mul_pos J.pos w1) ov2
  have c:=Hy I J 1 (m+i)
  rw [cw_is (by omega)] at c
  exact ⟨Nat.lt_of_le_of_lt k1 (dh (cV c s1.2.1) (by decide)),Nat.lt_of_le_of_lt k2 (dh (cV (G8 I J) w2) (by decide))⟩
 ·rw [cw_is (by omega)] at g1 g2
  rw [cw_is (by omega),cw_is (by omega)] at e
  have te:=Sx.WR (W0:=wL m u) (W1:=wL m (uv u v 1)) (j:=m+i) (q:=q) J
  have te':(D.b:Rat)*((Sx.two n (tL m n a b) D (wL m u) (wL m (uv u v 1)) (m+i) q:Int):Rat)=(wv n D (wL m (uv u v 1)) (m+i):Rat)*(wv n D (wL m u) q:Rat)-(wv n D (wL m (uv u v 1)) q:Rat)*(wv n D (wL m u) (m+i):Rat):=by exact_mod_cast te
  have g2:0<wv n D (wL m u) q:=g2
  have fr:=frac2 (s:=(sS m a b i:Rat)) hb (ip v0) (ip w1) (ip g2) te'
  have eL:vq L=-(wv n D (wL m (uv u v 1)) q:Rat)*(wS0 m (uv u v 0):Rat) / ((wv n D (wL m u) q:Rat)*(wS0 m (uv u v 1):Rat)):=by
   rw [e]
   refine (wN (Int.mul_pos (show 0<wv n D (wL m (uv u v 0)) q from g2) w1)).trans ?_
   rw [Rat.intCast_mul,Rat.intCast_neg,Rat.intCast_mul]
   rfl
  rw [eL] at ov
  have ov2:vq o=((sS m a b i*Sx.two n (tL m n a b) D (wL m u) (wL m (uv u v 1)) (m+i) q:Int):Rat) / ((wS0 m (uv u v 1)*wv n D (wL m u) q:Int):Rat):=by
   rw [Rat.intCast_mul,Rat.intCast_mul,← fr]
   exact ov
  obtain ⟨k1,k2⟩:=Zm op og (Int.mul_pos w1 g2) ov2
  have c:=Hy I J 0 q
  rw [cw_is (by omega)] at c
  exact ⟨Nat.lt_of_le_of_lt k1 (dh (cV s1.2.1 (Xe I J (by omega) (by omega))) (by decide)),Nat.lt_of_le_of_lt k2 (dh (cV w2 c) (by decide))⟩
theorem Zk (I:In m n a b (uv u v)){D1:Crn}(J1:cz m n (tL m n a b) D1)(J:cz m n (tL m n a b) D)(S:Sx.Bs n (wL m u) D1 D)(hz:∀j,j<m+n->0<=wv n D (wL m u) j)(hp:∀j,j<m+n->wv n D (wL m v) j<0->0<wv n D (wL m u) j){L:Q2}(li:qN (m+n) (cw m n (λl=>wL m (uv u v l)) D) (λl=>wS0 m (uv u v l)) (m+n) L):
  Sx.Nxt m n (Aq a) (Vq b) (Vq u) (Vq v) (Vq (wD m n D)) (Vq (wG L (gZ m n a b (uv u v) D1 0) (gZ m n a b (uv u v) D 1))) (vq L):=by
 have P:=o9 I
 have l0:0<=vq L:=by
  have:=(Af (x:=(0,1)) (y:=L) (by decide) li.pos).mpr (by have:=li.nn;simp;exact this)
  rwa [vq0] at this
 have v0:=ip (my I 0).1
 have v1:=ip (my I 1).1
 have N:=Sx.Yu (W0:=wL m u) (W1:=wL m v) J (P.w0 0) (P.w0 1) (yt I 0) (yt I 1) l0 λj hj=>by
  have z0:(0:Rat)<=(wv n D (wL m u) j:Rat):=by exact_mod_cast hz j hj
  have z1:0<=vq L*((wv n D (wL m u) j:Rat)*(wS0 m (uv u v 1):Rat)):=Rat.mul_nonneg l0 (Rat.mul_nonneg z0 (Rat.le_of_lt v1))
  by_cases c:wv n D (wL m v) j<0
  ·have g:=li.ge j hj (by rw [cw_is (by omega)];exact c)
   rw [cw_is (by omega),cw_is (by omega)] at g
   have g:((-(wv n D (wL m v) j)*wS0 m (uv u v 0):Int):Rat) / ((wv n D (wL m u) j*wS0 m (uv u v 1):Int):Rat)<=vq L:=g
   have C0:(0:Rat)<((wv n D (wL m u) j*wS0 m (uv u v 1):Int):Rat):=ip (Int.mul_pos (hp j hj c) (my I 1).1)
   have g2:=Rat.mul_le_mul_of_nonneg_left g (Rat.le_of_lt C0)
   rw [Rat.intCast_mul] at C0
   rw [Rat.intCast_mul,Rat.intCast_mul,Rat.intCast_neg] at g2
   have g3:(wv n D (wL m u) j:Rat)*(wS0 m (uv u v 1):Rat)*(-(wv n D (wL m v) j:Rat)*(wS0 m (uv u v 0):Rat) / ((wv n D (wL m u) j:Rat)*(wS0 m (uv u v 1):Rat)))=-(wv n D (wL m v) j:Rat)*(wS0 m (uv u v 0):Rat):=by grind
   rw [g3] at g2
   grind
  ·have z2:(0:Rat)<=(wv n D (wL m v) j:Rat):=by exact_mod_cast (show 0<=wv n D (wL m v) j by omega)
   have z3:0<=(wv n D (wL m v) j:Rat)*(wS0 m (uv u v 0):Rat):=Rat.mul_nonneg z2 (Rat.le_of_lt v0)
   grind
 have e:∀i,i<n->vq (wG L (gZ m n a b (uv u v) D1 0) (gZ m n a b (uv u v) D 1) i)=Sx.yp m n D (wL m v) (λi=>(sS m a b i:Rat)) (wS0 m (uv u v 1):Rat) i+vq L*Sx.yp m n D (wL m u) (λi=>(sS m a b i:Rat)) (wS0 m (uv u v 0):Rat) i:=λi hi=>by
  rw [K8 li.pos (yw I J1 0 i).1 (yw I J 1 i).1,yf I J hi,yf I J1 hi]
  have st:=S.yp (m:=m) (S:=λi=>(sS m a b i:Rat)) (w:=(wS0 m u:Rat)) J1.pos J.pos i
  show _+vq L*Sx.yp m n D1 (wL m u) _ (wS0 m u:Rat) i=_+vq L*Sx.yp m n D (wL m u) _ (wS0 m u:Rat) i
  rw [st]
  rfl
 rw [Qq J]
 refine ⟨λi hi=>?_,N.l0,λj hj=>?_,?_⟩
 ·show 0<=vq _
  rw [e i hi];exact N.nn i hi
 ·rw [Sx.bM λi hi=>by show vq (a i j)*vq (wG L _ _ i)=_;rw [e i hi]];exact N.ge j hj
 ·rw [Sx.bM (f:=λi=>Vq b i*vq (wG L (gZ m n a b (uv u v) D1 0) (gZ m n a b (uv u v) D 1) i)) λi hi=>by rw [e i hi]];exact N.eq
end
open Sx (sr)
theorem Ra {a b:Int}(hb:0<b):gI b (a % b)=gI a b:=by
 unfold gI
 rw [Int.gcd_comm a b]
 have:Int.gcd b (a % b)=Int.gcd b a:=by
  have e:a=a % b+b*(a / b):=by have:=Int.emod_add_mul_ediv a b;omega
  apply Nat.dvd_antisymm
  ·refine Int.dvd_gcd ?_ ?_
   ·exact Int.gcd_dvd_left _ _
   ·have h1:((Int.gcd b (a % b):Nat):Int) ∣ a % b:=Int.gcd_dvd_right _ _
    have h2:((Int.gcd b (a % b):Nat):Int) ∣ b*(a / b):=Int.dvd_mul_of_dvd_left (Int.gcd_dvd_left _ _)
    have h3:=Int.dvd_add h1 h2
    rwa [← e] at h3
  ·refine Int.dvd_gcd (Int.gcd_dvd_left _ _) ?_
   have h1:((Int.gcd b a:Nat):Int) ∣ a:=Int.gcd_dvd_right _ _
   have h2:((Int.gcd b a:Nat):Int) ∣ b*(a / b):=Int.dvd_mul_of_dvd_left (Int.gcd_dvd_left _ _)
   have h3:=Int.dvd_sub h1 h2
   rwa [show a-b*(a / b)=a % b by omega] at h3
 rw [this]
theorem Vh:∀(n:Nat) (a b:Int),b.toNat=n->0<=b->(0<=a\/0<b)->∃k,wh mD ni k [.fz (.int a),.fz (.int b)] =
  some (.ok (.nx,[.fz (.int (gI a b)),.fz (.int 0)])):=by
 intro n
 induction n using Nat.strongRecOn with
 |_ n ih=>
  intro a b hn hb hab
  by_cases h0:b=0
  ·subst h0
   refine ⟨1,?_⟩
   rw [Lf (by omega)]
   exact Gw rfl
  ·have hb':0<b:=by omega
   have hm:=Int.emod_lt_of_pos a hb'
   have hm0:=Int.emod_nonneg a h0
   obtain ⟨k,e⟩:=ih (a % b).toNat (by omega) b (a % b) rfl hm0 (.inl hb)
   rw [Ra hb'] at e
   refine ⟨k+1,zY (m':=[.fz (.int b),.fz (.int (a % b))]) ?_ ?_ e⟩
   ·simp [mD,aQ,aj,fC,h0]
   ·simp [ni,Wq,aa,az,aA,aj,aD,fY,mdI,h0,hb']
theorem Ah {a b:Int}(hb:0<b):fX [.int a,.int b]=.ok (false,.int (gI a b)):=by
 obtain ⟨k,e⟩:=Vh _ a b rfl (by omega) (.inr hb)
 have e2:=vP k e
 have h:¬gI a b<0:=by have:=V2 a b;omega
 simp [fX,c7,qK,p8,sO,aU,bJ,aa,az,aj,DY,e2,bT,Me.let,Sl.let,h]
theorem Dg {t b:Int}(hb:0<b)(hB:Bq b):jX [.int t,.int b]=.ok (false,qD (low t b)):=by
 have hg:gI t b≠0:=by have:=uo (a:=t) (b:=b) (by omega);omega
 simp [hg,jX,c7,rZ,rK,aU,bf,fFn,aa,az,aD,aj,Ah hb,bT,Me.let,Sl.let,gm,aA,jL,Sq hb hB,Qi hb,Rf hb,qD,low]
theorem cell_eq (ns:List Int)(k:Nat):bu [.lst (ns.map D.int),.int k]=.ok (false,.int (ns.getD k 0)):=by
 by_cases h:k<ns.length
 ·have h':(k:Int)<ns.length:=by omega
  simp [bu,c7,lX,lR,aU,gIf,aQ,aj,bJ,aa,az,fH,gLt,h,h',bT,Me.let,Sl.let,aA,gIx,atI,ixN]
 ·have h':¬(k:Int)<ns.length:=by omega
  have:ns.getD k 0=0:=by rw [List.getD_eq_getElem?_getD,List.getElem?_eq_none (by omega)];rfl
  simp [bu,c7,lX,lR,aU,gIf,aQ,aj,bJ,aa,az,fH,gLt,h,h',bT,Me.let,Sl.let,fC,gNx,List.getElem?_eq_none (show ns.length<=k by omega)]
def pick (c:Int):Int:=if c % 6=1\/c % 6=5 then 1 else if c % 6=3 then -1 else 0
theorem TY (c:Int):gIx (.lst [.int 0,.int 1,.int 0,.int (-1),.int 0,.int 1]) (.int (c % 6))=some (.int (pick c)):=by
 unfold pick
 have h:c % 6=0\/c % 6=1\/c % 6=2\/c % 6=3\/c % 6=4\/c % 6=5:=by omega
 rcases h with h | h | h | h | h | h<;>(rw [h];rfl)
def xN (c s:Int):Q2:=if s=0 then (c % 6 - 2,1) else if s=1 then (pick c,1) else if s=2 then low (c % 601 - 200) (1+c / 601 % 30) else low (c % 2000000000 - 1000000000) (1+c / 7 % 997)
theorem Qp {t b:Int}(hb:0<b)(h1:t.natAbs<2 ^ 30)(h2:b.natAbs<2 ^ 10):cU (low t b):=by
 have n:b≠0:=by omega
 have p:=JB (t:=t) n
 exact ⟨by show 0<lb t b;omega,Nat.lt_of_le_of_lt (Ln n) h2,Nat.lt_of_le_of_lt (Kl n) h1⟩
theorem Ve {t:Int}(h:t.natAbs<1073741824):cU (t,1):=⟨by show (0:Int)<1;decide,by show (1:Int).natAbs<1024;decide,h⟩
theorem Ao (c s:Int):cU (xN c s):=by
 unfold xN
 split
 ·exact Ve (by omega)
 ·split
  ·exact Ve (by unfold pick;split<;>(try split)<;>decide)
  ·split
   ·exact Qp (by omega) (by show _<1073741824;omega) (by show _<1024;omega)
   ·exact Qp (by omega) (by show _<1073741824;omega) (by show _<1024;omega)
theorem vO (c s:Int):cN [.int c,.int s]=.ok (false,qD (xN c s)):=by
 unfold xN
 have b1:Bq (1+c / 601 % 30):=pU (k:=10) (by show _<1024;omega)
 have b2:Bq (1+c / 7 % 997):=pU (k:=10) (by show _<1024;omega)
 have p1:0<1+c / 601 % 30:=by omega
 have p2:0<1+c / 7 % 997:=by omega
 have c1:Bq 601:=pU (k:=10) (by decide)
 have c3:Bq 7:=pU (k:=10) (by decide)
 have c4:Bg 2:=dD (k:=10) (by decide)
 have c5:Bg (10 ^ 9):=dD (k:=50) (by decide)
 have c6:Bg 1000000000:=dD (k:=50) (by decide)
 by_cases h0:s=0
 ·subst h0
  simp [cN,c7,iZ,iV,aU,aA,aj,fC,fY,mdI,gIf,aQ,bT,Me.let,Sl.let,gm,aa,az,F.yP,qD]
 ·by_cases h1:s=1
  ·subst h1
   have e:=TY c
   simp [cN,c7,iZ,iV,aU,aA,aj,fC,fY,mdI,gIf,aQ,bT,Me.let,Sl.let,gm,jr,fUn,rJ,aa,az,gNx,e,qD]
  ·by_cases h2:s=2
   ·subst h2
    simp [cN,c7,iZ,iV,aU,aA,aj,fC,fY,mdI,gIf,aQ,bT,Me.let,Sl.let,fFn,aa,az,jL,dvI,F.yP,eX,c1,gNx,Dg p1 b1]
   ·simp [cN,c7,iZ,iV,aU,aA,aj,fC,fY,mdI,gIf,aQ,h0,h1,h2,bT,Me.let,Sl.let,fFn,aa,az,jL,dvI,F.yP,eX,eV,Ue,c3,c4,c5,c6,gNx,Dg p2 b2]
def Z3 (q:Q2):Q2:=(if q.1<0 then -q.1 else q.1,q.2)
def Hq (c s z:Int):Q2:=if z=1/\c % 4<3 then (0,1) else Z3 (xN (c / 4) s)
theorem Rr (c s z:Int):cU (Hq c s z)/\0<=(Hq c s z).1:=by
 unfold Hq
 split
 ·exact ⟨Ve (by decide),by decide⟩
 ·have h:=Ao (c / 4) s
  refine ⟨⟨h.pos,h.b2,?_⟩,?_⟩
  ·show Int.natAbs (ite _ _ _)<_
   have:=h.b1
   split<;>omega
  ·show 0<=ite _ _ _
   split<;>omega
theorem RK (c s z:Int):iu [.int c,.int s,.int z]=.ok (false,qD (Hq c s z)):=by
 have c3:Bq 4:=pU (k:=10) (by decide)
 have hm:∀q:Q2,qD (Z3 q)=.tup [.int (if q.1<0 then -q.1 else q.1),.int q.2]:=λ_=>rfl
 have e:=vO (c / 4) s
 unfold Hq
 by_cases h0:z=1
 ·by_cases h1:c % 4<3
  ·simp [iu,c7,lE,lM,aU,gIf,kW,aQ,aA,aj,fC,fY,mdI,gLt,h0,h1,bT,Me.let,Sl.let,gm,aa,az,qD]
  ·rw [if_neg (λw=>h1 w.2),hm]
   simp [iu,c7,lE,lM,aU,gIf,kW,aQ,aA,aj,fC,fY,mdI,gLt,h0,h1,bT,Me.let,Sl.let,gm,aa,az,gNx,bf,fFn,aD,jL,dvI,c3,e,qD,bJ,DY,gIx,ix0,ix1]
 ·rw [if_neg (λw=>h0 w.1),hm]
  simp [iu,c7,lE,lM,aU,gIf,kW,aQ,aA,aj,fC,fY,mdI,h0,bT,Me.let,Sl.let,gm,aa,az,gNx,bf,fFn,aD,jL,dvI,c3,e,qD,bJ,DY,gIx,ix0,ix1]
theorem eZ {t:Me->Res Bool}{g k:Me->Res (Fl×Me)}{m:Me}(h:t m=.ok false):aU (gIf t g gNx) k m=k m:=by
 unfold aU gIf
 rw [h]
 rfl
theorem zK {t:Me->Res Bool}{g k:Me->Res (Fl×Me)}{m m':Me}{fr:Bool}{d:D}(h:t m=.ok true)(h2:g m=.ok (.rt fr d,m')):aU (gIf t g gNx) k m=.ok (.rt fr d,m'):=by
 unfold aU gIf
 rw [h,Res.bh,if_pos rfl,h2]
theorem zc {t u:Me->Res Bool}{m:Me}(h:t m=.ok false)(h2:u m=.ok false):oh t u m=.ok false:=by
 unfold oh
 rw [h,Res.bh]
 exact h2
theorem jE {f:Me->Res D}{m:Me}(h:f m=.ok (.bl true)):iU (fTv f) m=.ok false:=by
 unfold iU fTv
 rw [h]
 rfl
theorem LR {f:Nat->D}(h:∀i,okD (f i)=true):∀l:List Nat,zG (l.map f)=true
 |[]=>by simp [zG]
 |i::l=>by simp [zG,h i,LR h l]
theorem Fx {f:Nat->D}{k:Nat}(h:∀i,qL (f i)<=k):∀l:List Nat,sH (l.map f)<=k
 |[]=>by simp [sH]
 |i::l=>by
  have h1:=h i
  have h2:=Fx h l
  simp [sH];omega
theorem Zr (q:Q2):okD (qD q)=true:=by simp [qD,okD,zG]
theorem Xd (q:Q2):qL (qD q)=1:=by simp [qD,qL,sH]
def QOk (q:Q2):Prop:=0<q.2/\gI q.1 q.2=1/\0<=q.1
theorem M6 {q:Q2}{L M:D}{z:Sl}(h:QOk q):nO [.fz L,.fz M,.fz (qD q),z]=.ok (.nx,[.fz L,.fz M,.fz (qD q),.fz (.int q.2)]):=by
 obtain ⟨h1,h2,h3⟩:=h
 have e:=Ah (a:=q.1) h1
 rw [h2] at e
 have k1:¬q.1<0:=by omega
 have k2:¬q.2<1:=by omega
 simp [nO,aU,gIf,oh,iU,fTv,Ga,aj,qD,pX,Wg,aQ,bJ,fH,aa,az,fC,gNx,wg,lZ,Ji,aD,jF,hName,vZ,aA,gIx,ix0,ix1,gLt,k1,k2,fFn,e]
theorem list_eq {n:Nat}{q:Nat->Q2}(h:∀i,i<n->QOk (q i)):dI [au n q,.int n]=.ok (false,.bl true):=by
 obtain ⟨m',e,z,y,em⟩:=lV (n:=n) (f:=λi=>qD (q i)) (h:=hName 2) (k:=nO) (m:=[.fz (au n q),.fz (.int n),.un,.un]) (λ_ m=>∃z y,m=[.fz (au n q),.fz (.int n),z,y]) ⟨_,_,rfl⟩ λi m hi ⟨z,y,em⟩=>by
  subst em
  exact ⟨_,_,rfl,M6 (h i hi),_,_,rfl⟩
 subst em
 have eL:wj [.fz (au n q),.fz (.int n),.un,.un]=.ok (.nx,[.fz (au n q),.fz (.int n),z,y]):=e
 have el:fH [au n q]=some (.int n):=by simp [fH,au,bD]
 have ek:(Ga "list" (aj 0)) [.fz (au n q),.fz (.int n),.un,.un]=.ok (.bl true):=rfl
 generalize au n q=RR at *
 simp [dI,c7,uQ,uG,aU,gIf,oh,iU,fTv,ek,aj,aQ,bJ,el,aa,az,gNx,eL,bT,Me.let,Sl.let,fC]
def lsQ (x y:Q2):Q2:=(x.1*y.2-y.1*x.2,x.2*y.2)
def tmQ (x y:Q2):Q2:=(x.1*y.1,x.2*y.2)
theorem BQ.bg {k:Nat}{q:Q2}(h:BQ k q)(hk:k<=60000):Bg q.1/\Bg q.2:=⟨dD h.1 hk,dD h.2 hk⟩
theorem V5 {i j:Nat}{x y:Q2}(hx:BQ i x)(hy:BQ j y):BQ (i+j+1) (lsQ x y):=by
 have h1:=cV hx.1 hy.2
 have h2:=cV hy.1 hx.2
 rw [Nat.add_comm j i] at h2
 exact ⟨sub_lt h1 h2,dh (cV hx.2 hy.2) (by omega)⟩
theorem VV {i j:Nat}{x y:Q2}(hx:BQ i x)(hy:BQ j y):BQ (i+j) (tmQ x y):=⟨cV hx.1 hy.1,cV hx.2 hy.2⟩
theorem qW {x y:Q2}{i j:Nat}(hx:BQ i x)(hy:BQ j y)(hi:i<=60000:=by decide)(hj:j<=60000:=by decide):bF [qD x,qD y]=.ok (false,qD (lsQ x y)):=by
 obtain ⟨h1,h2⟩:=hx.bg hi
 obtain ⟨h3,h4⟩:=hy.bg hj
 simp [bF,c7,uL,uC,bT,Me.let,Sl.let,gm,aa,az,aA,aj,qD,fC,gIx,ix0,ix1,eV,F.yP,h1,h2,h3,h4,lsQ]
theorem Du {x y:Q2}{i j:Nat}(hx:BQ i x)(hy:BQ j y)(hi:i<=60000:=by decide)(hj:j<=60000:=by decide):gr [qD x,qD y]=.ok (false,qD (tmQ x y)):=by
 obtain ⟨h1,h2⟩:=hx.bg hi
 obtain ⟨h3,h4⟩:=hy.bg hj
 simp [gr,c7,tM,tR,bT,Me.let,Sl.let,gm,aa,az,aA,aj,qD,fC,gIx,ix0,ix1,eV,h1,h2,h3,h4,tmQ]
theorem uY {x y:Q2}(hx:0<x.2)(hy:0<y.2):0<(lsQ x y).2/\vq (lsQ x y)=vq x-vq y:=by
 refine ⟨Int.mul_pos hx hy,?_⟩
 have h1:=ip hx
 have h2:=ip hy
 unfold vq lsQ
 show ((x.1*y.2-y.1*x.2:Int):Rat) / ((x.2*y.2:Int):Rat)=_
 rw [Rat.intCast_sub,Rat.intCast_mul,Rat.intCast_mul,Rat.intCast_mul]
 grind
theorem tm_val {x y:Q2}(hx:0<x.2)(hy:0<y.2):0<(tmQ x y).2/\vq (tmQ x y)=vq x*vq y:=by
 refine ⟨Int.mul_pos hx hy,?_⟩
 have h1:=ip hx
 have h2:=ip hy
 unfold vq tmQ
 show ((x.1*y.1:Int):Rat) / ((x.2*y.2:Int):Rat)=_
 rw [Rat.intCast_mul,Rat.intCast_mul]
 grind
theorem Pr {q:Q2}(h:0<q.2):vq q<=0↔q.1<=0:=by
 have:=Af (x:=q) (y:=(0,1)) h (by decide)
 rw [vq0] at this
 simpa using this
theorem QK {q:Q2}(h:0<q.2):0<=vq q↔0<=q.1:=by
 have:=Af (x:=(0,1)) (y:=q) (by decide) h
 rw [vq0] at this
 simpa using this
theorem Vk {q:Q2}(h:0<q.2):vq q=0↔q.1=0:=by
 have:=VJ (x:=q) (y:=(0,1)) h (by decide)
 rw [vq0] at this
 simpa using this
theorem cU.sz {q:Q2}(h:cU q):BQ 30 q:=⟨h.b1,dh h.b2 (by decide)⟩
theorem Hz {q:Q2}(h:QL q)(hn:0<=vq q):QOk q:=⟨h.1,h.2.1,(QK h.1).mp hn⟩
theorem ZF {f:Me->Res D}{q:Q2}{s:Me}(h:f s=.ok (qD q)):aQ gGt (aA gIx f (fC (.int 0))) (fC (.int 0)) s=.ok (decide (0<q.1)):=by
 unfold aQ aA
 rw [h]
 rfl
theorem Yx {f:Me->Res D}{q:Q2}{s:Me}(h:f s=.ok (qD q)):aQ gLt (aA gIx f (fC (.int 0))) (fC (.int 0)) s=.ok (decide (q.1<0)):=by
 unfold aQ aA
 rw [h]
 rfl
theorem V7 {f:Me->Res D}{q:Q2}{s:Me}(h:f s=.ok (qD q))(hx:0<q.1):iI gGt (aA gIx f (fC (.int 0))) (fC (.int 0)) s=.ok (.bl true):=by
 unfold iI aA
 rw [h]
 show Res.ok (D.bl (decide (0<q.1)))=_
 rw [decide_eq_true hx]
theorem Kw {f:Me->Res D}{q:Q2}{s:Me}(h:f s=.ok (qD q))(hx:q.1=0):iI gEq (aA gIx f (fC (.int 0))) (fC (.int 0)) s=.ok (.bl true):=by
 unfold iI aA
 rw [h]
 show Res.ok (D.bl (decide (q.1=0)))=_
 rw [decide_eq_true hx]
section
variable {m n:Nat}{a:Nat->Nat->Q2}{b u v x y z d:Nat->Q2}{L:Q2}
theorem jx {k:Nat}{p q:Nat->Q2}(hk:k<=8)(hp:∀i,cU (p i))(hq:∀i,QL (q i)):aW [au k p,au k q]=.ok (false,qD (dt p q k))/\BQ 15449 (dt p q k)/\0<(dt p q k).2/\vq (dt p q k)=sr k λi=>vq (p i)*vq (q i):=by
 obtain ⟨h1,h2⟩:=Qf (λi=>(hp i).sz) (λi=>(hq i).2.2) k
 obtain ⟨d1,d2⟩:=Pq (u:=p) (v:=q) (λj=>(hp j).pos) (λj=>(hq j).1) k
 exact ⟨Xx hk (λj=>(hp j).sz) (λj=>(hq j).2.2),⟨dh h1 (by omega),dh h2 (by omega)⟩,d1,d2⟩
theorem Tt (hm:m<=8)(ha:∀r i,cU (a r i))(hb:∀r,cU (b r))(hx:∀j,QL (x j))(hf:Sx.Fit m n (Aq a) (Vq b) (Vq x)):oA [aK m n a,aO n b,au m x]=.ok (false,.bl true):=by
 obtain ⟨m',e,x3,x4,em⟩:=lV (n:=n) (f:=λi=>.tup [au m (a i),qD (b i)]) (h:=nZ 2 (cL (hName 3) (cL (hName 4) nW))) (k:=rT) (m:=[.fz (aK m n a),.fz (aO n b),.fz (au m x),.un,.un]) (λi s=>∃x3 x4,s=[.fz (aK m n a),.fz (aO n b),.fz (au m x),x3,x4]) ⟨_,_,rfl⟩ λi s hi ⟨x3,x4,es⟩=>by
  subst es
  obtain ⟨ed,eb,ep,ev⟩:=jx hm (ha i) hx
  have el:=qW eb (hb i).sz
  obtain ⟨lp,lv⟩:=uY ep (hb i).pos
  have hz:¬0<(lsQ (dt (a i) x m) (b i)).1:=by
   have h1:vq (lsQ (dt (a i) x m) (b i))<=0:=by
    have:=hf.le i hi
    rw [lv,ev]
    grind
   have:=(Pr lp).mp h1
   omega
  refine ⟨[.fz (aK m n a),.fz (aO n b),.fz (au m x),.fz (au m (a i)),.fz (qD (b i))],[.fz (aK m n a),.fz (aO n b),.fz (au m x),.fz (au m (a i)),.fz (qD (b i))],rfl,?_,_,_,rfl⟩
  unfold rT gIf
  rw [show aQ gGt (aA gIx (fFn bF (aa (fFn aW (aa (aD 3) (aa (aD 2) az))) (aa (aD 4) az))) (fC (.int 0))) (fC (.int 0)) [.fz (aK m n a),.fz (aO n b),.fz (au m x),.fz (au m (a i)),.fz (qD (b i))]=_ from ZF (b8 (bA (b8 (ds:=[au m (a i),au m x]) rfl ed) (ds:=[qD (b i)]) rfl) el),decide_eq_false hz]
  rfl
 subst em
 have eL:rO [.fz (aK m n a),.fz (aO n b),.fz (au m x),.un,.un]=.ok (.nx,[.fz (aK m n a),.fz (aO n b),.fz (au m x),x3,x4]):=by
  unfold rO lZ
  rw [show qC (aa (aD 0) (aa (aD 1) az)) [.fz (aK m n a),.fz (aO n b),.fz (au m x),.un,.un]=.ok (rg n λi=>.tup [au m (a i),qD (b i)]) by
   simp [qC,aa,az,aD,aK,aO,wQ]]
  exact e
 have eg:qO [.fz (aK m n a),.fz (aO n b),.fz (au m x),.un,.un]=.ok (.rt false (.bl true),Me.let [.fz (aK m n a),.fz (aO n b),.fz (au m x),x3,x4]):=by
  unfold qO uU
  rw [aZ eL]
  rfl
 exact dX rfl eg
theorem M3 {k:Nat}{u:Nat->Q2}{s:Me}{f:Me->Res D}(h:f s=.ok (au k u)):(bJ fH (aa f az)) s=.ok (.int k):=by
 simp [bJ,aa,az,h,fH,au,bD]
theorem HY {s:Me}{i:Nat}(h:aj i s=.ok (aK m n a)):(bJ fH (aa (aj i) az)) s=.ok (.int n):=by
 simp [bJ,aa,az,h,fH,aK,bD]
theorem Dw (hm:m<=8)(ha:∀r i,cU (a r i))(hd:∀j,QL (d j)){C:Nat->Rat}(hw:Sx.Way m n (Aq a) C (Vq d)):jW [aK m n a,au m u,au m d]=.ok (false,.bl true):=by
 obtain ⟨m',e,x3,em⟩:=lV (n:=n) (f:=λi=>au m (a i)) (h:=hName 3) (k:=oN) (m:=[.fz (aK m n a),.fz (au m u),.fz (au m d),.un]) (λi s=>∃x3,s=[.fz (aK m n a),.fz (au m u),.fz (au m d),x3]) ⟨_,rfl⟩ λi s hi ⟨x3,es⟩=>by
  subst es
  obtain ⟨ed,eb,ep,ev⟩:=jx hm (ha i) hd
  have hz:¬0<(dt (a i) d m).1:=by
   have:=(Pr ep).mp (by rw [ev];exact hw.le i hi)
   omega
  refine ⟨[.fz (aK m n a),.fz (au m u),.fz (au m d),.fz (au m (a i))],[.fz (aK m n a),.fz (au m u),.fz (au m d),.fz (au m (a i))],rfl,?_,_,rfl⟩
  unfold oN gIf
  rw [show aQ gGt (aA gIx (fFn aW (aa (aD 3) (aa (aD 2) az))) (fC (.int 0))) (fC (.int 0)) [.fz (aK m n a),.fz (au m u),.fz (au m d),.fz (au m (a i))]=_ from ZF (b8 (ds:=[au m (a i),au m d]) rfl ed),decide_eq_false hz]
  rfl
 subst em
 have l1:=list_eq (n:=m) (q:=d) λi hi=>Hz (hd i) (hw.nn i hi)
 have eL:uw [.fz (aK m n a),.fz (au m u),.fz (au m d),.un]=.ok (.nx,[.fz (aK m n a),.fz (au m u),.fz (au m d),x3]):=e
 have eg:nM [.fz (aK m n a),.fz (au m u),.fz (au m d),.un]=.ok (.rt false (.bl true),Me.let [.fz (aK m n a),.fz (au m u),.fz (au m d),x3]):=by
  unfold nM rW
  refine (eZ (jE (b8 (bA (d:=au m d) rfl (bA (M3 (u:=u) (f:=aj 1) rfl) rfl)) l1))).trans ?_
  rw [aZ eL]
  rfl
 exact dX rfl eg
theorem WK {i:Nat}{x1 x2 x3 x4 x6:Sl}(hn:n<=8)(hi:i<m):jA [.fz (aK m n a),x1,x2,x3,x4,.fz (.int i),x6]=.ok (au n λr=>a r i):=by
 have hl:n<=16777216:=by omega
 have ec:=dC (n:=n) (f:=λr=>au m (a r)) (h:=hName 0) (ft:=eU) (fe:=nC) (m0:=[.un,.fz (.int i)]) (λr=>qD (a r i)) λr hr=>⟨[.fz (au m (a r)),.fz (.int i)],rfl,rfl,by
  have:gIx (au m (a r)) (.int i)=some (qD (a r i)):=oW hi
  simp [nC,aA,aj,this]⟩
 unfold jA cG
 rw [show lq (aj 0) [.fz (aK m n a),x1,x2,x3,x4,.fz (.int i),x6]=.ok (rg n λr=>au m (a r)) from rfl]
 simp [cMe,Sl.bor,bD,hl,ec]
 rfl
theorem Ad (hm:m<=8)(hn:n<=8)(ha:∀r i,cU (a r i))(hb:∀r,cU (b r))(hu:∀r,cU (u r))(hx:∀j,QL (x j))(hy:∀j,QL (y j))(hp:Sx.xU m n (Aq a) (Vq b) (Vq u) (Vq x) (Vq y)):lA [aK m n a,aO n b,au m u,au m x,au n y]=.ok (false,.bl true):=by
 obtain ⟨m',e,x5,x6,em⟩:=lV (n:=m) (f:=λi=>.tup [.int i,qD (u i)]) (h:=nZ 2 (cL (hName 5) (cL (hName 6) nW))) (k:=mH) (m:=[.fz (aK m n a),.fz (aO n b),.fz (au m u),.fz (au m x),.fz (au n y),.un,.un]) (λi s=>∃x5 x6,s=[.fz (aK m n a),.fz (aO n b),.fz (au m u),.fz (au m x),.fz (au n y),x5,x6]) ⟨_,_,rfl⟩ λi s hi ⟨x5,x6,es⟩=>by
  subst es
  obtain ⟨ed,eb,ep,ev⟩:=jx (p:=λr=>a r i) hn (λr=>ha r i) hy
  have el:=qW eb (hu i).sz
  obtain ⟨lp,lv⟩:=uY ep (hu i).pos
  have hz:¬(lsQ (dt (λr=>a r i) y n) (u i)).1<0:=by
   have h1:0<=vq (lsQ (dt (λr=>a r i) y n) (u i)):=by
    have:=hp.ge i hi
    rw [lv,ev]
    grind
   have:=(QK lp).mp h1
   omega
  refine ⟨[.fz (aK m n a),.fz (aO n b),.fz (au m u),.fz (au m x),.fz (au n y),.fz (.int i),.fz (qD (u i))],[.fz (aK m n a),.fz (aO n b),.fz (au m u),.fz (au m x),.fz (au n y),.fz (.int i),.fz (qD (u i))],rfl,?_,_,_,rfl⟩
  unfold mH gIf
  rw [show aQ gLt (aA gIx (fFn bF (aa (fFn aW (aa jA (aa (aD 4) az))) (aa (aD 6) az))) (fC (.int 0))) (fC (.int 0)) [.fz (aK m n a),.fz (aO n b),.fz (au m u),.fz (au m x),.fz (au n y),.fz (.int i),.fz (qD (u i))]=_ from Yx (b8 (bA (b8 (bA (WK (a:=a) hn hi) (ds:=[au n y]) rfl) ed) (ds:=[qD (u i)]) rfl) el),decide_eq_false hz]
  rfl
 subst em
 have l1:=list_eq (n:=n) (q:=y) λi hi=>Hz (hy i) (hp.nn i hi)
 have eL:mO [.fz (aK m n a),.fz (aO n b),.fz (au m u),.fz (au m x),.fz (au n y),.un,.un]=.ok (.nx,[.fz (aK m n a),.fz (aO n b),.fz (au m u),.fz (au m x),.fz (au n y),x5,x6]):=by
  unfold mO lZ
  rw [show u0 (aa (aD 2) az) [.fz (aK m n a),.fz (aO n b),.fz (au m u),.fz (au m x),.fz (au n y),.un,.un]=.ok (rg m λi=>.tup [.int i,qD (u i)]) by
   simp [u0,aa,az,aD,au,yh]]
  exact e
 obtain ⟨f1,f2,f3,f4⟩:=jx hn hb hy
 obtain ⟨g1,g2,g3,g4⟩:=jx hm hu hx
 have el:=qW f2 g2
 obtain ⟨lp,lv⟩:=uY f3 g3
 have ez:(lsQ (dt b y n) (dt u x m)).1=0:=(Vk lp).mp (by
  have:=hp.eq
  rw [lv,f4,g4]
  grind)
 have eg:lG [.fz (aK m n a),.fz (aO n b),.fz (au m u),.fz (au m x),.fz (au n y),.un,.un]=.ok (.rt false (.bl true),Me.let [.fz (aK m n a),.fz (aO n b),.fz (au m u),.fz (au m x),.fz (au n y),x5,x6]):=by
  unfold lG qF
  refine (eZ (jE (b8 (bA (d:=au n y) rfl (bA (HY (i:=0) (a:=a) rfl) rfl)) l1))).trans ?_
  rw [aZ eL]
  unfold bT
  rw [Kw (b8 (bA (b8 (ds:=[au n b,au n y]) rfl f1) (bA (b8 (ds:=[au m u,au m x]) rfl g1) rfl)) el) ez]
  rfl
 exact dX rfl eg
theorem Yb {i:Nat}{x1 x2 x3 x4 x5 x7 x8:Sl}(hn:n<=8)(hi:i<m):gY [.fz (aK m n a),x1,x2,x3,x4,x5,.fz (.int i),x7,x8]=.ok (au n λr=>a r i):=by
 have hl:n<=16777216:=by omega
 have ec:=dC (n:=n) (f:=λr=>au m (a r)) (h:=hName 0) (ft:=eU) (fe:=mJ) (m0:=[.un,.fz (.int i)]) (λr=>qD (a r i)) λr hr=>⟨[.fz (au m (a r)),.fz (.int i)],rfl,rfl,by
  have:gIx (au m (a r)) (.int i)=some (qD (a r i)):=oW hi
  simp [mJ,aA,aj,this]⟩
 unfold gY cG
 rw [show lq (aj 0) [.fz (aK m n a),x1,x2,x3,x4,x5,.fz (.int i),x7,x8]=.ok (rg n λr=>au m (a r)) from rfl]
 simp [cMe,Sl.bor,bD,hl,ec]
 rfl
def sX (R B U V X Z L:D)(x6 x7 x8:Sl):Me:=[.fz R,.fz B,.fz (.tup [U,V]),.fz X,.fz Z,.fz L,x6,x7,x8]
theorem Tp {i:Nat}{B U V X Z L:D}{x7 x8:Sl}(hn:n<=8)(hi:i<m):gY (sX (aK m n a) B U V X Z L (.fz (.int i)) x7 x8)=.ok (au n λr=>a r i):=Yb hn hi
theorem Jk (hm:m<=8)(hn:n<=8)(ha:∀r i,cU (a r i))(hb:∀r,cU (b r))(hu:∀r,cU (u r))(hv:∀r,cU (v r))(hx:∀j,QL (x j))(hz:∀j,QL (z j))(hL:QL L)(hp:Sx.Nxt m n (Aq a) (Vq b) (Vq u) (Vq v) (Vq x) (Vq z) (vq L)):jh [aK m n a,aO n b,.tup [au m u,au m v],au m x,au n z,qD L]=.ok (false,.bl true):=by
 obtain ⟨m',e,x6,x7,x8,em⟩:=lV (n:=m) (f:=λi=>.tup [.int i,qD (u i)]) (h:=nZ 2 (cL (hName 6) (cL (hName 7) nW))) (k:=mX) (m:=sX (aK m n a) (aO n b) (au m u) (au m v) (au m x) (au n z) (qD L) .un .un .un) (λi s=>∃x6 x7 x8,s=sX (aK m n a) (aO n b) (au m u) (au m v) (au m x) (au n z) (qD L) x6 x7 x8) ⟨_,_,_,rfl⟩ λi s hi ⟨x6,x7,x8,es⟩=>by
  subst es
  obtain ⟨ed,eb,ep,ev⟩:=jx (p:=λr=>a r i) hn (λr=>ha r i) hz
  have et:=Du hL.2.2 (hu i).sz
  obtain ⟨tp,tv⟩:=tm_val hL.1 (hu i).pos
  have tb:=VV hL.2.2 (hu i).sz
  have el:=qW eb tb
  have lb:=V5 eb tb
  obtain ⟨lp,lv⟩:=uY ep tp
  have el2:=qW lb (hv i).sz
  obtain ⟨kp,kv⟩:=uY lp (hv i).pos
  have hzz:¬(lsQ (lsQ (dt (λr=>a r i) z n) (tmQ L (u i))) (v i)).1<0:=by
   have h1:0<=vq (lsQ (lsQ (dt (λr=>a r i) z n) (tmQ L (u i))) (v i)):=by
    have h2:Vq v i<=sr n (λk=>Aq a k i*Vq z k)-vq L*Vq u i:=hp.ge i hi
    rw [kv,lv,tv,ev]
    have h3:vq (v i)<=sr n (λk=>vq (a k i)*vq (z k))-vq L*vq (u i):=h2
    grind
   have:=(QK kp).mp h1
   omega
  have gv:gIx (au m v) (.int i)=some (qD (v i)):=oW hi
  refine ⟨sX (aK m n a) (aO n b) (au m u) (au m v) (au m x) (au n z) (qD L) (.fz (.int i)) (.fz (qD (u i))) x8,sX (aK m n a) (aO n b) (au m u) (au m v) (au m x) (au n z) (qD L) (.fz (.int i)) (.fz (qD (u i))) (.fz (qD (lsQ (dt (λr=>a r i) z n) (tmQ L (u i))))),rfl,?_,_,_,_,rfl⟩
  have s8:bf 8 (fFn bF (aa (fFn aW (aa gY (aa (aD 4) az))) (aa (fFn gr (aa (aD 5) (aa (aD 7) az))) az))) (sX (aK m n a) (aO n b) (au m u) (au m v) (au m x) (au n z) (qD L) (.fz (.int i)) (.fz (qD (u i))) x8)=.ok (.nx,sX (aK m n a) (aO n b) (au m u) (au m v) (au m x) (au n z) (qD L) (.fz (.int i)) (.fz (qD (u i))) (.fz (qD (lsQ (dt (λr=>a r i) z n) (tmQ L (u i)))))):=by
   unfold bf
   rw [b8 (bA (b8 (bA (Tp (a:=a) hn hi) (bA (f:=aD 4) (d:=au n z) (g:=az) rfl rfl)) ed) (bA (b8 (fs:=aa (aD 5) (aa (aD 7) az)) (ds:=[qD L,qD (u i)]) rfl et) (g:=az) rfl)) el]
   rfl
  have iv:(aA gIx (aA gIx (aj 2) (fC (.int 1))) (aj 6)) (sX (aK m n a) (aO n b) (au m u) (au m v) (au m x) (au n z) (qD L) (.fz (.int i)) (.fz (qD (u i))) (.fz (qD (lsQ (dt (λr=>a r i) z n) (tmQ L (u i))))))=.ok (qD (v i)):=by
   show ofO (gIx (au m v) (.int i))=_
   rw [gv]
   rfl
  unfold mX
  rw [aZ s8]
  unfold gIf
  rw [show aQ gLt (aA gIx (fFn bF (aa (aD 8) (aa (aA gIx (aA gIx (aj 2) (fC (.int 1))) (aj 6)) az))) (fC (.int 0))) (fC (.int 0)) (sX (aK m n a) (aO n b) (au m u) (au m v) (au m x) (au n z) (qD L) (.fz (.int i)) (.fz (qD (u i))) (.fz (qD (lsQ (dt (λr=>a r i) z n) (tmQ L (u i))))))=_ from Yx (b8 (bA (f:=aD 8) rfl (bA iv rfl)) el2),decide_eq_false hzz]
  rfl
 subst em
 have l1:=list_eq (n:=n) (q:=z) λi hi=>Hz (hz i) (hp.nn i hi)
 have l2:dI [.lst [qD L],.int 1]=.ok (false,.bl true):=list_eq (n:=1) (q:=λ_=>L) λi hi=>Hz hL hp.l0
 have eL:mC (sX (aK m n a) (aO n b) (au m u) (au m v) (au m x) (au n z) (qD L) .un .un .un)=.ok (.nx,sX (aK m n a) (aO n b) (au m u) (au m v) (au m x) (au n z) (qD L) x6 x7 x8):=by
  unfold mC lZ
  rw [show u0 (aa (aA gIx (aj 2) (fC (.int 0))) az) (sX (aK m n a) (aO n b) (au m u) (au m v) (au m x) (au n z) (qD L) .un .un .un)=.ok (rg m λi=>.tup [.int i,qD (u i)]) by
   unfold u0
   rw [show (aa (aA gIx (aj 2) (fC (.int 0))) az) (sX (aK m n a) (aO n b) (au m u) (au m v) (au m x) (au n z) (qD L) .un .un .un)=.ok [au m u] from rfl]
   show Res.ok (yS (rg m λi=>qD (u i)))=_
   rw [yh]]
  exact e
 obtain ⟨f1,f2,f3,f4⟩:=jx hn hb hz
 obtain ⟨g1,g2,g3,g4⟩:=jx hm hu hx
 obtain ⟨h1,h2,h3,h4⟩:=jx hm hv hx
 have et:=Du hL.2.2 g2
 obtain ⟨tp,tv⟩:=tm_val hL.1 g3
 have tb:=VV hL.2.2 g2
 have el:=qW f2 tb
 have lb:=V5 f2 tb
 obtain ⟨lp,lv⟩:=uY f3 tp
 have el2:=qW lb h2
 obtain ⟨kp,kv⟩:=uY lp h3
 have ez:(lsQ (lsQ (dt b z n) (tmQ L (dt u x m))) (dt v x m)).1=0:=(Vk kp).mp (by
  have:sr n (λi=>Vq b i*Vq z i)-vq L*sr m (λj=>Vq u j*Vq x j)=sr m λj=>Vq v j*Vq x j:=hp.eq
  have:sr n (λi=>vq (b i)*vq (z i))-vq L*sr m (λj=>vq (u j)*vq (x j))=sr m λj=>vq (v j)*vq (x j):=this
  rw [kv,lv,tv,f4,g4,h4]
  grind)
 have s8:bf 8 (fFn bF (aa (fFn aW (aa (aD 1) (aa (aD 4) az))) (aa (fFn gr (aa (aD 5) (aa (fFn aW (aa (aA gIx (aj 2) (fC (.int 0))) (aa (aD 3) az))) az))) az))) (sX (aK m n a) (aO n b) (au m u) (au m v) (au m x) (au n z) (qD L) x6 x7 x8)=.ok (.nx,sX (aK m n a) (aO n b) (au m u) (au m v) (au m x) (au n z) (qD L) x6 x7 (.fz (qD (lsQ (dt b z n) (tmQ L (dt u x m)))))):=by
  unfold bf
  rw [b8 (bA (b8 (ds:=[au n b,au n z]) rfl f1) (bA (b8 (bA (f:=aD 5) (d:=qD L) rfl (bA (b8 (ds:=[au m u,au m x]) rfl g1) rfl)) et) rfl)) el]
  rfl
 have sr:bT (iI gEq (aA gIx (fFn bF (aa (aD 8) (aa (fFn aW (aa (aA gIx (aj 2) (fC (.int 1))) (aa (aD 3) az))) az))) (fC (.int 0))) (fC (.int 0))) (sX (aK m n a) (aO n b) (au m u) (au m v) (au m x) (au n z) (qD L) x6 x7 (.fz (qD (lsQ (dt b z n) (tmQ L (dt u x m))))))=.ok (.rt false (.bl true),Me.let (sX (aK m n a) (aO n b) (au m u) (au m v) (au m x) (au n z) (qD L) x6 x7 (.fz (qD (lsQ (dt b z n) (tmQ L (dt u x m))))))):=by
  unfold bT
  rw [Kw (b8 (bA (f:=aD 8) rfl (bA (b8 (ds:=[au m v,au m x]) rfl h1) rfl)) el2) ez]
  rfl
 have eg:lu (sX (aK m n a) (aO n b) (au m u) (au m v) (au m x) (au n z) (qD L) .un .un .un)=.ok (.rt false (.bl true),Me.let (sX (aK m n a) (aO n b) (au m u) (au m v) (au m x) (au n z) (qD L) x6 x7 (.fz (qD (lsQ (dt b z n) (tmQ L (dt u x m))))))):=by
  unfold lu qg
  refine (eZ (zc (jE (b8 (bA (d:=au n z) rfl (bA (HY (i:=0) (a:=a) rfl) rfl)) l1)) (jE (b8 (ds:=[.lst [qD L],.int 1]) rfl l2)))).trans ?_
  rw [aZ eL,aZ s8]
  exact sr
 exact dX rfl eg
end
open Sx (sr)
theorem Jy {f g:Me->Res D}{s:Me}{d:D}(h1:f s=.ok (.bl true))(h2:g s=.ok d):Fw f g s=.ok d:=by
 unfold Fw fTv
 rw [h1]
 exact h2
def sF (T R B U V:D):Me:=[.fz T,.fz R,.fz B,.fz (.tup [U,V])]
section
variable {m n:Nat}{a:Nat->Nat->Q2}{b u v x y z d:Nat->Q2}{L:Q2}
theorem Gg {t : Str} {ds : List D} (hm : m ≤ 8) (ha : ∀ r i, cU (a r i)) (hb : ∀ r, cU (b r)) (hx : ∀ j, QL (x j)) (hf : Sx.Fit m n (Aq a) (Vq b) (Vq x)) (hl : 1 ≤ ds.length) (hl2 : ds.length ≤ 10) {k : Me → Res (Fl × Me)} :
    aU (gIf (oh (iU (fTv (Ga "tuple" (aj 0)))) (oh (aQ gLt (bJ fH (aa (aj 0) az)) (fC (.int 3))) (iU (fTv (fFn dI (aa (aA gIx (aj 0) (fC (.int 1))) (aa (bJ fH (aa (aA gIx (aj 3) (fC (.int 0))) az)) az))))))) (bT (fC (.bl false))) gNx)
     (aU (gIf (iU (fTv (fFn oA (aa (aD 1) (aa (aD 2) (aa (aA gIx (aj 0) (fC (.int 1))) az)))))) (bT (fC (.bl false))) gNx) k) (sF (.tup (.str t :: au m x :: ds)) (aK m n a) (aO n b) (au m u) (au m v)) = k (sF (.tup (.str t :: au m x :: ds)) (aK m n a) (aO n b) (au m u) (au m v)) := by
  have l1 := list_eq (n := m) (q := x) λi hi => Hz (hx i) (hf.nn i hi)
  have l2 := Tt hm ha hb hx hf
  have i1 : (aA gIx (aj 0) (fC (.int 1))) (sF (.tup (.str t :: au m x :: ds)) (aK m n a) (aO n b) (au m u) (au m v)) = .ok (au m x) := by
    have : gIx (.tup (.str t :: au m x :: ds)) (.int 1) = some (au m x) := by
      show atI _ 1 = _
      exact K4 (j := 1) rfl
    show ofO (gIx (.tup (.str t :: au m x :: ds)) (.int 1)) = _
    rw [this]
    rfl
  have i0 : (bJ fH (aa (aA gIx (aj 3) (fC (.int 0))) az)) (sF (.tup (.str t :: au m x :: ds)) (aK m n a) (aO n b) (au m u) (au m v)) = .ok (.int m) := M3 (u := u) rfl
  have lt : aQ gLt (bJ fH (aa (aj 0) az)) (fC (.int 3)) (sF (.tup (.str t :: au m x :: ds)) (aK m n a) (aO n b) (au m u) (au m v)) = .ok false := by
    have : ¬ ((ds.length : Int) + 1 + 1 < 3) := by omega
    simp [aQ, bJ, aa, az, aj, sF, fH, fC, gLt, this]
  refine (eZ (zc (jE rfl) (zc lt (jE (b8 (bA i1 (bA i0 rfl)) l1))))).trans ?_
  exact eZ (jE (b8 (bA (f := aD 1) (d := aK m n a) rfl (bA (f := aD 2) (d := aO n b) rfl (bA i1 rfl))) l2))
theorem V3 {q:Q2}(h:0<q.2)(hv:0<vq q):0<q.1:=by
 by_cases z:0<q.1
 ·exact z
 ·have:=(Pr h).mpr (by omega)
  grind
theorem M9 (hm:m<=8)(ha:∀r i,cU (a r i))(hb:∀r,cU (b r))(hu:∀r,cU (u r))(hx:∀j,QL (x j))(hf:Sx.Fit m n (Aq a) (Vq b) (Vq x))(hd:∀j,QL (d j))(hw:Sx.Way m n (Aq a) (Vq u) (Vq d)):
  cD [.tup [.str "endless",au m x,au m d],aK m n a,aO n b,.tup [au m u,au m v]]=.ok (false,.bl true):=by
 have w1:=Dw (u:=u) hm ha hd hw
 obtain ⟨g1,g2,g3,g4⟩:=jx hm hu hd
 have gp:0<(dt u d m).1:=V3 g3 (by rw [g4];exact hw.pos)
 have sr:bT (Fw (iI gEq (bJ fH (aa (aj 0) az)) (fC (.int 3))) (Fw (fFn jW (aa (aD 1) (aa (aA gIx (aj 3) (fC (.int 0))) (aa (aA gIx (aj 0) (fC (.int 2))) az)))) (iI gGt (aA gIx (fFn aW (aa (aA gIx (aj 3) (fC (.int 0))) (aa (aA gIx (aj 0) (fC (.int 2))) az))) (fC (.int 0))) (fC (.int 0))))) (sF (.tup [.str "endless",au m x,au m d]) (aK m n a) (aO n b) (au m u) (au m v))=.ok (.rt false (.bl true),sF (.tup [.str "endless",au m x,au m d]) (aK m n a) (aO n b) (au m u) (au m v)):=by
  unfold bT
  rw [show Me.let (sF (.tup [.str "endless",au m x,au m d]) (aK m n a) (aO n b) (au m u) (au m v))=sF (.tup [.str "endless",au m x,au m d]) (aK m n a) (aO n b) (au m u) (au m v) from rfl,Jy rfl (Jy (b8 (ds:=[aK m n a,au m u,au m d]) rfl w1) (V7 (b8 (ds:=[au m u,au m d]) rfl g1) gp))]
  rfl
 have eg:gD (sF (.tup [.str "endless",au m x,au m d]) (aK m n a) (aO n b) (au m u) (au m v))=.ok (.rt false (.bl true),sF (.tup [.str "endless",au m x,au m d]) (aK m n a) (aO n b) (au m u) (au m v)):=by
  unfold gD lU
  rw [Gg hm ha hb hx hf (by simp) (by simp)]
  exact zK rfl sr
 exact dX rfl eg
theorem J9 (hm:m<=8)(hn:n<=8)(ha:∀r i,cU (a r i))(hb:∀r,cU (b r))(hu:∀r,cU (u r))(hv:∀r,cU (v r))(hx:∀j,QL (x j))(hf:Sx.Fit m n (Aq a) (Vq b) (Vq x))(hy:∀j,QL (y j))(hp:Sx.xU m n (Aq a) (Vq b) (Vq u) (Vq x) (Vq y))(hd:∀j,QL (d j))(hw:Sx.Way m n (Aq a) (Vq v) (Vq d))(h0:sr m (λj=>Vq u j*Vq d j)=0):
  cD [.tup [.str "endless next",au m x,au n y,au m d],aK m n a,aO n b,.tup [au m u,au m v]]=.ok (false,.bl true):=by
 have w1:=Dw (u:=u) hm ha hd hw
 have bb:=Ad hm hn ha hb hu hx hy hp
 obtain ⟨g1,g2,g3,g4⟩:=jx hm hv hd
 obtain ⟨f1,f2,f3,f4⟩:=jx hm hu hd
 have gp:0<(dt v d m).1:=V3 g3 (by rw [g4];exact hw.pos)
 have gz:(dt u d m).1=0:=(Vk f3).mp (by rw [f4];exact h0)
 have sr:bT (Fw (iI gEq (aA gIx (fFn aW (aa (aA gIx (aj 3) (fC (.int 0))) (aa (aA gIx (aj 0) (fC (.int 3))) az))) (fC (.int 0))) (fC (.int 0))) (iI gGt (aA gIx (fFn aW (aa (aA gIx (aj 3) (fC (.int 1))) (aa (aA gIx (aj 0) (fC (.int 3))) az))) (fC (.int 0))) (fC (.int 0)))) (sF (.tup [.str "endless next",au m x,au n y,au m d]) (aK m n a) (aO n b) (au m u) (au m v))=.ok (.rt false (.bl true),sF (.tup [.str "endless next",au m x,au n y,au m d]) (aK m n a) (aO n b) (au m u) (au m v)):=by
  unfold bT
  rw [show Me.let (sF (.tup [.str "endless next",au m x,au n y,au m d]) (aK m n a) (aO n b) (au m u) (au m v))=sF (.tup [.str "endless next",au m x,au n y,au m d]) (aK m n a) (aO n b) (au m u) (au m v) from rfl,Jy (Kw (b8 (ds:=[au m u,au m d]) rfl f1) gz) (V7 (b8 (ds:=[au m v,au m d]) rfl g1) gp)]
  rfl
 have eg:gD (sF (.tup [.str "endless next",au m x,au n y,au m d]) (aK m n a) (aO n b) (au m u) (au m v))=.ok (.rt false (.bl true),sF (.tup [.str "endless next",au m x,au n y,au m d]) (aK m n a) (aO n b) (au m u) (au m v)):=by
  unfold gD lU
  rw [Gg hm ha hb hx hf (by simp) (by simp)]
  refine (eZ rfl).trans ?_
  refine (eZ (jE (b8 (ds:=[aK m n a,aO n b,au m u,au m x,au n y]) rfl bb))).trans ?_
  refine zK rfl ?_
  refine (eZ (zc rfl (jE (b8 (ds:=[aK m n a,au m u,au m d]) rfl w1)))).trans ?_
  exact sr
 exact dX rfl eg
theorem Iw (hm:m<=8)(hn:n<=8)(ha:∀r i,cU (a r i))(hb:∀r,cU (b r))(hu:∀r,cU (u r))(hv:∀r,cU (v r))(hx:∀j,QL (x j))(hf:Sx.Fit m n (Aq a) (Vq b) (Vq x))(hy:∀j,QL (y j))(hp:Sx.xU m n (Aq a) (Vq b) (Vq u) (Vq x) (Vq y))(hz:∀j,QL (z j))(hL:QL L)(hq:Sx.Nxt m n (Aq a) (Vq b) (Vq u) (Vq v) (Vq x) (Vq z) (vq L)):
  cD [.tup [.str "best",au m x,au n y,au n z,qD L],aK m n a,aO n b,.tup [au m u,au m v]]=.ok (false,.bl true):=by
 have bb:=Ad hm hn ha hb hu hx hy hp
 have nn:=Jk hm hn ha hb hu hv hx hz hL hq
 have sr:bT (fFn jh (aa (aD 1) (aa (aD 2) (aa (aD 3) (aa (aA gIx (aj 0) (fC (.int 1))) (aa (aA gIx (aj 0) (fC (.int 3))) (aa (aA gIx (aj 0) (fC (.int 4))) az))))))) (sF (.tup [.str "best",au m x,au n y,au n z,qD L]) (aK m n a) (aO n b) (au m u) (au m v))=.ok (.rt false (.bl true),sF (.tup [.str "best",au m x,au n y,au n z,qD L]) (aK m n a) (aO n b) (au m u) (au m v)):=by
  unfold bT
  rw [show Me.let (sF (.tup [.str "best",au m x,au n y,au n z,qD L]) (aK m n a) (aO n b) (au m u) (au m v))=sF (.tup [.str "best",au m x,au n y,au n z,qD L]) (aK m n a) (aO n b) (au m u) (au m v) from rfl,b8 (ds:=[aK m n a,aO n b,.tup [au m u,au m v],au m x,au n z,qD L]) rfl nn]
  rfl
 have eg:gD (sF (.tup [.str "best",au m x,au n y,au n z,qD L]) (aK m n a) (aO n b) (au m u) (au m v))=.ok (.rt false (.bl true),sF (.tup [.str "best",au m x,au n y,au n z,qD L]) (aK m n a) (aO n b) (au m u) (au m v)):=by
  unfold gD lU
  rw [Gg hm ha hb hx hf (by simp) (by simp)]
  refine (eZ rfl).trans ?_
  refine (eZ (jE (b8 (ds:=[aK m n a,aO n b,au m u,au m x,au n y]) rfl bb))).trans ?_
  refine (eZ rfl).trans ?_
  refine (eZ (zc rfl rfl)).trans ?_
  exact sr
 exact dX rfl eg
end
structure Rp (d:D)(p:PyData)(N k:Nat):Prop where
 e:toPy d=some p
 s:p.showable=true
 h:p.hasDict=false
 l:p.shown.length<=N
 d:p.depth<=k
structure Rps (ds:List D)(ps:List PyData)(N k:Nat):Prop where
 e:ur ds=some ps
 s:PyData.showableAll ps=true
 h:PyData.hasDictAll ps=false
 l:((PyData.shownAll ps).map (·.length)).sum<=N
 c:ps.length=ds.length
 d:PyData.depthAll ps<=k
theorem Rps.nil {k:Nat}:Rps [] [] 0 k:=⟨rfl,rfl,rfl,Nat.le_refl _,rfl,Nat.zero_le _⟩
theorem tK:∀ps:List PyData,(PyData.shownAll ps).length=ps.length
 |[]=>rfl
 |_::ps=>congrArg (· + 1) (tK ps)
theorem Rps.cons {d:D}{p:PyData}{ds:List D}{ps:List PyData}{N M k:Nat}(h1:Rp d p N k)(h2:Rps ds ps M k):Rps (d::ds) (p::ps) (N+M) k:=by
 refine ⟨?_,?_,?_,?_,by rw [List.length_cons,List.length_cons,h2.c],?_⟩
 ·show (toPy d).bind _=_
  rw [h1.e,h2.e]
  rfl
 ·show (p.showable && PyData.showableAll ps)=true
  rw [h1.s,h2.s]
  rfl
 ·show (p.hasDict || PyData.hasDictAll ps)=false
  rw [h1.h,h2.h]
  rfl
 ·show ((p.shown::PyData.shownAll ps).map (·.length)).sum<=_
  rw [List.map_cons,List.sum_cons]
  have:=h1.l
  have:=h2.l
  omega
 ·show max p.depth (PyData.depthAll ps)<=k
  have:=h1.d
  have:=h2.d
  omega
theorem Rps.lst {ds:List D}{ps:List PyData}{N k:Nat}(h:Rps ds ps N k):Rp (.lst ds) (.list ps) (N+2*ds.length+3) (k+1):=by
 refine ⟨?_,h.s,h.h,?_,?_⟩
 ·show (ur ds).map _=_
  rw [h.e]
  rfl
 ·have:=listText_len_le (PyData.shownAll ps)
  rw [tK,h.c] at this
  have:=h.l
  show (listText (PyData.shownAll ps)).length<=_
  omega
 ·show PyData.depthAll ps+1<=k+1
  have:=h.d
  omega
theorem Rps.tup {ds:List D}{ps:List PyData}{N k:Nat}(h:Rps ds ps N k):Rp (.tup ds) (.tuple ps) (N+2*ds.length+3) (k+1):=by
 refine ⟨?_,h.s,h.h,?_,?_⟩
 ·show (ur ds).map _=_
  rw [h.e]
  rfl
 ·have:=tupleText_len_le (PyData.shownAll ps)
  rw [tK,h.c] at this
  have:=h.l
  show (tupleText (PyData.shownAll ps)).length<=_
  omega
 ·show PyData.depthAll ps+1<=k+1
  have:=h.d
  omega
theorem Rt {i:Int}{k:Nat}(h:i.natAbs<2 ^ 1900):Rp (.int i) (.int i) 635 k:=by
 refine ⟨rfl,?_,rfl,?_,Nat.zero_le _⟩
 ·show decide (i.natAbs.log2<1920)=true
  exact decide_eq_true (Nat.lt_of_lt_of_le (J6 h (by decide)) (by decide))
 ·have h2:i.natAbs<10 ^ 634:=by
   refine Nat.lt_of_lt_of_le h ?_
   have e1:(2:Nat) ^ 1900<=2 ^ (3*634):=Nat.pow_le_pow_right (by decide) (by decide)
   have e2:(2:Nat) ^ (3*634)=(2 ^ 3) ^ 634:=Nat.pow_mul 2 3 634
   have e3:((2:Nat) ^ 3) ^ 634<=10 ^ 634:=Nat.pow_le_pow_left (by decide) 634
   rw [e2] at e1
   exact Nat.le_trans e1 e3
  have e:=int_text_length_le10 (k:=634) (by decide) h2
  show (Str.ofString (toString i)).length<=635
  rw [ofString_length];exact e
theorem Zd {q:Q2}(h:QL q):∃p,Rp (qD q) p 1277 1:=⟨_,(Rps.cons (Rt h.2.2.1) (Rps.cons (Rt h.2.2.2) Rps.nil)).tup⟩
theorem RT {q:Nat->Q2}(h:∀i,QL (q i)):∀l:List Nat,∃ps,Rps (l.map λi=>qD (q i)) ps (1277*l.length) 1
 |[]=>⟨[],Rps.nil⟩
 |i::l=>by
  obtain ⟨p,hp⟩:=Zd (h i)
  obtain ⟨ps,hs⟩:=RT h l
  have:=Rps.cons hp hs
  exact ⟨_,by rw [List.length_cons,Nat.mul_add,Nat.mul_one,Nat.add_comm];exact this⟩
theorem vz {q:Nat->Q2}{k:Nat}(hk:k<=8)(h:∀i,QL (q i)):∃p,Rp (au k q) p 10300 2:=by
 obtain ⟨ps,hs⟩:=RT h (List.range k)
 have r:=hs.lst
 refine ⟨_,r.e,r.s,r.h,Nat.le_trans r.l ?_,r.d⟩
 rw [List.length_map,List.length_range]
 omega
theorem Rp.up {d:D}{p:PyData}{N k k':Nat}(h:Rp d p N k)(hk:k<=k'):Rp d p N k':=⟨h.e,h.s,h.h,h.l,Nat.le_trans h.d hk⟩
theorem JD {t:Str}{N:Nat}(h:(reprText t).length<=N):Rp (.str t) (.str t) N 2:=⟨rfl,rfl,rfl,h,Nat.zero_le _⟩
theorem JP {ds:List D}{p:PyData}{N k:Nat}(h:Rp (.tup ds) p N k)(hN:N<=16777216)(hk:k<=60):∃s,jw (.tup ds)=some (.str s):=by
 refine ⟨p.shown,?_⟩
 show wy (.tup ds)=_
 unfold wy
 rw [h.e]
 exact if_pos ⟨h.s,h.h,Nat.le_trans h.l (by rw [szl];exact hN),Nat.le_trans h.d hk⟩
theorem ne_nil {x:D}{xs:List D}(h:zG (x::xs)=true)(hd:sH (x::xs)<=60):gNe (.lst (x::xs)) (.lst [])=some true:=by
 obtain ⟨ps,h1,h2,h3,h4⟩:=xY (x::xs) h
 have e:toPy (.lst (x::xs))=some (.list ps):=by
  show (ur (x::xs)).map PyData.list=_
  rw [h1];rfl
 have s1:SeqAt.shaped (.list ps)=true:=by
  unfold SeqAt.shaped
  simp [PyData.canLay0,h2,PyData.depth,h3];omega
 have s2:SeqAt.shaped (.list [])=true:=by
  unfold SeqAt.shaped
  simp [PyData.canLay0,PyData.canLayAll0,PyData.depth,PyData.depthAll]
 have v:PyData.eqv (.list ps) (.list [])=false:=by
  cases ps with
  |nil=>
   obtain ⟨y,_,h1⟩:=Option.bind_eq_some_iff.mp (show (toPy x).bind _=_ from h1)
   obtain ⟨z,_,h1⟩:=Option.map_eq_some_iff.mp h1
   cases h1
  |cons p ps=>simp [PyData.eqv,PyData.eqvAll]
 unfold gNe
 show ((uT (.lst (x::xs)) (.lst [])).map _)=_
 unfold uT
 rw [e,show toPy (.lst [])=some (.list []) from rfl]
 simp [s1,s2,v]
theorem Tq {ds:List D}{k:Nat}(h:k<1000/\ds.length*k<=sizeLine):vm (.lst ds) (.int k)=some (.lst (List.replicate ((k:Int)).toNat ds).flatten):=by
 have h1:(0:Int)<=(k:Int)/\(k:Int)<2 ^ 63/\ds.length*((k:Int)).toNat<=sizeLine:=by
  refine ⟨by omega,Int.lt_trans (b:=1000) (by omega) (by decide),?_⟩
  rw [show ((k:Int)).toNat=k by omega];exact h.2
 unfold vm
 exact if_pos h1
def cl (ns:List Int)(k:Nat):Int:=ns.getD k 0
theorem xq {m:Nat}{u:Nat->Q2}{f:Me->Res D}{s:Me}(h:f s=.ok (au m u)):(bJ qe (aa f az)) s=.ok (au m u):=by
 simp [bJ,aa,az,h,qe,au]
theorem okq {k:Nat}{u:Nat->Q2}:okD (au k u)=true/\qL (au k u)<=2:=by
 have h1:=LR (f:=λi=>qD (u i)) (λi=>Zr _) (List.range k)
 have h2:=Fx (f:=λi=>qD (u i)) (k:=1) (λi=>by rw [Xd];exact Nat.le_refl _) (List.range k)
 exact ⟨by show okD (.lst (rg k _))=true;simp [okD];exact h1,by show qL (.lst (rg k _))<=2;simp [qL];exact h2⟩
theorem okr {m n:Nat}{a:Nat->Nat->Q2}:okD (aK m n a)=true/\qL (aK m n a)<=3:=by
 have h1:=LR (f:=λi=>au m (a i)) (λi=>okq.1) (List.range n)
 have h2:=Fx (f:=λi=>au m (a i)) (k:=2) (λi=>okq.2) (List.range n)
 exact ⟨by show okD (.lst (rg n _))=true;simp [okD];exact h1,by show qL (.lst (rg n _))<=3;simp [qL];exact h2⟩
theorem Ld {m n:Nat}{a:Nat->Nat->Q2}:gNe (aK m n a) (.lst [])=some (decide (n≠0)):=by
 cases n with
 |zero=>exact Ht (d:=.lst []) rfl (by simp [qL,sH])
 |succ k=>
  have h1:=LR (f:=λi=>au m (a i)) (λi=>okq.1) (List.range (k+1))
  have h2:=Fx (f:=λi=>au m (a i)) (k:=2) (λi=>okq.2) (List.range (k+1))
  have e:(List.range (k+1)).map (λi=>au m (a i))=au m (a 0)::rg k λi=>au m (a (i+1)):=vJ (f:=λi=>au m (a i))
  rw [e] at h1 h2
  show gNe (.lst (rg (k+1) λi=>au m (a i))) _=_
  rw [vJ]
  exact (ne_nil h1 (by omega)).trans (by simp)
section
variable {ns:List Int}{m n t:Nat}{s:Int}{a:Nat->Nat->Q2}
theorem Z9 {x4 x5:Sl}(hm:m<=8):jY [.fz (.lst (ns.map D.int)),.fz (.int t),.fz (.int m),.fz (.int s),x4,x5]=.ok (au m λj=>xN (cl ns (t+j)) s):=by
 have hl:m<=16777216:=by omega
 have ei:=itR (f:=aa (aj 2) az) (m:=[.fz (.lst (ns.map D.int)),.fz (.int t),.fz (.int m),.fz (.int s),x4,x5]) (j:=m) (n:=m) rfl rfl (by omega)
 have ec:=dC (n:=m) (f:=λi=>.int i) (h:=hName 0) (ft:=eU) (fe:=rC) (m0:=[.un,.fz (.int s),.fz (.lst (ns.map D.int)),.fz (.int t)]) (λj=>qD (xN (cl ns (t+j)) s)) λj hj=>⟨_,rfl,rfl,by
  have ck:bu [.lst (ns.map D.int),.int ((t:Int)+j)]=.ok (false,.int (cl ns (t+j))):=cell_eq ns (t+j)
  have es:aa (aD 2) (aa (aA eX (aj 3) (aj 0)) az) [.fz (.int j),.fz (.int s),.fz (.lst (ns.map D.int)),.fz (.int t)]=.ok [.lst (ns.map D.int),.int ((t:Int)+j)]:=by
   simp [aa,az,aD,aA,aj,eX]
  unfold rC
  exact b8 (bA (b8 es ck) (ds:=[.int s]) rfl) (vO _ _)⟩
 unfold jY cG
 rw [ei]
 simp [cMe,Sl.bor,bD,hl,ec]
 rfl
def wK:Me->Res (Fl×Me):=aU (gIf (kW (aQ gEq (aA fY (aj 5) (fC (.int 6))) (fC (.int 2))) (aQ gNe (aj 4) (jr az))) (lF (bJ qe (aa (aA gIx (aj 4) (aA fY (aA jL (aj 5) (fC (.int 6))) (bJ fH (aa (aj 4) az)))) az))) gNx) (lF jY)
def wS (S:D)(m s:Int)(R:D)(x:Sl):Me:=[.fz S,.fz (.int 2),.fz (.int m),.fz (.int s),.fz R,x]
theorem Qx {S R:D}{m s c:Int}:Me.let (wS S m s R (.fz (.int c)))=wS S m s R (.fz (.int c)):=rfl
theorem Jv {S R d:D}{m s c:Int}{fr:Bool}{m':Me}(c1:bu [S,.int 1]=.ok (false,.int c))(h:aU (gIf (aQ gEq (aA fY (aj 5) (fC (.int 6))) (fC (.int 1))) (bT (aA vm (jr (aa (gm (aa (fC (.int 0)) (aa (fC (.int 1)) az))) az)) (aj 2))) gNx) wK (wS S m s R (.fz (.int c)))=.ok (.rt fr d,m')):lg [S,.int 2,.int m,.int s,R]=.ok (fr,d):=by
 have s1:bf 5 (fFn bu (aa (aD 0) (aa (fC (.int 1)) az))) (wS S m s R .un)=.ok (.nx,wS S m s R (.fz (.int c))):=by
  unfold bf
  rw [b8 (ds:=[S,.int 1]) rfl c1]
  rfl
 have eg:qU (wS S m s R .un)=.ok (.rt fr d,m'):=by
  unfold qU uW
  rw [aZ s1]
  exact h
 exact dX rfl eg
theorem wt1 {S R:D}{m s c:Int}:aQ gEq (aA fY (aj 5) (fC (.int 6))) (fC (.int 1)) (wS S m s R (.fz (.int c)))=.ok (decide (c % 6=1)):=by
 simp [aQ,aA,aj,fC,fY,mdI,wS]
theorem wt2 {S R:D}{m s c:Int}{k:Bool}(hR:gNe R (.lst [])=some k):kW (aQ gEq (aA fY (aj 5) (fC (.int 6))) (fC (.int 2))) (aQ gNe (aj 4) (jr az)) (wS S m s R (.fz (.int c)))=.ok (decide (c % 6=2) && k):=by
 have q1:aQ gEq (aA fY (aj 5) (fC (.int 6))) (fC (.int 2)) (wS S m s R (.fz (.int c)))=.ok (decide (c % 6=2)):=by
  simp [aQ,aA,aj,fC,fY,mdI,wS]
 have q2:aQ gNe (aj 4) (jr az) (wS S m s R (.fz (.int c)))=.ok k:=by
  simp [aQ,aj,jr,az,wS,hR]
 unfold kW
 rw [q1,Res.bh]
 by_cases z:c % 6=2
 ·rw [decide_eq_true z,if_pos rfl,q2]
  rfl
 ·rw [decide_eq_false z,if_neg (by decide)]
  rfl
theorem wx1 {S R M:D}{m s c:Int}(h:c % 6=1)(ml:vm (.lst [.tup [.int 0,.int 1]]) (.int m)=some M):aU (gIf (aQ gEq (aA fY (aj 5) (fC (.int 6))) (fC (.int 1))) (bT (aA vm (jr (aa (gm (aa (fC (.int 0)) (aa (fC (.int 1)) az))) az)) (aj 2))) gNx) wK (wS S m s R (.fz (.int c)))=.ok (.rt false M,wS S m s R (.fz (.int c))):=by
 have ef:(aA vm (jr (aa (gm (aa (fC (.int 0)) (aa (fC (.int 1)) az))) az)) (aj 2)) (wS S m s R (.fz (.int c)))=.ok M:=by
  simp [aA,jr,aa,gm,fC,az,aj,wS,ml]
 refine zK (by rw [wt1,decide_eq_true h]) ?_
 unfold bT
 rw [Qx,ef]
 rfl
theorem wx2 {S R X:D}{m s c:Int}{n r:Nat}(h1:¬c % 6=1)(h2:c % 6=2)(hR:gNe R (.lst [])=some true)(el:fH [R]=some (.int n))(n1:(0:Int)<n)(hr:c / 6 % (n:Int)=r)(eg:gIx R (.int r)=some X)(hX:qe [X]=some X):aU (gIf (aQ gEq (aA fY (aj 5) (fC (.int 6))) (fC (.int 1))) (bT (aA vm (jr (aa (gm (aa (fC (.int 0)) (aa (fC (.int 1)) az))) az)) (aj 2))) gNx) wK (wS S m s R (.fz (.int c)))=.ok (.rt true X,wS S m s R (.fz (.int c))):=by
 have B6:Bq 6:=pU (k:=10) (by decide)
 have n0:¬(n:Int)=0:=by omega
 have n2:¬n=0:=by omega
 have n3:0<n:=by omega
 have ix:(bJ qe (aa (aA gIx (aj 4) (aA fY (aA jL (aj 5) (fC (.int 6))) (bJ fH (aa (aj 4) az)))) az)) (wS S m s R (.fz (.int c)))=.ok X:=by
  simp [wS,aA,aj,fC,jL,dvI,B6,bJ,aa,az,el,fY,mdI,n0,n1,n2,n3,hr,eg,hX]
 refine (eZ (by rw [wt1,decide_eq_false h1])).trans ?_
 unfold wK
 refine zK (by rw [wt2 hR,decide_eq_true h2];rfl) ?_
 unfold lF
 rw [Qx,ix]
 rfl
theorem wx3 {S R X:D}{m s c:Int}{k:Bool}(h1:¬c % 6=1)(hR:gNe R (.lst [])=some k)(h2:(decide (c % 6=2) && k)=false)(eq:jY (wS S m s R (.fz (.int c)))=.ok X):aU (gIf (aQ gEq (aA fY (aj 5) (fC (.int 6))) (fC (.int 1))) (bT (aA vm (jr (aa (gm (aa (fC (.int 0)) (aa (fC (.int 1)) az))) az)) (aj 2))) gNx) wK (wS S m s R (.fz (.int c)))=.ok (.rt true X,wS S m s R (.fz (.int c))):=by
 refine (eZ (by rw [wt1,decide_eq_false h1])).trans ?_
 unfold wK
 refine (eZ (by rw [wt2 hR,h2])).trans ?_
 unfold lF
 rw [Qx,eq]
 rfl
theorem Tn (hm:m<=8):vm (.lst [.tup [.int 0,.int 1]]) (.int m)=some (au m λ_=>(0,1)):=by
 rw [Tq (by simp;omega)]
 have go:∀k:Nat,(List.replicate k [D.tup [.int 0,.int 1]]).flatten=rg k λ_=>qD (0,1):=λk=>by
  induction k with
  |zero=>rfl
  |succ k ih=>
   rw [List.replicate_succ,List.flatten_cons,ih,vJ]
   rfl
 rw [show ((m:Int)).toNat=m by omega,go]
 rfl
theorem Tr (hm:m<=8)(hn:n<=8)(ha:∀r i,cU (a r i)):∃u fr,(∀j,cU (u j))/\lg [.lst (ns.map D.int),.int 2,.int m,.int s,aK m n a]=.ok (fr,au m u):=by
 have c1:bu [.lst (ns.map D.int),.int 1]=.ok (false,.int (cl ns 1)):=cell_eq ns 1
 by_cases h1:cl ns 1 % 6=1
 ·exact ⟨λ_=>(0,1),false,λ_=>Ve (by decide),Jv c1 (wx1 h1 (Tn hm))⟩
 ·by_cases h2:cl ns 1 % 6=2/\n≠0
  ·obtain ⟨r,hr⟩:∃r:Nat,cl ns 1 / 6 % (n:Int)=r:=⟨(cl ns 1 / 6 % (n:Int)).toNat,by have:=Int.emod_nonneg (cl ns 1 / 6) (show (n:Int)≠0 by omega);omega⟩
   have hrl:r<n:=by have:=Int.emod_lt_of_pos (cl ns 1 / 6) (show 0<(n:Int) by omega);omega
   have hR:gNe (aK m n a) (.lst [])=some true:=by rw [Ld,decide_eq_true h2.2]
   exact ⟨a r,true,ha r,Jv c1 (wx2 h1 h2.1 hR (by simp [fH,aK,bD]) (by omega) hr (oW hrl) (by simp [qe,au]))⟩
  ·refine ⟨λj=>xN (cl ns (2+j)) s,true,λ_=>Ao _ _,Jv c1 (wx3 h1 Ld ?_ (Z9 (t:=2) hm))⟩
   by_cases z:cl ns 1 % 6=2
   ·have:n=0:=by
     by_cases y:n=0
     ·exact y
     ·exact absurd ⟨z,y⟩ h2
    simp [this]
   ·simp [z]
end
open Sx (sr)
section
variable {ns:List Int}{m n t:Nat}{s z:Int}{x1 x2 x3 x5 x7 x8 x9 x10 x11 x12 x13 x14 x15 x16 x17 x18 x19 x20:Sl}
theorem Yy (hm:m<=8):yd [.fz (.lst (ns.map D.int)),x1,x2,.fz (.int m),.fz (.int s),x5,.fz (.int t),x7,x8,x9,x10,x11,x12,x13,x14,x15,x16,x17,x18,x19,x20]=.ok (au m λj=>xN (cl ns (t+j)) s):=by
 have hl:m<=16777216:=by omega
 have ei:=itR (f:=aa (aj 3) az) (m:=[.fz (.lst (ns.map D.int)),x1,x2,.fz (.int m),.fz (.int s),x5,.fz (.int t),x7,x8,x9,x10,x11,x12,x13,x14,x15,x16,x17,x18,x19,x20]) (j:=m) (n:=m) rfl rfl (by omega)
 have ec:=dC (n:=m) (f:=λi=>.int i) (h:=hName 0) (ft:=eU) (fe:=Er) (m0:=[.un,.fz (.int s),.fz (.lst (ns.map D.int)),.fz (.int t)]) (λj=>qD (xN (cl ns (t+j)) s)) λj hj=>⟨_,rfl,rfl,by
  have ck:bu [(.lst (ns.map D.int)),.int ((t:Int)+j)]=.ok (false,.int (cl ns (t+j))):=cell_eq ns (t+j)
  have es:aa (aD 2) (aa (aA eX (aj 3) (aj 0)) az) [.fz (.int j),.fz (.int s),.fz (.lst (ns.map D.int)),.fz (.int t)]=.ok [(.lst (ns.map D.int)),.int ((t:Int)+j)]:=by
   simp [aa,az,aD,aA,aj,eX]
  unfold Er
  exact b8 (bA (b8 es ck) (ds:=[.int s]) rfl) (vO _ _)⟩
 unfold yd cG
 rw [ei]
 simp [cMe,Sl.bor,bD,hl,ec]
 rfl
theorem aaa (hm:m<=8):xZ [.fz (.lst (ns.map D.int)),x1,x2,.fz (.int m),.fz (.int s),x5,.fz (.int t),x7,x8,x9,x10,x11,x12,x13,x14,x15,x16,x17,x18,x19,x20]=.ok (au m λj=>xN (cl ns (t+j)+3*(j:Int)*(j:Int)) s):=by
 have hl:m<=16777216:=by omega
 have ei:=itR (f:=aa (aj 3) az) (m:=[.fz (.lst (ns.map D.int)),x1,x2,.fz (.int m),.fz (.int s),x5,.fz (.int t),x7,x8,x9,x10,x11,x12,x13,x14,x15,x16,x17,x18,x19,x20]) (j:=m) (n:=m) rfl rfl (by omega)
 have ec:=dC (n:=m) (f:=λi=>.int i) (h:=hName 0) (ft:=eU) (fe:=Eu) (m0:=[.un,.fz (.int s),.fz (.lst (ns.map D.int)),.fz (.int t)]) (λj=>qD (xN (cl ns (t+j)+3*(j:Int)*(j:Int)) s)) λj hj=>⟨_,rfl,rfl,by
  have ck:bu [(.lst (ns.map D.int)),.int ((t:Int)+j)]=.ok (false,.int (cl ns (t+j))):=cell_eq ns (t+j)
  have es:aa (aD 2) (aa (aA eX (aj 3) (aj 0)) az) [.fz (.int j),.fz (.int s),.fz (.lst (ns.map D.int)),.fz (.int t)]=.ok [(.lst (ns.map D.int)),.int ((t:Int)+j)]:=by
   simp [aa,az,aD,aA,aj,eX]
  have ec:=b8 es ck
  have b1:Bg 3:=dD (k:=10) (by decide)
  have b2:Bg (j:Int):=dD (k:=10) (show _<1024 by omega)
  have b3:Bg (3*(j:Int)):=dD (k:=10) (show _<1024 by omega)
  have ef:(aA eX (fFn bu (aa (aD 2) (aa (aA eX (aj 3) (aj 0)) az))) (aA eV (aA eV (fC (.int 3)) (aj 0)) (aj 0))) [.fz (.int j),.fz (.int s),.fz (.lst (ns.map D.int)),.fz (.int t)]=.ok (.int (cl ns (t+j)+3*(j:Int)*(j:Int))):=by
   unfold aA
   unfold aA at ec
   rw [ec]
   simp [fC,aj,eV,b1,b2,b3,eX]
  unfold Eu
  exact b8 (bA ef (ds:=[.int s]) rfl) (vO _ _)⟩
 unfold xZ cG
 rw [ei]
 simp [cMe,Sl.bor,bD,hl,ec]
 rfl
theorem Y5 (hn:n<=8):yc [.fz (.lst (ns.map D.int)),x1,.fz (.int n),x3,.fz (.int s),.fz (.int z),.fz (.int t),x7,x8,x9,x10,x11,x12,x13,x14,x15,x16,x17,x18,x19,x20]=.ok (aO n λj=>Hq (cl ns (t+j)) s z):=by
 have hl:n<=16777216:=by omega
 have ei:=itR (f:=aa (aj 2) az) (m:=[.fz (.lst (ns.map D.int)),x1,.fz (.int n),x3,.fz (.int s),.fz (.int z),.fz (.int t),x7,x8,x9,x10,x11,x12,x13,x14,x15,x16,x17,x18,x19,x20]) (j:=n) (n:=n) rfl rfl (by omega)
 have ec:=dC (n:=n) (f:=λi=>.int i) (h:=hName 0) (ft:=eU) (fe:=Ew) (m0:=[.un,.fz (.int s),.fz (.int z),.fz (.lst (ns.map D.int)),.fz (.int t)]) (λj=>qD (Hq (cl ns (t+j)) s z)) λj hj=>⟨_,rfl,rfl,by
  have ck:bu [(.lst (ns.map D.int)),.int ((t:Int)+j)]=.ok (false,.int (cl ns (t+j))):=cell_eq ns (t+j)
  have es:aa (aD 3) (aa (aA eX (aj 4) (aj 0)) az) [.fz (.int j),.fz (.int s),.fz (.int z),.fz (.lst (ns.map D.int)),.fz (.int t)]=.ok [(.lst (ns.map D.int)),.int ((t:Int)+j)]:=by
   simp [aa,az,aD,aA,aj,eX]
  unfold Ew
  exact b8 (bA (b8 es ck) (ds:=[.int s,.int z]) rfl) (RK _ _ _)⟩
 unfold yc cG
 rw [ei]
 simp [cMe,Sl.bor,bD,hl,ec]
 rfl
theorem Xv {a:Nat->Nat->Q2}{x0 x4 x6:Sl}(hn:n<=8):uV [x0,x1,x2,x3,x4,x5,x6,x7,.fz (aK m n a),x9,x10,x11,x12,x13,x14,x15,x16,x17,x18,x19,x20]=.ok (aK m n a):=by
 have hl:n<=16777216:=by omega
 have ec:=dC (n:=n) (f:=λr=>au m (a r)) (h:=hName 0) (ft:=eU) (fe:=LK) (m0:=[.un]) (λr=>au m (a r)) λr hr=>⟨[.fz (au m (a r))],rfl,rfl,xq (f:=aj 0) rfl⟩
 unfold uV cG
 rw [show lq (aj 8) [x0,x1,x2,x3,x4,x5,x6,x7,.fz (aK m n a),x9,x10,x11,x12,x13,x14,x15,x16,x17,x18,x19,x20]=.ok (rg n λr=>au m (a r)) from rfl]
 simp [cMe,Sl.bor,bD,hl,ec]
 rfl
end
def kT : Me → Res (Fl × Me) :=
 (aU (bf 13 (fFn cC (aa (aD 8) (aa (aD 7) (aa (aD 10) (aa (aD 11) az))))))
 (aU (gIf (aQ gNe (fUn jw (aj 13)) (aj 14)) (bT (fC (.bl false))) gNx)
 (aU (bf 17 (fFn jC (aa (aD 8) (aa (aD 7) (aa (aD 10) az)))))
 (aU (gIf (aQ gNe (iI gEq (aA gIx (aj 17) (fC (.int 0))) (fC (.str "endless"))) (iI gEq (aA gIx (aj 13) (fC (.int 0))) (fC (.str "endless")))) (bT (fC (.bl false))) gNx)
 (bT (fOr (iI gEq (aA gIx (aj 13) (fC (.int 0))) (fC (.str "endless"))) (iI gEq (aA gIx (fFn bF (aa (fFn aW (aa (aD 10) (aa (aA gIx (aj 17) (fC (.int 1))) az))) (aa (aD 15) az))) (fC (.int 0))) (fC (.int 0)))))))))
def kE : Me → Res (Fl × Me) :=
  (aU (gIf (oh (aQ gNe (aj 12) (gm (aa (aD 8) (aa (aD 7) (aa (aD 10) (aa (aD 11) az)))))) (iU (fTv (rE cD (aa (fK 13 [18, 19, 20]) (aa (aj 8) (aa (aj 7) (aa (gm (aa (aD 10) (aa (aD 11) az))) az)))))))) (bT (fC (.bl false))) gNx)
 (aU (bf 14 (fUn jw (fK 13 [18, 19, 20])))
 (aU (bf 15 (rE aW (aa (aj 10) (aa (zE 18 (aA gIx (aj 13) (fC (.int 1)))) az))))
 (aU nR
 kT))))
def sE (X:Nat->D)(B R U V:D)(x9 f k w p l a b c:Sl):Me:=[.fz (X 0),.fz (X 1),.fz (X 2),.fz (X 3),.fz (X 4),.fz (X 5),.fz (X 6),.fz B,.fz R,x9,.fz U,.fz V,.fz (.tup [R,B,U,V]),f,k,w,p,l,a,b,c]
theorem qP {h:D->Me->Option Me}{k:Me->Res (Fl×Me)}{x:D}{xs:List D}{m m1 m2:Me}(e1:h x m=some m1)(e2:k m1=.ok (.nx,m2)):jF h k (x::xs) m=jF h k xs m2:=by
 rw [jF,e1]
 simp only [e2]
theorem kY {m m1 m2:Me}{a:Addr}{j:Nat}{ds:List D}(h16:aD 16 m=.ok (.adr a))(h1:gH m a 0=some (j,true,.lst ds))(e1:m.set j (.hd true a (.lst ds.reverse))=m1)(h16':aD 16 m1=.ok (.adr a))(h2:gH m1 a 0=some (j,true,.lst ds.reverse))(hl:ds.length<=1000)(e2:m1.set j (.hd true a (.lst (ds.reverse++[.non])))=m2):jg m=.ok (.nx,m2):=by
 have s1:zL (aD 16) m=.ok (.nx,m1):=by
  unfold zL
  rw [h16,Res.bh]
  show (ofO (gH m a 0)).bind _=_
  rw [h1,← e1]
  rfl
 have s2:zU (aD 16) (fC .non) m1=.ok (.nx,m2):=by
  unfold zU
  rw [h16',Res.bh]
  show (ofO (gH m1 a 0)).bind _=_
  rw [h2]
  show (if ds.reverse.length<sizeLine then _ else _)=_
  rw [if_pos (by rw [szl,List.length_reverse];omega),← e2]
  rfl
 unfold jg
 rw [aZ s1,s2]
theorem Pz {A:Addr}{e:D}{t:Str}:zF A e (.str t)=.str t:=rfl
theorem Rh {A:Addr}{e:D}{t:List D}:zF A e (.lst t)=.lst t:=rfl
theorem QR {A b:Addr}{e:D}:zF A e (.adr b)=if b=A then e else .adr b:=rfl
theorem aar {f g:Me->Res D}{s:Me}(h1:f s=.ok (.bl true)):fOr f g s=.ok (.bl true):=by
 unfold fOr fTv
 rw [h1]
 rfl
theorem aaV {f g:Me->Res D}{s:Me}{d:D}(h1:f s=.ok (.bl false))(h2:g s=.ok d):fOr f g s=.ok d:=by
 unfold fOr fTv
 rw [h1]
 exact h2
theorem tail_eq {X:Nat->D}{B R U V:D}{x9:Sl}{F0 W P X' Y':D}{kp t t':Str}{ds:List D}{x18 x19 x20:Sl}(hl:∀s∈[x9,x18,x19,x20],Sl.let s=s)(es:cC [R,B,U,V]=.ok (true,.tup (.str t::ds)))(er:jw (.tup (.str t::ds))=some (.str kp))(ea:jC [R,B,U]=.ok (true,.tup [.str t',X',Y']))(ht:decide (t' = "endless")=decide (t = "endless"))
  (hw:t = "endless"\/∃p q l:Q2,aW [U,X']=.ok (false,qD p)/\W=qD q/\bF [qD p,qD q]=.ok (false,qD l)/\l.1=0):∃m',kT (sE X B R U V x9 (.fz F0) (.fz (.str kp)) (.fz W) (.fz P) .un x18 x19 x20)=.ok (.rt false (.bl true),m')/\m'.length=21:=by
 have s1:bf 13 (fFn cC (aa (aD 8) (aa (aD 7) (aa (aD 10) (aa (aD 11) az))))) (sE X B R U V x9 (.fz F0) (.fz (.str kp)) (.fz W) (.fz P) .un x18 x19 x20)=.ok (.nx,(sE X B R U V x9 (.fz (.tup (.str t::ds))) (.fz (.str kp)) (.fz W) (.fz P) .un x18 x19 x20)):=by
  unfold bf
  rw [b8 (ds:=[R,B,U,V]) rfl es]
  rfl
 have s2:aQ gNe (fUn jw (aj 13)) (aj 14) (sE X B R U V x9 (.fz (.tup (.str t::ds))) (.fz (.str kp)) (.fz W) (.fz P) .un x18 x19 x20)=.ok false:=by
  have:(fUn jw (aj 13)) (sE X B R U V x9 (.fz (.tup (.str t::ds))) (.fz (.str kp)) (.fz W) (.fz P) .un x18 x19 x20)=.ok (.str kp):=by
   show ofO (jw (.tup (.str t::ds)))=_
   rw [er]
   rfl
  unfold aQ
  rw [this]
  show ofO (gNe (.str kp) (.str kp))=_
  simp [gNe]
 have s3:bf 17 (fFn jC (aa (aD 8) (aa (aD 7) (aa (aD 10) az)))) (sE X B R U V x9 (.fz (.tup (.str t::ds))) (.fz (.str kp)) (.fz W) (.fz P) .un x18 x19 x20)=.ok (.nx,(sE X B R U V x9 (.fz (.tup (.str t::ds))) (.fz (.str kp)) (.fz W) (.fz P) (.fz (.tup [.str t',X',Y'])) x18 x19 x20)):=by
  unfold bf
  rw [b8 (ds:=[R,B,U]) rfl ea]
  rfl
 have i13:gIx (.tup (.str t::ds)) (.int 0)=some (.str t):=by
  show atI (.str t::ds) 0=_
  exact K4 (j:=0) rfl
 have i17:gIx (.tup [.str t',X',Y']) (.int 0)=some (.str t'):=rfl
 have q13:iI gEq (aA gIx (aj 13) (fC (.int 0))) (fC (.str "endless")) (sE X B R U V x9 (.fz (.tup (.str t::ds))) (.fz (.str kp)) (.fz W) (.fz P) (.fz (.tup [.str t',X',Y'])) x18 x19 x20)=.ok (.bl (decide (t = "endless"))):=by
  have:(aA gIx (aj 13) (fC (.int 0))) (sE X B R U V x9 (.fz (.tup (.str t::ds))) (.fz (.str kp)) (.fz W) (.fz P) (.fz (.tup [.str t',X',Y'])) x18 x19 x20)=.ok (.str t):=by
   show ofO (gIx (.tup (.str t::ds)) (.int 0))=_
   rw [i13]
   rfl
  unfold iI
  rw [this]
  rfl
 have q17:iI gEq (aA gIx (aj 17) (fC (.int 0))) (fC (.str "endless")) (sE X B R U V x9 (.fz (.tup (.str t::ds))) (.fz (.str kp)) (.fz W) (.fz P) (.fz (.tup [.str t',X',Y'])) x18 x19 x20)=.ok (.bl (decide (t' = "endless"))):=rfl
 have s4:aQ gNe (iI gEq (aA gIx (aj 17) (fC (.int 0))) (fC (.str "endless"))) (iI gEq (aA gIx (aj 13) (fC (.int 0))) (fC (.str "endless"))) (sE X B R U V x9 (.fz (.tup (.str t::ds))) (.fz (.str kp)) (.fz W) (.fz P) (.fz (.tup [.str t',X',Y'])) x18 x19 x20)=.ok false:=by
  unfold aQ
  rw [q17,q13,ht]
  show ofO (gNe (.bl _) (.bl _))=_
  simp [gNe,gEq]
 have el:Me.let (sE X B R U V x9 (.fz (.tup (.str t::ds))) (.fz (.str kp)) (.fz W) (.fz P) (.fz (.tup [.str t',X',Y'])) x18 x19 x20)=(sE X B R U V x9 (.fz (.tup (.str t::ds))) (.fz (.str kp)) (.fz W) (.fz P) (.fz (.tup [.str t',X',Y'])) x18 x19 x20):=by
  have h9:=hl x9 (by simp)
  have h18:=hl x18 (by simp)
  have h19:=hl x19 (by simp)
  have h20:=hl x20 (by simp)
  simp only [sE,Me.let,List.map_cons,List.map_nil,h9,h18,h19,h20]
  rfl
 have s5:fOr (iI gEq (aA gIx (aj 13) (fC (.int 0))) (fC (.str "endless"))) (iI gEq (aA gIx (fFn bF (aa (fFn aW (aa (aD 10) (aa (aA gIx (aj 17) (fC (.int 1))) az))) (aa (aD 15) az))) (fC (.int 0))) (fC (.int 0))) (sE X B R U V x9 (.fz (.tup (.str t::ds))) (.fz (.str kp)) (.fz W) (.fz P) (.fz (.tup [.str t',X',Y'])) x18 x19 x20)=.ok (.bl true):=by
  by_cases z:t = "endless"
  ·exact aar (by rw [q13,decide_eq_true z])
  ·rcases hw with hw | ⟨p,q,l,h1,rfl,h3,h4⟩
   ·exact absurd hw z
   ·exact aaV (by rw [q13,decide_eq_false z]) (Kw (b8 (bA (b8 (ds:=[U,X']) rfl h1) (ds:=[qD q]) rfl) h3) h4)
 refine ⟨(sE X B R U V x9 (.fz (.tup (.str t::ds))) (.fz (.str kp)) (.fz W) (.fz P) (.fz (.tup [.str t',X',Y'])) x18 x19 x20),?_,rfl⟩
 unfold kT
 rw [aZ s1]
 refine (eZ s2).trans ?_
 rw [aZ s3]
 refine (eZ s4).trans ?_
 unfold bT
 rw [el,s5]
 rfl
abbrev hL (y:Addr)(A:List D):Sl:=.hd true y (.lst A)
abbrev rN (A:List D):List D:=A.reverse++[.non]
abbrev tE (y1 y2:Addr):Sl:=.fz (.tup [.str "endless",.adr y1,.adr y2])
abbrev tN (y1 y2 y3:Addr):Sl:=.fz (.tup [.str "endless next",.adr y1,.adr y2,.adr y3])
abbrev tB (y1 y2 y3:Addr)(L:D):Sl:=.fz (.tup [.str "best",.adr y1,.adr y2,.adr y3,L])
theorem YH {X:Nat->D}{B R U V:D}{x9:Sl}{y1 y2:Addr}{A1 A2:List D}{W X' Y':D}{kp t':Str}(n12:y1≠y2)(l1:A1.length<=1000)(l2:A2.length<=1000)(hx9:x9=.un\/∃d,x9=.fz d)(h1:gNe (.tup [R,B,U,V]) (.tup [R,B,U,V])=some false)(es:cC [R,B,U,V]=.ok (true,.tup [.str "endless",.lst A1,.lst A2]))(ri:cD [.tup [.str "endless",.lst A1,.lst A2],R,B,.tup [U,V]]=.ok (false,.bl true))(er:jw (.tup [.str "endless",.lst A1,.lst A2])=some (.str kp))(ed:aW [U,.lst A1]=.ok (false,W))(fW:gj W=true)(ea:jC [R,B,U]=.ok (true,.tup [.str t',X',Y']))(ht:decide (t' = "endless")=decide (("endless" : Str) = "endless"))
  (hw:("endless" : Str) = "endless"\/∃p q l:Q2,aW [U,X']=.ok (false,qD p)/\W=qD q/\bF [qD p,qD q]=.ok (false,qD l)/\l.1=0):∃m',kE (sE X B R U V x9 (tE y1 y2) .un .un .un .un (hL y1 A1) (hL y2 A2) .un)=.ok (.rt false (.bl true),m')/\m'.length=21:=by
 have vw:fK 13 [18,19,20] (sE X B R U V x9 (tE y1 y2) .un .un .un .un (hL y1 A1) (hL y2 A2) .un)=.ok (.tup [.str "endless",.lst A1,.lst A2]):=by
  simp [sE,fK,vwT,Pz,Rh,QR,n12,n12.symm]
 have vw2:fK 13 [18,19,20] (sE X B R U V x9 (tE y1 y2) .un .un .un .un (hL y1 A1) (hL y2 A2) .un)=.ok (.tup [.str "endless",.lst A1,.lst A2]):=vw
 have s1:oh (aQ gNe (aj 12) (gm (aa (aD 8) (aa (aD 7) (aa (aD 10) (aa (aD 11) az)))))) (iU (fTv (rE cD (aa (fK 13 [18,19,20]) (aa (aj 8) (aa (aj 7) (aa (gm (aa (aD 10) (aa (aD 11) az))) az))))))) (sE X B R U V x9 (tE y1 y2) .un .un .un .un (hL y1 A1) (hL y2 A2) .un)=.ok false:=by
  have q1:aQ gNe (aj 12) (gm (aa (aD 8) (aa (aD 7) (aa (aD 10) (aa (aD 11) az))))) (sE X B R U V x9 (tE y1 y2) .un .un .un .un (hL y1 A1) (hL y2 A2) .un)=.ok false:=by
   show ofO (gNe (.tup [R,B,U,V]) (.tup [R,B,U,V]))=_
   rw [h1]
   rfl
  have q2:rE cD (aa (fK 13 [18,19,20]) (aa (aj 8) (aa (aj 7) (aa (gm (aa (aD 10) (aa (aD 11) az))) az)))) (sE X B R U V x9 (tE y1 y2) .un .un .un .un (hL y1 A1) (hL y2 A2) .un)=.ok (.bl true):=by
   unfold rE
   rw [bA vw (ds:=[R,B,.tup [U,V]]) rfl,Res.bh,ri]
   rfl
  exact zc q1 (jE q2)
 have s2:bf 14 (fUn jw (fK 13 [18,19,20])) (sE X B R U V x9 (tE y1 y2) .un .un .un .un (hL y1 A1) (hL y2 A2) .un)=.ok (.nx,(sE X B R U V x9 (tE y1 y2) (.fz (.str kp)) .un .un .un (hL y1 A1) (hL y2 A2) .un)):=by
  unfold bf fUn
  rw [vw,Res.bh,er]
  rfl
 have s3:bf 15 (rE aW (aa (aj 10) (aa (zE 18 (aA gIx (aj 13) (fC (.int 1)))) az))) (sE X B R U V x9 (tE y1 y2) (.fz (.str kp)) .un .un .un (hL y1 A1) (hL y2 A2) .un)=.ok (.nx,(sE X B R U V x9 (tE y1 y2) (.fz (.str kp)) (.fz W) .un .un (hL y1 A1) (hL y2 A2) .un)):=by
  have ea:(zE 18 (aA gIx (aj 13) (fC (.int 1)))) (sE X B R U V x9 (tE y1 y2) (.fz (.str kp)) .un .un .un (hL y1 A1) (hL y2 A2) .un)=.ok (.lst A1):=by
   have i1:gIx (.tup [.str "endless",.adr y1,.adr y2]) (.int 1)=some (.adr y1):=rfl
   simp [sE,zE,aA,aj,fC,i1]
  unfold bf rE
  rw [bA (f:=aj 10) (d:=U) rfl (bA ea rfl),Res.bh,ed,Res.bh,if_pos fW]
  rfl
 have b1:jg (sE X B R U V x9 (tE y1 y2) (.fz (.str kp)) (.fz W) (.fz (.adr y1)) .un (hL y1 A1) (hL y2 A2) .un)=.ok (.nx,(sE X B R U V x9 (tE y1 y2) (.fz (.str kp)) (.fz W) (.fz (.adr y1)) .un (hL y1 (rN A1)) (hL y2 A2) .un)):=kY (a:=y1) (j:=18) (ds:=A1) (m1:=(sE X B R U V x9 (tE y1 y2) (.fz (.str kp)) (.fz W) (.fz (.adr y1)) .un (hL y1 A1.reverse) (hL y2 A2) .un)) rfl (hx9.elim (λh=>by subst h;simp [sE,gH,n12,n12.symm]) λ⟨d,h⟩=>by subst h;simp [sE,gH,n12,n12.symm]) rfl rfl (hx9.elim (λh=>by subst h;simp [sE,gH,n12,n12.symm]) λ⟨d,h⟩=>by subst h;simp [sE,gH,n12,n12.symm]) l1 rfl
 have b2:jg (sE X B R U V x9 (tE y1 y2) (.fz (.str kp)) (.fz W) (.fz (.adr y2)) .un (hL y1 (rN A1)) (hL y2 A2) .un)=.ok (.nx,(sE X B R U V x9 (tE y1 y2) (.fz (.str kp)) (.fz W) (.fz (.adr y2)) .un (hL y1 (rN A1)) (hL y2 (rN A2)) .un)):=kY (a:=y2) (j:=19) (ds:=A2) (m1:=(sE X B R U V x9 (tE y1 y2) (.fz (.str kp)) (.fz W) (.fz (.adr y2)) .un (hL y1 (rN A1)) (hL y2 A2.reverse) .un)) rfl (hx9.elim (λh=>by subst h;simp [sE,gH,n12,n12.symm]) λ⟨d,h⟩=>by subst h;simp [sE,gH,n12,n12.symm]) rfl rfl (hx9.elim (λh=>by subst h;simp [sE,gH,n12,n12.symm]) λ⟨d,h⟩=>by subst h;simp [sE,gH,n12,n12.symm]) l2 rfl
 have s4:nR (sE X B R U V x9 (tE y1 y2) (.fz (.str kp)) (.fz W) .un .un (hL y1 A1) (hL y2 A2) .un)=.ok (.nx,(sE X B R U V x9 (tE y1 y2) (.fz (.str kp)) (.fz W) (.fz (.adr y2)) .un (hL y1 (rN A1)) (hL y2 (rN A2)) .un)):=by
  unfold nR lZ
  rw [show Ji (fSl (aj 13) (fO1 (fC (.int 1))) (fO1 (fC (.int 4)))) (sE X B R U V x9 (tE y1 y2) (.fz (.str kp)) (.fz W) .un .un (hL y1 A1) (hL y2 A2) .un)=.ok [.adr y1,.adr y2] from rfl,Res.bh]
  refine (qP (m1:=(sE X B R U V x9 (tE y1 y2) (.fz (.str kp)) (.fz W) (.fz (.adr y1)) .un (hL y1 A1) (hL y2 A2) .un)) rfl b1).trans ?_
  refine (qP (m1:=(sE X B R U V x9 (tE y1 y2) (.fz (.str kp)) (.fz W) (.fz (.adr y2)) .un (hL y1 (rN A1)) (hL y2 A2) .un)) rfl b2).trans ?_
  rfl
 have tl:=tail_eq (X:=X) (F0:=.tup [.str "endless",.adr y1,.adr y2]) (P:=.adr y2) (x9:=x9) (x18:=hL y1 (rN A1)) (x19:=hL y2 (rN A2)) (x20:=.un) (λs hs=>by
  rcases List.mem_cons.mp hs with rfl | hs
  ·rcases hx9 with rfl | ⟨d,rfl⟩<;>rfl
  rcases List.mem_cons.mp hs with rfl | hs
  ·rfl
  rcases List.mem_cons.mp hs with rfl | hs
  ·rfl
  rcases List.mem_cons.mp hs with rfl | hs
  ·rfl
  cases hs) es er ea ht hw
 obtain ⟨m',e,hl⟩:=tl
 refine ⟨m',?_,hl⟩
 unfold kE
 refine (eZ s1).trans ?_
 rw [aZ s2,aZ s3,aZ s4]
 exact e
theorem Zn {X:Nat->D}{B R U V:D}{x9:Sl}{y1 y2 y3:Addr}{A1 A2 A3:List D}{W X' Y':D}{kp t':Str}(n12:y1≠y2)(n13:y1≠y3)(n23:y2≠y3)(l1:A1.length<=1000)(l2:A2.length<=1000)(l3:A3.length<=1000)(hx9:x9=.un\/∃d,x9=.fz d)(h1:gNe (.tup [R,B,U,V]) (.tup [R,B,U,V])=some false)(es:cC [R,B,U,V]=.ok (true,.tup [.str "endless next",.lst A1,.lst A2,.lst A3]))(ri:cD [.tup [.str "endless next",.lst A1,.lst A2,.lst A3],R,B,.tup [U,V]]=.ok (false,.bl true))(er:jw (.tup [.str "endless next",.lst A1,.lst A2,.lst A3])=some (.str kp))(ed:aW [U,.lst A1]=.ok (false,W))(fW:gj W=true)(ea:jC [R,B,U]=.ok (true,.tup [.str t',X',Y']))(ht:decide (t' = "endless")=decide (("endless next" : Str) = "endless"))
  (hw:("endless next" : Str) = "endless"\/∃p q l:Q2,aW [U,X']=.ok (false,qD p)/\W=qD q/\bF [qD p,qD q]=.ok (false,qD l)/\l.1=0):∃m',kE (sE X B R U V x9 (tN y1 y2 y3) .un .un .un .un (hL y1 A1) (hL y2 A2) (hL y3 A3))=.ok (.rt false (.bl true),m')/\m'.length=21:=by
 have vw:fK 13 [18,19,20] (sE X B R U V x9 (tN y1 y2 y3) .un .un .un .un (hL y1 A1) (hL y2 A2) (hL y3 A3))=.ok (.tup [.str "endless next",.lst A1,.lst A2,.lst A3]):=by
  simp [sE,fK,vwT,Pz,Rh,QR,n12,n13,n23,n12.symm,n13.symm,n23.symm]
 have vw2:fK 13 [18,19,20] (sE X B R U V x9 (tN y1 y2 y3) .un .un .un .un (hL y1 A1) (hL y2 A2) (hL y3 A3))=.ok (.tup [.str "endless next",.lst A1,.lst A2,.lst A3]):=vw
 have s1:oh (aQ gNe (aj 12) (gm (aa (aD 8) (aa (aD 7) (aa (aD 10) (aa (aD 11) az)))))) (iU (fTv (rE cD (aa (fK 13 [18,19,20]) (aa (aj 8) (aa (aj 7) (aa (gm (aa (aD 10) (aa (aD 11) az))) az))))))) (sE X B R U V x9 (tN y1 y2 y3) .un .un .un .un (hL y1 A1) (hL y2 A2) (hL y3 A3))=.ok false:=by
  have q1:aQ gNe (aj 12) (gm (aa (aD 8) (aa (aD 7) (aa (aD 10) (aa (aD 11) az))))) (sE X B R U V x9 (tN y1 y2 y3) .un .un .un .un (hL y1 A1) (hL y2 A2) (hL y3 A3))=.ok false:=by
   show ofO (gNe (.tup [R,B,U,V]) (.tup [R,B,U,V]))=_
   rw [h1]
   rfl
  have q2:rE cD (aa (fK 13 [18,19,20]) (aa (aj 8) (aa (aj 7) (aa (gm (aa (aD 10) (aa (aD 11) az))) az)))) (sE X B R U V x9 (tN y1 y2 y3) .un .un .un .un (hL y1 A1) (hL y2 A2) (hL y3 A3))=.ok (.bl true):=by
   unfold rE
   rw [bA vw (ds:=[R,B,.tup [U,V]]) rfl,Res.bh,ri]
   rfl
  exact zc q1 (jE q2)
 have s2:bf 14 (fUn jw (fK 13 [18,19,20])) (sE X B R U V x9 (tN y1 y2 y3) .un .un .un .un (hL y1 A1) (hL y2 A2) (hL y3 A3))=.ok (.nx,(sE X B R U V x9 (tN y1 y2 y3) (.fz (.str kp)) .un .un .un (hL y1 A1) (hL y2 A2) (hL y3 A3))):=by
  unfold bf fUn
  rw [vw,Res.bh,er]
  rfl
 have s3:bf 15 (rE aW (aa (aj 10) (aa (zE 18 (aA gIx (aj 13) (fC (.int 1)))) az))) (sE X B R U V x9 (tN y1 y2 y3) (.fz (.str kp)) .un .un .un (hL y1 A1) (hL y2 A2) (hL y3 A3))=.ok (.nx,(sE X B R U V x9 (tN y1 y2 y3) (.fz (.str kp)) (.fz W) .un .un (hL y1 A1) (hL y2 A2) (hL y3 A3))):=by
  have ea:(zE 18 (aA gIx (aj 13) (fC (.int 1)))) (sE X B R U V x9 (tN y1 y2 y3) (.fz (.str kp)) .un .un .un (hL y1 A1) (hL y2 A2) (hL y3 A3))=.ok (.lst A1):=by
   have i1:gIx (.tup [.str "endless next",.adr y1,.adr y2,.adr y3]) (.int 1)=some (.adr y1):=rfl
   simp [sE,zE,aA,aj,fC,i1]
  unfold bf rE
  rw [bA (f:=aj 10) (d:=U) rfl (bA ea rfl),Res.bh,ed,Res.bh,if_pos fW]
  rfl
 have b1:jg (sE X B R U V x9 (tN y1 y2 y3) (.fz (.str kp)) (.fz W) (.fz (.adr y1)) .un (hL y1 A1) (hL y2 A2) (hL y3 A3))=.ok (.nx,(sE X B R U V x9 (tN y1 y2 y3) (.fz (.str kp)) (.fz W) (.fz (.adr y1)) .un (hL y1 (rN A1)) (hL y2 A2) (hL y3 A3))):=kY (a:=y1) (j:=18) (ds:=A1) (m1:=(sE X B R U V x9 (tN y1 y2 y3) (.fz (.str kp)) (.fz W) (.fz (.adr y1)) .un (hL y1 A1.reverse) (hL y2 A2) (hL y3 A3))) rfl (hx9.elim (λh=>by subst h;simp [sE,gH,n12,n13,n23,n12.symm,n13.symm,n23.symm]) λ⟨d,h⟩=>by subst h;simp [sE,gH,n12,n13,n23,n12.symm,n13.symm,n23.symm]) rfl rfl (hx9.elim (λh=>by subst h;simp [sE,gH,n12,n13,n23,n12.symm,n13.symm,n23.symm]) λ⟨d,h⟩=>by subst h;simp [sE,gH,n12,n13,n23,n12.symm,n13.symm,n23.symm]) l1 rfl
 have b2:jg (sE X B R U V x9 (tN y1 y2 y3) (.fz (.str kp)) (.fz W) (.fz (.adr y2)) .un (hL y1 (rN A1)) (hL y2 A2) (hL y3 A3))=.ok (.nx,(sE X B R U V x9 (tN y1 y2 y3) (.fz (.str kp)) (.fz W) (.fz (.adr y2)) .un (hL y1 (rN A1)) (hL y2 (rN A2)) (hL y3 A3))):=kY (a:=y2) (j:=19) (ds:=A2) (m1:=(sE X B R U V x9 (tN y1 y2 y3) (.fz (.str kp)) (.fz W) (.fz (.adr y2)) .un (hL y1 (rN A1)) (hL y2 A2.reverse) (hL y3 A3))) rfl (hx9.elim (λh=>by subst h;simp [sE,gH,n12,n13,n23,n12.symm,n13.symm,n23.symm]) λ⟨d,h⟩=>by subst h;simp [sE,gH,n12,n13,n23,n12.symm,n13.symm,n23.symm]) rfl rfl (hx9.elim (λh=>by subst h;simp [sE,gH,n12,n13,n23,n12.symm,n13.symm,n23.symm]) λ⟨d,h⟩=>by subst h;simp [sE,gH,n12,n13,n23,n12.symm,n13.symm,n23.symm]) l2 rfl
 have b3:jg (sE X B R U V x9 (tN y1 y2 y3) (.fz (.str kp)) (.fz W) (.fz (.adr y3)) .un (hL y1 (rN A1)) (hL y2 (rN A2)) (hL y3 A3))=.ok (.nx,(sE X B R U V x9 (tN y1 y2 y3) (.fz (.str kp)) (.fz W) (.fz (.adr y3)) .un (hL y1 (rN A1)) (hL y2 (rN A2)) (hL y3 (rN A3)))):=kY (a:=y3) (j:=20) (ds:=A3) (m1:=(sE X B R U V x9 (tN y1 y2 y3) (.fz (.str kp)) (.fz W) (.fz (.adr y3)) .un (hL y1 (rN A1)) (hL y2 (rN A2)) (hL y3 A3.reverse))) rfl (hx9.elim (λh=>by subst h;simp [sE,gH,n12,n13,n23,n12.symm,n13.symm,n23.symm]) λ⟨d,h⟩=>by subst h;simp [sE,gH,n12,n13,n23,n12.symm,n13.symm,n23.symm]) rfl rfl (hx9.elim (λh=>by subst h;simp [sE,gH,n12,n13,n23,n12.symm,n13.symm,n23.symm]) λ⟨d,h⟩=>by subst h;simp [sE,gH,n12,n13,n23,n12.symm,n13.symm,n23.symm]) l3 rfl
 have s4:nR (sE X B R U V x9 (tN y1 y2 y3) (.fz (.str kp)) (.fz W) .un .un (hL y1 A1) (hL y2 A2) (hL y3 A3))=.ok (.nx,(sE X B R U V x9 (tN y1 y2 y3) (.fz (.str kp)) (.fz W) (.fz (.adr y3)) .un (hL y1 (rN A1)) (hL y2 (rN A2)) (hL y3 (rN A3)))):=by
  unfold nR lZ
  rw [show Ji (fSl (aj 13) (fO1 (fC (.int 1))) (fO1 (fC (.int 4)))) (sE X B R U V x9 (tN y1 y2 y3) (.fz (.str kp)) (.fz W) .un .un (hL y1 A1) (hL y2 A2) (hL y3 A3))=.ok [.adr y1,.adr y2,.adr y3] from rfl,Res.bh]
  refine (qP (m1:=(sE X B R U V x9 (tN y1 y2 y3) (.fz (.str kp)) (.fz W) (.fz (.adr y1)) .un (hL y1 A1) (hL y2 A2) (hL y3 A3))) rfl b1).trans ?_
  refine (qP (m1:=(sE X B R U V x9 (tN y1 y2 y3) (.fz (.str kp)) (.fz W) (.fz (.adr y2)) .un (hL y1 (rN A1)) (hL y2 A2) (hL y3 A3))) rfl b2).trans ?_
  refine (qP (m1:=(sE X B R U V x9 (tN y1 y2 y3) (.fz (.str kp)) (.fz W) (.fz (.adr y3)) .un (hL y1 (rN A1)) (hL y2 (rN A2)) (hL y3 A3))) rfl b3).trans ?_
  rfl
 have tl:=tail_eq (X:=X) (F0:=.tup [.str "endless next",.adr y1,.adr y2,.adr y3]) (P:=.adr y3) (x9:=x9) (x18:=hL y1 (rN A1)) (x19:=hL y2 (rN A2)) (x20:=hL y3 (rN A3)) (λs hs=>by
  rcases List.mem_cons.mp hs with rfl | hs
  ·rcases hx9 with rfl | ⟨d,rfl⟩<;>rfl
  rcases List.mem_cons.mp hs with rfl | hs
  ·rfl
  rcases List.mem_cons.mp hs with rfl | hs
  ·rfl
  rcases List.mem_cons.mp hs with rfl | hs
  ·rfl
  cases hs) es er ea ht hw
 obtain ⟨m',e,hl⟩:=tl
 refine ⟨m',?_,hl⟩
 unfold kE
 refine (eZ s1).trans ?_
 rw [aZ s2,aZ s3,aZ s4]
 exact e
theorem YJ {X:Nat->D}{B R U V:D}{x9:Sl}{y1 y2 y3:Addr}{A1 A2 A3:List D}{L:D}{W X' Y':D}{kp t':Str}(n12:y1≠y2)(n13:y1≠y3)(n23:y2≠y3)(l1:A1.length<=1000)(l2:A2.length<=1000)(l3:A3.length<=1000)(hLa:∀A e,zF A e L=L)(hx9:x9=.un\/∃d,x9=.fz d)(h1:gNe (.tup [R,B,U,V]) (.tup [R,B,U,V])=some false)(es:cC [R,B,U,V]=.ok (true,.tup [.str "best",.lst A1,.lst A2,.lst A3,L]))(ri:cD [.tup [.str "best",.lst A1,.lst A2,.lst A3,L],R,B,.tup [U,V]]=.ok (false,.bl true))(er:jw (.tup [.str "best",.lst A1,.lst A2,.lst A3,L])=some (.str kp))(ed:aW [U,.lst A1]=.ok (false,W))(fW:gj W=true)(ea:jC [R,B,U]=.ok (true,.tup [.str t',X',Y']))(ht:decide (t' = "endless")=decide (("best" : Str) = "endless"))
  (hw:("best" : Str) = "endless"\/∃p q l:Q2,aW [U,X']=.ok (false,qD p)/\W=qD q/\bF [qD p,qD q]=.ok (false,qD l)/\l.1=0):∃m',kE (sE X B R U V x9 (tB y1 y2 y3 L) .un .un .un .un (hL y1 A1) (hL y2 A2) (hL y3 A3))=.ok (.rt false (.bl true),m')/\m'.length=21:=by
 have vw:fK 13 [18,19,20] (sE X B R U V x9 (tB y1 y2 y3 L) .un .un .un .un (hL y1 A1) (hL y2 A2) (hL y3 A3))=.ok (.tup [.str "best",.lst A1,.lst A2,.lst A3,L]):=by
  simp [sE,fK,vwT,Pz,Rh,QR,n12,n13,n23,n12.symm,n13.symm,n23.symm,hLa]
 have vw2:fK 13 [18,19,20] (sE X B R U V x9 (tB y1 y2 y3 L) .un .un .un .un (hL y1 A1) (hL y2 A2) (hL y3 A3))=.ok (.tup [.str "best",.lst A1,.lst A2,.lst A3,L]):=vw
 have s1:oh (aQ gNe (aj 12) (gm (aa (aD 8) (aa (aD 7) (aa (aD 10) (aa (aD 11) az)))))) (iU (fTv (rE cD (aa (fK 13 [18,19,20]) (aa (aj 8) (aa (aj 7) (aa (gm (aa (aD 10) (aa (aD 11) az))) az))))))) (sE X B R U V x9 (tB y1 y2 y3 L) .un .un .un .un (hL y1 A1) (hL y2 A2) (hL y3 A3))=.ok false:=by
  have q1:aQ gNe (aj 12) (gm (aa (aD 8) (aa (aD 7) (aa (aD 10) (aa (aD 11) az))))) (sE X B R U V x9 (tB y1 y2 y3 L) .un .un .un .un (hL y1 A1) (hL y2 A2) (hL y3 A3))=.ok false:=by
   show ofO (gNe (.tup [R,B,U,V]) (.tup [R,B,U,V]))=_
   rw [h1]
   rfl
  have q2:rE cD (aa (fK 13 [18,19,20]) (aa (aj 8) (aa (aj 7) (aa (gm (aa (aD 10) (aa (aD 11) az))) az)))) (sE X B R U V x9 (tB y1 y2 y3 L) .un .un .un .un (hL y1 A1) (hL y2 A2) (hL y3 A3))=.ok (.bl true):=by
   unfold rE
   rw [bA vw (ds:=[R,B,.tup [U,V]]) rfl,Res.bh,ri]
   rfl
  exact zc q1 (jE q2)
 have s2:bf 14 (fUn jw (fK 13 [18,19,20])) (sE X B R U V x9 (tB y1 y2 y3 L) .un .un .un .un (hL y1 A1) (hL y2 A2) (hL y3 A3))=.ok (.nx,(sE X B R U V x9 (tB y1 y2 y3 L) (.fz (.str kp)) .un .un .un (hL y1 A1) (hL y2 A2) (hL y3 A3))):=by
  unfold bf fUn
  rw [vw,Res.bh,er]
  rfl
 have s3:bf 15 (rE aW (aa (aj 10) (aa (zE 18 (aA gIx (aj 13) (fC (.int 1)))) az))) (sE X B R U V x9 (tB y1 y2 y3 L) (.fz (.str kp)) .un .un .un (hL y1 A1) (hL y2 A2) (hL y3 A3))=.ok (.nx,(sE X B R U V x9 (tB y1 y2 y3 L) (.fz (.str kp)) (.fz W) .un .un (hL y1 A1) (hL y2 A2) (hL y3 A3))):=by
  have ea:(zE 18 (aA gIx (aj 13) (fC (.int 1)))) (sE X B R U V x9 (tB y1 y2 y3 L) (.fz (.str kp)) .un .un .un (hL y1 A1) (hL y2 A2) (hL y3 A3))=.ok (.lst A1):=by
   have i1:gIx (.tup [.str "best",.adr y1,.adr y2,.adr y3,L]) (.int 1)=some (.adr y1):=rfl
   simp [sE,zE,aA,aj,fC,i1]
  unfold bf rE
  rw [bA (f:=aj 10) (d:=U) rfl (bA ea rfl),Res.bh,ed,Res.bh,if_pos fW]
  rfl
 have b1:jg (sE X B R U V x9 (tB y1 y2 y3 L) (.fz (.str kp)) (.fz W) (.fz (.adr y1)) .un (hL y1 A1) (hL y2 A2) (hL y3 A3))=.ok (.nx,(sE X B R U V x9 (tB y1 y2 y3 L) (.fz (.str kp)) (.fz W) (.fz (.adr y1)) .un (hL y1 (rN A1)) (hL y2 A2) (hL y3 A3))):=kY (a:=y1) (j:=18) (ds:=A1) (m1:=(sE X B R U V x9 (tB y1 y2 y3 L) (.fz (.str kp)) (.fz W) (.fz (.adr y1)) .un (hL y1 A1.reverse) (hL y2 A2) (hL y3 A3))) rfl (hx9.elim (λh=>by subst h;simp [sE,gH,n12,n13,n23,n12.symm,n13.symm,n23.symm]) λ⟨d,h⟩=>by subst h;simp [sE,gH,n12,n13,n23,n12.symm,n13.symm,n23.symm]) rfl rfl (hx9.elim (λh=>by subst h;simp [sE,gH,n12,n13,n23,n12.symm,n13.symm,n23.symm]) λ⟨d,h⟩=>by subst h;simp [sE,gH,n12,n13,n23,n12.symm,n13.symm,n23.symm]) l1 rfl
 have b2:jg (sE X B R U V x9 (tB y1 y2 y3 L) (.fz (.str kp)) (.fz W) (.fz (.adr y2)) .un (hL y1 (rN A1)) (hL y2 A2) (hL y3 A3))=.ok (.nx,(sE X B R U V x9 (tB y1 y2 y3 L) (.fz (.str kp)) (.fz W) (.fz (.adr y2)) .un (hL y1 (rN A1)) (hL y2 (rN A2)) (hL y3 A3))):=kY (a:=y2) (j:=19) (ds:=A2) (m1:=(sE X B R U V x9 (tB y1 y2 y3 L) (.fz (.str kp)) (.fz W) (.fz (.adr y2)) .un (hL y1 (rN A1)) (hL y2 A2.reverse) (hL y3 A3))) rfl (hx9.elim (λh=>by subst h;simp [sE,gH,n12,n13,n23,n12.symm,n13.symm,n23.symm]) λ⟨d,h⟩=>by subst h;simp [sE,gH,n12,n13,n23,n12.symm,n13.symm,n23.symm]) rfl rfl (hx9.elim (λh=>by subst h;simp [sE,gH,n12,n13,n23,n12.symm,n13.symm,n23.symm]) λ⟨d,h⟩=>by subst h;simp [sE,gH,n12,n13,n23,n12.symm,n13.symm,n23.symm]) l2 rfl
 have b3:jg (sE X B R U V x9 (tB y1 y2 y3 L) (.fz (.str kp)) (.fz W) (.fz (.adr y3)) .un (hL y1 (rN A1)) (hL y2 (rN A2)) (hL y3 A3))=.ok (.nx,(sE X B R U V x9 (tB y1 y2 y3 L) (.fz (.str kp)) (.fz W) (.fz (.adr y3)) .un (hL y1 (rN A1)) (hL y2 (rN A2)) (hL y3 (rN A3)))):=kY (a:=y3) (j:=20) (ds:=A3) (m1:=(sE X B R U V x9 (tB y1 y2 y3 L) (.fz (.str kp)) (.fz W) (.fz (.adr y3)) .un (hL y1 (rN A1)) (hL y2 (rN A2)) (hL y3 A3.reverse))) rfl (hx9.elim (λh=>by subst h;simp [sE,gH,n12,n13,n23,n12.symm,n13.symm,n23.symm]) λ⟨d,h⟩=>by subst h;simp [sE,gH,n12,n13,n23,n12.symm,n13.symm,n23.symm]) rfl rfl (hx9.elim (λh=>by subst h;simp [sE,gH,n12,n13,n23,n12.symm,n13.symm,n23.symm]) λ⟨d,h⟩=>by subst h;simp [sE,gH,n12,n13,n23,n12.symm,n13.symm,n23.symm]) l3 rfl
 have s4:nR (sE X B R U V x9 (tB y1 y2 y3 L) (.fz (.str kp)) (.fz W) .un .un (hL y1 A1) (hL y2 A2) (hL y3 A3))=.ok (.nx,(sE X B R U V x9 (tB y1 y2 y3 L) (.fz (.str kp)) (.fz W) (.fz (.adr y3)) .un (hL y1 (rN A1)) (hL y2 (rN A2)) (hL y3 (rN A3)))):=by
  unfold nR lZ
  rw [show Ji (fSl (aj 13) (fO1 (fC (.int 1))) (fO1 (fC (.int 4)))) (sE X B R U V x9 (tB y1 y2 y3 L) (.fz (.str kp)) (.fz W) .un .un (hL y1 A1) (hL y2 A2) (hL y3 A3))=.ok [.adr y1,.adr y2,.adr y3] from rfl,Res.bh]
  refine (qP (m1:=(sE X B R U V x9 (tB y1 y2 y3 L) (.fz (.str kp)) (.fz W) (.fz (.adr y1)) .un (hL y1 A1) (hL y2 A2) (hL y3 A3))) rfl b1).trans ?_
  refine (qP (m1:=(sE X B R U V x9 (tB y1 y2 y3 L) (.fz (.str kp)) (.fz W) (.fz (.adr y2)) .un (hL y1 (rN A1)) (hL y2 A2) (hL y3 A3))) rfl b2).trans ?_
  refine (qP (m1:=(sE X B R U V x9 (tB y1 y2 y3 L) (.fz (.str kp)) (.fz W) (.fz (.adr y3)) .un (hL y1 (rN A1)) (hL y2 (rN A2)) (hL y3 A3))) rfl b3).trans ?_
  rfl
 have tl:=tail_eq (X:=X) (F0:=.tup [.str "best",.adr y1,.adr y2,.adr y3,L]) (P:=.adr y3) (x9:=x9) (x18:=hL y1 (rN A1)) (x19:=hL y2 (rN A2)) (x20:=hL y3 (rN A3)) (λs hs=>by
  rcases List.mem_cons.mp hs with rfl | hs
  ·rcases hx9 with rfl | ⟨d,rfl⟩<;>rfl
  rcases List.mem_cons.mp hs with rfl | hs
  ·rfl
  rcases List.mem_cons.mp hs with rfl | hs
  ·rfl
  rcases List.mem_cons.mp hs with rfl | hs
  ·rfl
  cases hs) es er ea ht hw
 obtain ⟨m',e,hl⟩:=tl
 refine ⟨m',?_,hl⟩
 unfold kE
 refine (eZ s1).trans ?_
 rw [aZ s2,aZ s3,aZ s4]
 exact e
open Sx (sr Crn cz wv)
section
variable (ns:List Int)
def hN:Nat:=(cl ns 0 % 9).toNat
def mN:Nat:=(1+cl ns 0 / 9 % 8).toNat
def srt:Int:=cl ns 0 / 72 % 4
def zN:Int:=cl ns 0 / 288 % 2
def bN (r:Nat):Q2:=Hq (cl ns (2+mN ns+r)) (srt ns) (zN ns)
def aN (r j:Nat):Q2:=xN (cl ns (2+mN ns+hN ns+r*mN ns+j)) (srt ns)
def vN (j:Nat):Q2:=xN (cl ns (2+mN ns+hN ns+hN ns*mN ns+j)+3*(j:Int)*(j:Int)) (srt ns)
end
section
variable {m n:Nat}{a:Nat->Nat->Q2}{b u v:Nat->Q2}
theorem Xq (I:In m n a b (uv u v)):In m n a b λ_=>u:=⟨I.m8,I.n8,I.ha,I.hb,I.b0,λ_=>I.hw 0⟩
theorem Rk (I:In m n a b (uv u v)):∃x t Y,(∀j,QL (x j))/\Sx.Fit m n (Aq a) (Vq b) (Vq x)/\jC [aK m n a,aO n b,au m u]=.ok (true,.tup [.str t,au m x,Y])/\
  ((t = "best"/\∃y,Sx.xU m n (Aq a) (Vq b) (Vq u) (Vq x) y)\/(t = "endless"/\∃d,Sx.Way m n (Aq a) (Vq u) d)):=by
 have I1:=Xq I
 obtain ⟨D,J,⟨h,e⟩ | ⟨q,q1,q2,q3,e⟩⟩:=Rw I1
 ·exact ⟨wD m n D,_,_,Ac I1 J,Hr I1 J,e,.inl ⟨rfl,_,JN (l:=0) I1 J J Oo h⟩⟩
 ·exact ⟨wD m n D,_,_,Ac I1 J,Hr I1 J,e,.inr ⟨rfl,_,O9 (l:=0) I1 J q1 q2 q3⟩⟩
theorem HH {x x':Nat->Q2}{y y':Nat->Rat}(hm:m<=8)(hu:∀r,cU (u r))(hx:∀j,QL (x j))(hx':∀j,QL (x' j))(f:Sx.Fit m n (Aq a) (Vq b) (Vq x))(f':Sx.Fit m n (Aq a) (Vq b) (Vq x'))(p:Sx.xU m n (Aq a) (Vq b) (Vq u) (Vq x) y)(p':Sx.xU m n (Aq a) (Vq b) (Vq u) (Vq x') y'):
  ∃p q l:Q2,aW [au m u,au m x']=.ok (false,qD p)/\qD (dt u x m)=qD q/\bF [qD p,qD q]=.ok (false,qD l)/\l.1=0:=by
 obtain ⟨f1,f2,f3,f4⟩:=jx hm hu hx
 obtain ⟨g1,g2,g3,g4⟩:=jx hm hu hx'
 obtain ⟨lp,lv⟩:=uY g3 f3
 refine ⟨_,_,_,g1,rfl,qW g2 f2,(Vk lp).mp ?_⟩
 have e1:=p.most f'
 have e2:=p'.most f
 have e1:sr m (λj=>vq (u j)*vq (x' j))<=sr m λj=>vq (u j)*vq (x j):=e1
 have e2:sr m (λj=>vq (u j)*vq (x j))<=sr m λj=>vq (u j)*vq (x' j):=e2
 rw [lv,f4,g4]
 grind
theorem Wm {z:Nat->Q2}(h:∀i,i<n->QL (z i)):∃z',(∀i,QL (z' i))/\au n z=au n z'/\∀i,i<n->z i=z' i:=by
 refine ⟨λi=>if i<n then z i else (0,1),λi=>?_,?_,λi hi=>(if_pos hi).symm⟩
 ·show QL (if i<n then z i else (0,1))
  split
  ·exact h i (by assumption)
  ·exact ql0
 ·unfold au
  congr 1
  exact kO λi hi=>by show qD (z i)=qD (if i<n then z i else (0,1));rw [if_pos hi]
theorem VD {x z z':Nat->Q2}{l:Rat}(h:∀i,i<n->z i=z' i)(N:Sx.Nxt m n (Aq a) (Vq b) (Vq u) (Vq v) (Vq x) (Vq z) l):Sx.Nxt m n (Aq a) (Vq b) (Vq u) (Vq v) (Vq x) (Vq z') l:=by
 have e:∀i,i<n->Vq z' i=Vq z i:=λi hi=>by show vq _=vq _;rw [h i hi]
 refine ⟨λi hi=>by rw [e i hi];exact N.nn i hi,N.l0,λj hj=>?_,?_⟩
 ·rw [Sx.bM λi hi=>by rw [e i hi]];exact N.ge j hj
 ·rw [Sx.bM (f:=λi=>Vq b i*Vq z' i) λi hi=>by rw [e i hi]];exact N.eq
theorem SX {M:Nat}{wl:Nat->Nat->Int}{ws:Nat->Int}{k:Nat}{L:Q2}(h:qN M wl ws k L):QL L:=⟨h.pos,h.g,dh h.bq.1 (by decide),dh h.bq.2 (by decide)⟩
theorem Fb {X:Nat->D}{B R U V:D}{x9:Sl}{k:Me->Res (Fl×Me)}{es:List D}(h:cC [R,B,U,V]=.ok (true,.tup es)):HJ 13 18 cC (aa (aA gIx (aj 12) (fC (.int 0))) (aa (aA gIx (aj 12) (fC (.int 1))) (aa (aA gIx (aj 12) (fC (.int 2))) (aa (aA gIx (aj 12) (fC (.int 3))) az)))) k (sE X B R U V x9 .un .un .un .un .un .un .un .un)=if 18+(oX es).length<=21 then Dp (oX es).length (λas=>k ((nT (sE X B R U V x9 .un .un .un .un .un .un .un .un) 18 as (oX es)).set 13 (.fz (.tup (Cq es as))))) (sE X B R U V x9 .un .un .un .un .un .un .un .un) else .stuck:=by
 unfold HJ
 rw [show (aa (aA gIx (aj 12) (fC (.int 0))) (aa (aA gIx (aj 12) (fC (.int 1))) (aa (aA gIx (aj 12) (fC (.int 2))) (aa (aA gIx (aj 12) (fC (.int 3))) az)))) (sE X B R U V x9 .un .un .un .un .un .un .un .un)=.ok [R,B,U,V] from rfl,Res.bh,h]
 rfl
theorem T4 {X:Nat->D}{x9:Sl}(I:In m n a b (uv u v))(hx9:x9=.un\/∃d,x9=.fz d):
  HJ 13 18 cC (aa (aA gIx (aj 12) (fC (.int 0))) (aa (aA gIx (aj 12) (fC (.int 1))) (aa (aA gIx (aj 12) (fC (.int 2))) (aa (aA gIx (aj 12) (fC (.int 3))) az)))) kE (sE X (aO n b) (aK m n a) (au m u) (au m v) x9 .un .un .un .un .un .un .un .un)=.ok (.rt false (.bl true),(sE X (aO n b) (aK m n a) (au m u) (au m v) x9 .un .un .un .un .un .un .un .un).map λ_=>.un):=by
 have hm:=I.m8
 have hn:=I.n8
 have hu:∀r,cU (u r):=I.hw 0
 have hv:∀r,cU (v r):=I.hw 1
 have h1:gNe (.tup [aK m n a,aO n b,au m u,au m v]) (.tup [aK m n a,aO n b,au m u,au m v])=some false:=by
  have a1:=okr (m:=m) (n:=n) (a:=a)
  have a2:=okq (k:=n) (u:=b)
  have a3:=okq (k:=m) (u:=u)
  have a4:=okq (k:=m) (u:=v)
  have e:aO n b=au n b:=rfl
  rw [e]
  exact Ht (by simp [okD,zG,a1.1,a2.1,a3.1,a4.1]) (by simp [qL,sH];omega)
 obtain ⟨x',t',Y',hx',hf',ea,k⟩:=Rk I
 have lr:∀{k:Nat} {q:Nat->Q2},k<=8->(rg k λi=>qD (q i)).length<=1000:=λhk=>by rw [bD];omega
 obtain ⟨D1,J1,⟨q,q1,q2,q3,es⟩ | ⟨D2,J2,hz,S,⟨q,q1,q0,q2,q3,es⟩ | ⟨L,li,hp,es⟩⟩⟩:=U8 I
 ·have hx:=Ac I J1
  have hf:=Hr I J1
  have hd:=Q6 I J1 q
  have hw:=O9 (l:=0) I J1 q1 q2 q3
  have ri:=M9 (v:=v) hm I.ha I.hb hu hx hf hd hw
  obtain ⟨p1,r1⟩:=vz hm hx
  obtain ⟨p2,r2⟩:=vz hm hd
  obtain ⟨kp,er⟩:=JP (Rps.tup (Rps.cons (JD (t:="endless") (N:=100) (by decide +kernel)) (Rps.cons r1 (Rps.cons r2 Rps.nil)))) (by simp) (by decide)
  obtain ⟨f1,f2,f3,f4⟩:=jx hm hu hx
  have ht:t' = "endless":=by
   rcases k with ⟨_,y,p⟩ | ⟨e,_⟩
   ·exact (p.JR hw).elim
   ·exact e
  refine (Fb es).trans ?_
  refine (if_pos ?_).trans ?_
  ·show 18+2<=21
   decide
  refine Bp λas hl nd=>?_
  match as,hl,nd with
  |[y,z],_,nd=>
   have hyz:y≠z:=λh=>by subst h;simp at nd
   exact YH (n12:=hyz) (l1:=lr hm) (l2:=lr hm) hx9 h1 es ri er f1 rfl ea (by rw [ht]) (.inl rfl)
 ·have hx:=Ac I J2
  have hf:=Hr I J2
  have hy:=Sh I J1 0
  have hp:=JN (l:=0) I J1 J2 S hz
  have hd:=Q6 I J2 q
  have hw:=O9 (l:=1) I J2 q1 q2 q3
  have h0:sr m (λj=>Vq u j*Vq (zj m n D2 q) j)=0:=by
   rw [show Vq (zj m n D2 q)=Sx.wx n D2 q from funext λj=>Mp J2 q1 j]
   exact Sx.Rx J2 ((o9 I).w0 0) (yt I 0) q2 q0
  have ri:=J9 hm hn I.ha I.hb hu hv hx hf hy hp hd hw h0
  obtain ⟨p1,r1⟩:=vz hm hx
  obtain ⟨p2,r2⟩:=vz hn hy
  obtain ⟨p3,r3⟩:=vz hm hd
  obtain ⟨kp,er⟩:=JP (Rps.tup (Rps.cons (JD (t:="endless next") (N:=100) (by decide +kernel)) (Rps.cons r1 (Rps.cons r2 (Rps.cons r3 Rps.nil))))) (by simp) (by decide)
  obtain ⟨f1,f2,f3,f4⟩:=jx hm hu hx
  have ht:t' = "best"/\∃y,Sx.xU m n (Aq a) (Vq b) (Vq u) (Vq x') y:=by
   rcases k with k | ⟨_,d,w⟩
   ·exact k
   ·exact (hp.JR w).elim
  obtain ⟨rfl,y',p'⟩:=ht
  refine (Fb es).trans ?_
  refine (if_pos ?_).trans ?_
  ·show 18+3<=21
   decide
  refine Bp λas hl nd=>?_
  match as,hl,nd with
  |[y1,y2,y3],_,nd=>
   obtain ⟨n1,nd⟩:=List.nodup_cons.mp nd
   obtain ⟨n2,_⟩:=List.nodup_cons.mp nd
   exact Zn (n12:=λh=>n1 (by rw [h];simp)) (n13:=λh=>n1 (by rw [h];simp)) (n23:=λh=>n2 (by rw [h];simp)) (l1:=lr hm) (l2:=lr hn) (l3:=lr hm) hx9 h1 es ri er f1 rfl ea (by decide +kernel) (.inr (HH hm hu hx hx' hf hf' hp p'))
 ·have hx:=Ac I J2
  have hf:=Hr I J2
  have hy:=Sh I J1 0
  have hpd:=JN (l:=0) I J1 J2 S hz
  obtain ⟨z',hz',ez,ce⟩:=Wm (n:=n) (z:=wG L (gZ m n a b (uv u v) D1 0) (gZ m n a b (uv u v) D2 1)) λi hi=>Yn I J1 J2 S li hi
  have nx:=VD ce (Zk I J1 J2 S hz hp li)
  rw [ez] at es
  have hL:=SX li
  have ri:=Iw hm hn I.ha I.hb hu hv hx hf hy hpd hz' hL nx
  obtain ⟨p1,r1⟩:=vz hm hx
  obtain ⟨p2,r2⟩:=vz hn hy
  obtain ⟨p3,r3⟩:=vz hn hz'
  obtain ⟨p4,r4⟩:=Zd hL
  obtain ⟨kp,er⟩:=JP (Rps.tup (Rps.cons (JD (t:="best") (N:=100) (by decide +kernel)) (Rps.cons r1 (Rps.cons r2 (Rps.cons r3 (Rps.cons (r4.up (by decide)) Rps.nil)))))) (by simp) (by decide)
  obtain ⟨f1,f2,f3,f4⟩:=jx hm hu hx
  have ht:t' = "best"/\∃y,Sx.xU m n (Aq a) (Vq b) (Vq u) (Vq x') y:=by
   rcases k with k | ⟨_,d,w⟩
   ·exact k
   ·exact (hpd.JR w).elim
  obtain ⟨rfl,y',p'⟩:=ht
  refine (Fb es).trans ?_
  refine (if_pos ?_).trans ?_
  ·show 18+3<=21
   decide
  refine Bp λas hl nd=>?_
  match as,hl,nd with
  |[y1,y2,y3],_,nd=>
   obtain ⟨n1,nd⟩:=List.nodup_cons.mp nd
   obtain ⟨n2,_⟩:=List.nodup_cons.mp nd
   exact YJ (n12:=λh=>n1 (by rw [h];simp)) (n13:=λh=>n1 (by rw [h];simp)) (n23:=λh=>n2 (by rw [h];simp)) (l1:=lr hm) (l2:=lr hn) (l3:=lr hn) (λ_ _=>rfl) hx9 h1 es ri er f1 rfl ea (by decide +kernel) (.inr (HH hm hu hx hx' hf hf' hpd p'))
end
def y1 (ns:List Int):Sl:=.fz (.int (cl ns 0))
def y2 (ns:List Int):Sl:=.fz (.int (hN ns))
def y3 (ns:List Int):Sl:=.fz (.int (mN ns))
def y4 (ns:List Int):Sl:=.fz (.int (srt ns))
def y5 (ns:List Int):Sl:=.fz (.int (zN ns))
def sM (ns:List Int)(a b c d e f g h i j k l:Sl):Me:=[.fz (.lst (ns.map D.int)),a,b,c,d,e,f,g,h,i,j,k,l,.un,.un,.un,.un,.un,.un,.un,.un]
theorem PX:∀ns:List Int,ns.length<=63->∃fr,VN [.lst (ns.map D.int)]=.ok (fr,.bl true):=by
 intro ns _
 have hm8:mN ns<=8:=by unfold mN;omega
 have hn8:hN ns<=8:=by unfold hN;omega
 refine ⟨false,?_⟩
 obtain ⟨u,fr,hu,ew⟩:=Tr (ns:=ns) (s:=srt ns) (a:=aN ns) hm8 hn8 λ_ _=>Ao _ _
 have I:In (mN ns) (hN ns) (aN ns) (bN ns) (uv u (vN ns)):=⟨hm8,hn8,λ_ _=>Ao _ _,λ_=>(Rr _ _ _).1,λ_=>(Rr _ _ _).2,λl i=>by
  unfold uv
  split
  ·exact hu i
  ·exact Ao _ _⟩
 have c0:bu [.lst (ns.map D.int),.int 0]=.ok (false,.int (cl ns 0)):=cell_eq ns 0
 have hh:(hN ns:Int)=cl ns 0 % 9:=by unfold hN;omega
 have hm:(mN ns:Int)=1+cl ns 0 / 9 % 8:=by unfold mN;omega
 have B9:Bq 9:=pU (k:=10) (by decide)
 have B72:Bq 72:=pU (k:=10) (by decide)
 have B288:Bq 288:=pU (k:=10) (by decide)
 have e1:bf 1 (fFn bu (aa (aD 0) (aa (fC (.int 0)) az))) (sM ns .un .un .un .un .un .un .un .un .un .un .un .un)=.ok (.nx,(sM ns (y1 ns) .un .un .un .un .un .un .un .un .un .un .un)):=by
  unfold bf
  rw [b8 (ds:=[.lst (ns.map D.int),.int 0]) rfl c0]
  rfl
 have e2:bf 2 (aA fY (aj 1) (fC (.int 9))) (sM ns (y1 ns) .un .un .un .un .un .un .un .un .un .un .un)=.ok (.nx,(sM ns (y1 ns) (y2 ns) .un .un .un .un .un .un .un .un .un .un)):=by
  simp [sM,y1,y2,y3,y4,y5,bf,aA,fC,aj,fY,mdI,← hh]
 have e3:bf 3 (aA eX (fC (.int 1)) (aA fY (aA jL (aj 1) (fC (.int 9))) (fC (.int 8)))) (sM ns (y1 ns) (y2 ns) .un .un .un .un .un .un .un .un .un .un)=.ok (.nx,(sM ns (y1 ns) (y2 ns) (y3 ns) .un .un .un .un .un .un .un .un .un)):=by
  simp [sM,y1,y2,y3,y4,y5,bf,aA,fC,aj,fY,mdI,jL,dvI,B9,eX,← hm]
 have e4:bf 4 (aA fY (aA jL (aj 1) (fC (.int 72))) (fC (.int 4))) (sM ns (y1 ns) (y2 ns) (y3 ns) .un .un .un .un .un .un .un .un .un)=.ok (.nx,(sM ns (y1 ns) (y2 ns) (y3 ns) (y4 ns) .un .un .un .un .un .un .un .un)):=by
  simp [sM,y1,y2,y3,y4,y5,bf,aA,fC,aj,fY,mdI,jL,dvI,B72,srt]
 have e5:bf 5 (aA fY (aA jL (aj 1) (fC (.int 288))) (fC (.int 2))) (sM ns (y1 ns) (y2 ns) (y3 ns) (y4 ns) .un .un .un .un .un .un .un .un)=.ok (.nx,(sM ns (y1 ns) (y2 ns) (y3 ns) (y4 ns) (y5 ns) .un .un .un .un .un .un .un)):=by
  simp [sM,y1,y2,y3,y4,y5,bf,aA,fC,aj,fY,mdI,jL,dvI,B288,zN]
 have e6:bf 6 (aA eX (fC (.int 2)) (aj 3)) (sM ns (y1 ns) (y2 ns) (y3 ns) (y4 ns) (y5 ns) .un .un .un .un .un .un .un)=.ok (.nx,(sM ns (y1 ns) (y2 ns) (y3 ns) (y4 ns) (y5 ns) (.fz (.int (2+mN ns:Nat))) .un .un .un .un .un .un)):=by
  simp [sM,y1,y2,y3,y4,y5,bf,aA,fC,aj,eX]
 have e7:bf 7 yc (sM ns (y1 ns) (y2 ns) (y3 ns) (y4 ns) (y5 ns) (.fz (.int (2+mN ns:Nat))) .un .un .un .un .un .un)=.ok (.nx,(sM ns (y1 ns) (y2 ns) (y3 ns) (y4 ns) (y5 ns) (.fz (.int (2+mN ns:Nat))) (.fz (aO (hN ns) (bN ns))) .un .un .un .un .un)):=by
  have q:yc (sM ns (y1 ns) (y2 ns) (y3 ns) (y4 ns) (y5 ns) (.fz (.int (2+mN ns:Nat))) .un .un .un .un .un .un)=.ok (aO (hN ns) (bN ns)):=Y5 hn8
  unfold bf
  rw [q]
  rfl
 have e8:bf 6 (aA eX (aj 6) (aj 2)) (sM ns (y1 ns) (y2 ns) (y3 ns) (y4 ns) (y5 ns) (.fz (.int (2+mN ns:Nat))) (.fz (aO (hN ns) (bN ns))) .un .un .un .un .un)=.ok (.nx,(sM ns (y1 ns) (y2 ns) (y3 ns) (y4 ns) (y5 ns) (.fz (.int (2+mN ns+hN ns+0*mN ns:Nat))) (.fz (aO (hN ns) (bN ns))) .un .un .un .un .un)):=by
  simp [sM,y1,y2,y3,y4,y5,bf,aA,aj,eX]
 have e9:uc 8 (jr az) (sM ns (y1 ns) (y2 ns) (y3 ns) (y4 ns) (y5 ns) (.fz (.int (2+mN ns+hN ns+0*mN ns:Nat))) (.fz (aO (hN ns) (bN ns))) .un .un .un .un .un)=.ok (.nx,(sM ns (y1 ns) (y2 ns) (y3 ns) (y4 ns) (y5 ns) (.fz (.int (2+mN ns+hN ns+0*mN ns:Nat))) (.fz (aO (hN ns) (bN ns))) (.ow (.lst (rg 0 λr=>au (mN ns) (aN ns r)))) .un .un .un .un)):=by
  rfl
 have el:∃x9,Eg (sM ns (y1 ns) (y2 ns) (y3 ns) (y4 ns) (y5 ns) (.fz (.int (2+mN ns+hN ns+0*mN ns:Nat))) (.fz (aO (hN ns) (bN ns))) (.ow (.lst (rg 0 λr=>au (mN ns) (aN ns r)))) .un .un .un .un)=.ok (.nx,(sM ns (y1 ns) (y2 ns) (y3 ns) (y4 ns) (y5 ns) (.fz (.int (2+mN ns+hN ns+hN ns*mN ns:Nat))) (.fz (aO (hN ns) (bN ns))) (.ow (aK (mN ns) (hN ns) (aN ns))) x9 .un .un .un))/\(x9=.un\/∃d,x9=.fz d):=by
  obtain ⟨m',e,x9,em,hx⟩:=lV (n:=hN ns) (f:=λi=>.int i) (h:=hName 9) (k:=Fy) (m:=(sM ns (y1 ns) (y2 ns) (y3 ns) (y4 ns) (y5 ns) (.fz (.int (2+mN ns+hN ns+0*mN ns:Nat))) (.fz (aO (hN ns) (bN ns))) (.ow (.lst (rg 0 λr=>au (mN ns) (aN ns r)))) .un .un .un .un)) (λi s=>∃z,s=(sM ns (y1 ns) (y2 ns) (y3 ns) (y4 ns) (y5 ns) (.fz (.int (2+mN ns+hN ns+i*mN ns:Nat))) (.fz (aO (hN ns) (bN ns))) (.ow (.lst (rg i λr=>au (mN ns) (aN ns r)))) z .un .un .un)/\(z=.un\/∃d,z=.fz d)) ⟨_,rfl,.inl rfl⟩ λi s hi ⟨z,es,_⟩=>by
   subst es
   have hl:i<16777216:=by omega
   have a1:zQ 8 yd (sM ns (y1 ns) (y2 ns) (y3 ns) (y4 ns) (y5 ns) (.fz (.int (2+mN ns+hN ns+i*mN ns:Nat))) (.fz (aO (hN ns) (bN ns))) (.ow (.lst (rg i λr=>au (mN ns) (aN ns r)))) (.fz (.int i)) .un .un .un)=.ok (.nx,(sM ns (y1 ns) (y2 ns) (y3 ns) (y4 ns) (y5 ns) (.fz (.int (2+mN ns+hN ns+i*mN ns:Nat))) (.fz (aO (hN ns) (bN ns))) (.ow (.lst (rg (i+1) λr=>au (mN ns) (aN ns r)))) (.fz (.int i)) .un .un .un)):=by
    unfold zQ
    rw [show yd (sM ns (y1 ns) (y2 ns) (y3 ns) (y4 ns) (y5 ns) (.fz (.int (2+mN ns+hN ns+i*mN ns:Nat))) (.fz (aO (hN ns) (bN ns))) (.ow (.lst (rg i λr=>au (mN ns) (aN ns r)))) (.fz (.int i)) .un .un .un)=.ok (au (mN ns) (aN ns i)) from Yy hm8]
    simp [sM,JM,bD,hl,putL,vG]
   have a2:bf 6 (aA eX (aj 6) (aj 3)) (sM ns (y1 ns) (y2 ns) (y3 ns) (y4 ns) (y5 ns) (.fz (.int (2+mN ns+hN ns+i*mN ns:Nat))) (.fz (aO (hN ns) (bN ns))) (.ow (.lst (rg (i+1) λr=>au (mN ns) (aN ns r)))) (.fz (.int i)) .un .un .un)=.ok (.nx,(sM ns (y1 ns) (y2 ns) (y3 ns) (y4 ns) (y5 ns) (.fz (.int (2+mN ns+hN ns+(i+1)*mN ns:Nat))) (.fz (aO (hN ns) (bN ns))) (.ow (.lst (rg (i+1) λr=>au (mN ns) (aN ns r)))) (.fz (.int i)) .un .un .un)):=by
    have:((2+mN ns+hN ns+i*mN ns:Nat):Int)+(mN ns:Int)=((2+mN ns+hN ns+(i+1)*mN ns:Nat):Int):=by
     rw [Nat.add_mul,Nat.one_mul];omega
    simp only [sM,y3,bf,aA,aj,List.getElem?_cons_succ,List.getElem?_cons_zero,Res.bh,eX,this,nY]
    rfl
   refine ⟨(sM ns (y1 ns) (y2 ns) (y3 ns) (y4 ns) (y5 ns) (.fz (.int (2+mN ns+hN ns+i*mN ns:Nat))) (.fz (aO (hN ns) (bN ns))) (.ow (.lst (rg i λr=>au (mN ns) (aN ns r)))) (.fz (.int i)) .un .un .un),(sM ns (y1 ns) (y2 ns) (y3 ns) (y4 ns) (y5 ns) (.fz (.int (2+mN ns+hN ns+(i+1)*mN ns:Nat))) (.fz (aO (hN ns) (bN ns))) (.ow (.lst (rg (i+1) λr=>au (mN ns) (aN ns r)))) (.fz (.int i)) .un .un .un),rfl,?_,_,rfl,.inr ⟨_,rfl⟩⟩
   unfold Fy
   rw [aZ a1,a2]
  subst em
  refine ⟨x9,?_,hx⟩
  unfold Eg lZ
  rw [itR (f:=aa (aj 2) az) (j:=hN ns) (n:=hN ns) rfl rfl (by omega)]
  exact e
 obtain ⟨x9,el,hx9⟩:=el
 have e10:bf 10 (fFn lg (aa (aD 0) (aa (fC (.int 2)) (aa (aD 3) (aa (aD 4) (aa (aD 8) az)))))) (sM ns (y1 ns) (y2 ns) (y3 ns) (y4 ns) (y5 ns) (.fz (.int (2+mN ns+hN ns+hN ns*mN ns:Nat))) (.fz (aO (hN ns) (bN ns))) (.fz (aK (mN ns) (hN ns) (aN ns))) x9 .un .un .un)=.ok (.nx,(sM ns (y1 ns) (y2 ns) (y3 ns) (y4 ns) (y5 ns) (.fz (.int (2+mN ns+hN ns+hN ns*mN ns:Nat))) (.fz (aO (hN ns) (bN ns))) (.fz (aK (mN ns) (hN ns) (aN ns))) x9 (.fz (au (mN ns) u)) .un .un)):=by
  unfold bf
  rw [b8 (ds:=[.lst (ns.map D.int),.int 2,.int (mN ns),.int (srt ns),aK (mN ns) (hN ns) (aN ns)]) rfl ew]
  rfl
 have e11:bf 11 xZ (sM ns (y1 ns) (y2 ns) (y3 ns) (y4 ns) (y5 ns) (.fz (.int (2+mN ns+hN ns+hN ns*mN ns:Nat))) (.fz (aO (hN ns) (bN ns))) (.fz (aK (mN ns) (hN ns) (aN ns))) x9 (.fz (au (mN ns) u)) .un .un)=.ok (.nx,(sM ns (y1 ns) (y2 ns) (y3 ns) (y4 ns) (y5 ns) (.fz (.int (2+mN ns+hN ns+hN ns*mN ns:Nat))) (.fz (aO (hN ns) (bN ns))) (.fz (aK (mN ns) (hN ns) (aN ns))) x9 (.fz (au (mN ns) u)) (.fz (au (mN ns) (vN ns))) .un)):=by
  have q:xZ (sM ns (y1 ns) (y2 ns) (y3 ns) (y4 ns) (y5 ns) (.fz (.int (2+mN ns+hN ns+hN ns*mN ns:Nat))) (.fz (aO (hN ns) (bN ns))) (.fz (aK (mN ns) (hN ns) (aN ns))) x9 (.fz (au (mN ns) u)) .un .un)=.ok (au (mN ns) (vN ns)):=aaa hm8
  unfold bf
  rw [q]
  rfl
 have e12:bf 12 (gm (aa uV (aa (bJ qe (aa (aj 7) az)) (aa (bJ qe (aa (aj 10) az)) (aa (bJ qe (aa (aj 11) az)) az))))) (sM ns (y1 ns) (y2 ns) (y3 ns) (y4 ns) (y5 ns) (.fz (.int (2+mN ns+hN ns+hN ns*mN ns:Nat))) (.fz (aO (hN ns) (bN ns))) (.fz (aK (mN ns) (hN ns) (aN ns))) x9 (.fz (au (mN ns) u)) (.fz (au (mN ns) (vN ns))) .un)=.ok (.nx,(sM ns (y1 ns) (y2 ns) (y3 ns) (y4 ns) (y5 ns) (.fz (.int (2+mN ns+hN ns+hN ns*mN ns:Nat))) (.fz (aO (hN ns) (bN ns))) (.fz (aK (mN ns) (hN ns) (aN ns))) x9 (.fz (au (mN ns) u)) (.fz (au (mN ns) (vN ns))) (.fz (.tup [aK (mN ns) (hN ns) (aN ns),aO (hN ns) (bN ns),au (mN ns) u,au (mN ns) (vN ns)])))):=by
  have q:uV (sM ns (y1 ns) (y2 ns) (y3 ns) (y4 ns) (y5 ns) (.fz (.int (2+mN ns+hN ns+hN ns*mN ns:Nat))) (.fz (aO (hN ns) (bN ns))) (.fz (aK (mN ns) (hN ns) (aN ns))) x9 (.fz (au (mN ns) u)) (.fz (au (mN ns) (vN ns))) .un)=.ok (aK (mN ns) (hN ns) (aN ns)):=Xv hn8
  unfold bf gm
  rw [bA q (bA (xq (m:=hN ns) (u:=bN ns) rfl) (bA (xq (m:=mN ns) (u:=u) rfl) (bA (xq (m:=mN ns) (u:=vN ns) rfl) rfl)))]
  rfl
 have en:=T4 (X:=λk=>[D.lst (ns.map D.int),.int (cl ns 0),.int (hN ns),.int (mN ns),.int (srt ns),.int (zN ns),.int (2+mN ns+hN ns+hN ns*mN ns:Nat)].getD k .non) I hx9
 have eg:KH (sM ns .un .un .un .un .un .un .un .un .un .un .un .un)=.ok (.rt false (.bl true),(sM ns (y1 ns) (y2 ns) (y3 ns) (y4 ns) (y5 ns) (.fz (.int (2+mN ns+hN ns+hN ns*mN ns:Nat))) (.fz (aO (hN ns) (bN ns))) (.fz (aK (mN ns) (hN ns) (aN ns))) x9 (.fz (au (mN ns) u)) (.fz (au (mN ns) (vN ns))) (.fz (.tup [aK (mN ns) (hN ns) (aN ns),aO (hN ns) (bN ns),au (mN ns) u,au (mN ns) (vN ns)]))).map λ_=>.un):=by
  unfold KH Su
  rw [aZ e1,aZ e2,aZ e3,aZ e4,aZ e5,aZ e6,aZ e7,aZ e8,aZ e9,aZ el]
  show aU _ _ (sM ns (y1 ns) (y2 ns) (y3 ns) (y4 ns) (y5 ns) (.fz (.int (2+mN ns+hN ns+hN ns*mN ns:Nat))) (.fz (aO (hN ns) (bN ns))) (.fz (aK (mN ns) (hN ns) (aN ns))) x9 .un .un .un)=_
  rw [aZ e10,aZ e11,aZ e12]
  exact en
 exact dX rfl eg
def top (i:Nat):Stmt:=PySem.Challenge.pw_hushduel_k37_whole_second_wishes.main.body.getD i (.Pass ⟨0,0,0,0⟩)
def clsAt (s:Stmt)(j:Nat):Stmt:=match s with
 | .ClassDef _ _ _ b ..=>b.getD j (.Pass ⟨0,0,0,0⟩)
 |_=>.Pass ⟨0,0,0,0⟩
theorem Ge:bootBuiltins "abs" = some (.builtin "abs"):=by decide +kernel
theorem We:bootBuiltins "all" = some (.builtin "all"):=by decide +kernel
theorem Vb:bootBuiltins "bool" = some (.type "bool"):=by decide +kernel
theorem Ye:bootBuiltins "int" = some (.type "int"):=by decide +kernel
theorem jV:bootBuiltins "isinstance" = some (.builtin "isinstance"):=by decide +kernel
theorem iD:bootBuiltins "len" = some (.builtin "len"):=by decide +kernel
theorem vI:bootBuiltins "list" = some (.type "list"):=by decide +kernel
theorem Kh:bootBuiltins "repr" = some (.builtin "repr"):=by decide +kernel
theorem Hu:bootBuiltins "tuple" = some (.type "tuple"):=by decide +kernel
structure Bt (mg:Str->Option Value):Prop where
 ValueError:mg "ValueError" = none
 abs:mg "abs" = none
 all:mg "all" = none
 bool:mg "bool" = none
 enumerate:mg "enumerate" = none
 int:mg "int" = none
 isinstance:mg "isinstance" = none
 len:mg "len" = none
 list:mg "list" = none
 range:mg "range" = none
 repr:mg "repr" = none
 tuple:mg "tuple" = none
 zip:mg "zip" = none
structure CnT (K:W.Frag)(mg:Str->Option Value):Prop where
 NOUGHT:∃v u,mg "NOUGHT" = some u/\RelV v u/\∀O H,DV ⟨K,mg⟩ O H v (.tup [(.int 0),(.int 1)])
 ONE:∃v u,mg "ONE" = some u/\RelV v u/\∀O H,DV ⟨K,mg⟩ O H v (.tup [(.int 1),(.int 1)])
 MOST_ROWS:∃v u,mg "MOST_ROWS" = some u/\RelV v u/\∀O H,DV ⟨K,mg⟩ O H v (.int 8)
 MOST_WISHED:∃v u,mg "MOST_WISHED" = some u/\RelV v u/\∀O H,DV ⟨K,mg⟩ O H v (.int 8)
theorem De {X:Cx}{E:XK}{pos:Pos}(Cn:CnT X.K X.mg)(hg:Gl X "NOUGHT"):FE X E (.Name "NOUGHT" pos) (fC (.tup [(.int 0),(.int 1)])):=by
 obtain ⟨v,u,h1,h2,h3⟩:=Cn.NOUGHT
 exact z7 hg h1 h2 h3
theorem Yj {X:Cx}{E:XK}{pos:Pos}(Cn:CnT X.K X.mg)(hg:Gl X "ONE"):FE X E (.Name "ONE" pos) (fC (.tup [(.int 1),(.int 1)])):=by
 obtain ⟨v,u,h1,h2,h3⟩:=Cn.ONE
 exact z7 hg h1 h2 h3
theorem Ff {X:Cx}{E:XK}{pos:Pos}(Cn:CnT X.K X.mg)(hg:Gl X "MOST_ROWS"):FE X E (.Name "MOST_ROWS" pos) (fC (.int 8)):=by
 obtain ⟨v,u,h1,h2,h3⟩:=Cn.MOST_ROWS
 exact z7 hg h1 h2 h3
theorem BX {X:Cx}{E:XK}{pos:Pos}(Cn:CnT X.K X.mg)(hg:Gl X "MOST_WISHED"):FE X E (.Name "MOST_WISHED" pos) (fC (.int 8)):=by
 obtain ⟨v,u,h1,h2,h3⟩:=Cn.MOST_WISHED
 exact z7 hg h1 h2 h3
abbrev mW:Stmt:=top 6
theorem fO:bI ["first", "second", "great", "small", "rest"] ["first", "second"] (aG mW):=⟨rfl,rfl,rfl,by decide +kernel,rfl,by decide +kernel,by decide +kernel⟩
abbrev Ar:Stmt:=top 7
theorem Av:bI ["top", "bottom", "divisor"] ["top", "bottom"] (aG Ar):=⟨rfl,rfl,rfl,by decide +kernel,rfl,by decide +kernel,by decide +kernel⟩
abbrev Jr:Stmt:=top 8
theorem Wx:bI ["first", "second"] ["first", "second"] (aG Jr):=⟨rfl,rfl,rfl,by decide +kernel,rfl,by decide +kernel,by decide +kernel⟩
abbrev Gq:Stmt:=top 9
theorem Td:bI ["first", "second"] ["first", "second"] (aG Gq):=⟨rfl,rfl,rfl,by decide +kernel,rfl,by decide +kernel,by decide +kernel⟩
abbrev DX:Stmt:=top 10
theorem T9:bI ["first", "second"] ["first", "second"] (aG DX):=⟨rfl,rfl,rfl,by decide +kernel,rfl,by decide +kernel,by decide +kernel⟩
abbrev wW:Stmt:=top 14
theorem ud:bI ["fractions", "scale", "fraction"] ["fractions"] (aG wW):=⟨rfl,rfl,rfl,by decide +kernel,rfl,by decide +kernel,by decide +kernel⟩
abbrev pP:Stmt:=top 15
theorem Ed:bI ["fractions", "scale"] ["fractions", "scale"] (aG pP):=⟨rfl,rfl,rfl,by decide +kernel,rfl,by decide +kernel,by decide +kernel⟩
abbrev iB:Stmt:=top 17
theorem ug:bI ["rows", "wish"] ["rows", "wish"] (aG iB):=⟨rfl,rfl,rfl,by decide +kernel,rfl,by decide +kernel,by decide +kernel⟩
abbrev El:Stmt:=top 18
theorem Gi:bI ["rows", "bounds", "wish", "corner", "endless", "%1"] ["rows", "bounds", "wish"] (aG El):=⟨rfl,rfl,rfl,by decide +kernel,rfl,by decide +kernel,by decide +kernel⟩
abbrev pK:Stmt:=top 19
theorem iM:bI ["rows", "bounds", "wish", "second", "corner", "endless", "prices", "lift", "others", "%1"] ["rows", "bounds", "wish", "second"] (aG pK):=⟨rfl,rfl,rfl,by decide +kernel,rfl,by decide +kernel,by decide +kernel⟩
abbrev qt:Stmt:=top 21
theorem Ci:bI ["_law_script", "_law_k"] ["_law_script", "_law_k"] (aG qt):=⟨rfl,rfl,rfl,by decide +kernel,rfl,by decide +kernel,by decide +kernel⟩
abbrev qw:Stmt:=top 22
theorem uP:bI ["_law_one", "_law_other"] ["_law_one", "_law_other"] (aG qw):=⟨rfl,rfl,rfl,by decide +kernel,rfl,by decide +kernel,by decide +kernel⟩
abbrev rz:Stmt:=top 23
theorem v7:bI ["_law_top", "_law_bottom", "_law_by"] ["_law_top", "_law_bottom"] (aG rz):=⟨rfl,rfl,rfl,by decide +kernel,rfl,by decide +kernel,by decide +kernel⟩
abbrev rH:Stmt:=top 24
theorem CQ:bI ["_law_cell", "_law_sort"] ["_law_cell", "_law_sort"] (aG rH):=⟨rfl,rfl,rfl,by decide +kernel,rfl,by decide +kernel,by decide +kernel⟩
abbrev sV:Stmt:=top 25
theorem xW:bI ["_law_cell", "_law_sort", "_law_zeros", "_law_number_here"] ["_law_cell", "_law_sort", "_law_zeros"] (aG sV):=⟨rfl,rfl,rfl,by decide +kernel,rfl,by decide +kernel,by decide +kernel⟩
abbrev uJ:Stmt:=top 26
theorem vo:bI ["_law_found", "_law_many", "_law_part", "_law_number_here"] ["_law_found", "_law_many"] (aG uJ):=⟨rfl,rfl,rfl,by decide +kernel,rfl,by decide +kernel,by decide +kernel⟩
abbrev wI:Stmt:=top 27
theorem km:bI ["_law_some", "_law_more", "_law_top", "_law_bottom", "_law_one", "_law_other"] ["_law_some", "_law_more"] (aG wI):=⟨rfl,rfl,rfl,by decide +kernel,rfl,by decide +kernel,by decide +kernel⟩
abbrev vf:Stmt:=top 28
theorem Hi:bI ["_law_one", "_law_other"] ["_law_one", "_law_other"] (aG vf):=⟨rfl,rfl,rfl,by decide +kernel,rfl,by decide +kernel,by decide +kernel⟩
abbrev tH:Stmt:=top 29
theorem Ek:bI ["_law_one", "_law_other"] ["_law_one", "_law_other"] (aG tH):=⟨rfl,rfl,rfl,by decide +kernel,rfl,by decide +kernel,by decide +kernel⟩
abbrev vB:Stmt:=top 30
theorem uE:bI ["_law_rows", "_law_bounds", "_law_fit", "_law_row", "_law_bound_here"] ["_law_rows", "_law_bounds", "_law_fit"] (aG vB):=⟨rfl,rfl,rfl,by decide +kernel,rfl,by decide +kernel,by decide +kernel⟩
abbrev rD:Stmt:=top 31
theorem wk:bI ["_law_rows", "_law_wish_here", "_law_way", "_law_row"] ["_law_rows", "_law_wish_here", "_law_way"] (aG rD):=⟨rfl,rfl,rfl,by decide +kernel,rfl,by decide +kernel,by decide +kernel⟩
abbrev lL:Stmt:=top 32
theorem ql:bI ["_law_rows", "_law_bounds", "_law_wish_here", "_law_fit", "_law_prices", "_law_k", "_law_want"] ["_law_rows", "_law_bounds", "_law_wish_here", "_law_fit", "_law_prices"] (aG lL):=⟨rfl,rfl,rfl,by decide +kernel,rfl,by decide +kernel,by decide +kernel⟩
abbrev lQ:Stmt:=top 33
theorem jt:bI ["_law_rows", "_law_bounds", "_law_wishes", "_law_fit", "_law_others", "_law_lift", "_law_k", "_law_want", "_law_here"] ["_law_rows", "_law_bounds", "_law_wishes", "_law_fit", "_law_others", "_law_lift"] (aG lQ):=⟨rfl,rfl,rfl,by decide +kernel,rfl,by decide +kernel,by decide +kernel⟩
abbrev ue:Stmt:=top 34
theorem Fe:bI ["_law_found", "_law_rows", "_law_bounds", "_law_wishes"] ["_law_found", "_law_rows", "_law_bounds", "_law_wishes"] (aG ue):=⟨rfl,rfl,rfl,by decide +kernel,rfl,by decide +kernel,by decide +kernel⟩
abbrev qX:Stmt:=top 35
theorem zg:bI ["_law_script", "_law_at", "_law_wide", "_law_sort", "_law_rows", "_law_cell"] ["_law_script", "_law_at", "_law_wide", "_law_sort", "_law_rows"] (aG qX):=⟨rfl,rfl,rfl,by decide +kernel,rfl,by decide +kernel,by decide +kernel⟩
abbrev v9:Stmt:=top 36
theorem jU:bI ["_law_script", "_law_cell", "_law_high", "_law_wide", "_law_sort", "_law_zeros", "_law_at", "_law_bounds", "_law_rows", "_law_i", "_law_wish_here", "_law_second", "_law_handed", "_law_found", "_law_kept", "_law_worth", "_law_part", "_law_alone", "%1", "%2", "%3"] ["_law_script"] (aG v9):=⟨rfl,rfl,rfl,by decide +kernel,rfl,by decide +kernel,by decide +kernel⟩
abbrev dg:Stmt:=clsAt (top 16) 0
theorem xf:bI ["self", "rows", "bounds", "wishes"] ["self", "rows", "bounds", "wishes"] (aG dg):=⟨rfl,rfl,rfl,by decide +kernel,rfl,by decide +kernel,by decide +kernel⟩
abbrev gM:Stmt:=clsAt (top 16) 1
theorem jN:bI ["self", "number", "row", "bound", "rests", "scale"] ["self", "number", "row", "bound"] (aG gM):=⟨rfl,rfl,rfl,by decide +kernel,rfl,by decide +kernel,by decide +kernel⟩
abbrev dq:Stmt:=clsAt (top 16) 2
theorem jZ:bI ["self", "number", "wish", "whole"] ["self", "number", "wish"] (aG dq):=⟨rfl,rfl,rfl,by decide +kernel,rfl,by decide +kernel,by decide +kernel⟩
abbrev fD:Stmt:=clsAt (top 16) 3
theorem gU:bI ["self", "level", "column", "costs_nothing"] ["self", "level"] (aG fD):=⟨rfl,rfl,rfl,by decide +kernel,rfl,by decide +kernel,by decide +kernel⟩
abbrev jn:Stmt:=clsAt (top 16) 4
theorem eN:bI ["self", "column", "found", "number", "line"] ["self", "column"] (aG jn):=⟨rfl,rfl,rfl,by decide +kernel,rfl,by decide +kernel,by decide +kernel⟩
abbrev jM:Stmt:=clsAt (top 16) 5
theorem jH:bI ["self", "number", "other", "column", "here", "there"] ["self", "number", "other", "column"] (aG jM):=⟨rfl,rfl,rfl,by decide +kernel,rfl,by decide +kernel,by decide +kernel⟩
abbrev fJ:Stmt:=clsAt (top 16) 6
theorem pq:bI ["self", "number", "column", "turned", "%1"] ["self", "number", "column"] (aG fJ):=⟨rfl,rfl,rfl,by decide +kernel,rfl,by decide +kernel,by decide +kernel⟩
abbrev jD:Stmt:=clsAt (top 16) 7
theorem mL:bI ["self", "line", "turned", "column", "by", "less"] ["self", "line", "turned", "column"] (aG jD):=⟨rfl,rfl,rfl,by decide +kernel,rfl,by decide +kernel,by decide +kernel⟩
abbrev qp:Stmt:=clsAt (top 16) 8
theorem lK:bI ["self", "level", "column", "number", "%1"] ["self", "level"] (aG qp):=⟨rfl,rfl,rfl,by decide +kernel,rfl,by decide +kernel,by decide +kernel⟩
abbrev pH:Stmt:=clsAt (top 16) 9
theorem EY:bI ["self"] ["self"] (aG pH):=⟨rfl,rfl,rfl,by decide +kernel,rfl,by decide +kernel,by decide +kernel⟩
abbrev iw:Stmt:=clsAt (top 16) 10
theorem pY:bI ["self", "column", "found"] ["self", "column"] (aG iw):=⟨rfl,rfl,rfl,by decide +kernel,rfl,by decide +kernel,by decide +kernel⟩
abbrev jy:Stmt:=clsAt (top 16) 11
theorem jB:bI ["self", "tops", "found", "column", "top"] ["self", "tops"] (aG jy):=⟨rfl,rfl,rfl,by decide +kernel,rfl,by decide +kernel,by decide +kernel⟩
abbrev j0:Stmt:=clsAt (top 16) 12
theorem oO:bI ["self", "level", "line", "bottom"] ["self", "level"] (aG j0):=⟨rfl,rfl,rfl,by decide +kernel,rfl,by decide +kernel,by decide +kernel⟩
abbrev rQ:Stmt:=clsAt (top 16) 13
theorem iW:bI ["self", "found", "cost", "gain", "needed"] ["self"] (aG rQ):=⟨rfl,rfl,rfl,by decide +kernel,rfl,by decide +kernel,by decide +kernel⟩
variable {P:Program}{w:World}{K:W.Frag}{mg:Str->Option Value}{base:Heap}{f:Addr}{fd:FuncData}
theorem xP(B:Bt mg)(Fu:Fun K "common_divisor" "common_divisor" mW f fd)  :
  dm P w K mg base (CX1 P w) 1 f fd ["first", "second"] (spF ⟨K,mg⟩ d7):=
 bZ Fu fO λcdv A outer s H E hr=>by
 have hu:=hr.units
 unfold mQ nA
 exact (aC (bQ (i:=2) fO.nd rfl (Or.inl rfl) (cQ vU rfl B.abs Ge (aM (ao 0) aY)))
  (aC (bQ (i:=3) fO.nd rfl (Or.inl rfl) (cQ vU rfl B.abs Ge (aM (ao 1) aY)))
  (aC (Cr PassesOwn.leaving (b7 (oM hu) (ao 3) (aq aB) (bH _))
  (aC (bQ (i:=4) fO.nd rfl (Or.inl rfl) (aV gP (ao 2) (ao 3)))
  (aC (bQ (i:=2) fO.nd rfl (Or.inl rfl) (aH 3))
  (aJ (bQ (i:=3) fO.nd rfl (Or.inl rfl) (aH 4))))))
  (aJ (bK (aH 2))))))
theorem Nv(B:Bt mg)(Fu:Fun K "lowest" "lowest" Ar f fd)(Gcommon_divisor:FF P w K mg base 1 "common_divisor" ["first", "second"] d7):
  dm P w K mg base (CX1 P w) 2 f fd ["top", "bottom"] (spF ⟨K,mg⟩ gA):=
 bZ Fu Av λcdv A outer s H E hr=>by
 have hu:=hr.units
 unfold Cv Am
 exact (aC (bQ (i:=2) Av.nd rfl (Or.inl rfl) (bR Gcommon_divisor hr aP (ak (aH 0) (ak (aH 1) aF))))
  (aC (dF (b7 (kJ hu) (ao 1) (aq aB) (bH _))
  (aJ (bQ (i:=2) Av.nd rfl (Or.inl rfl) (vW nD (ao 2))))
  bO)
  (aJ (bK (mV (ak (aV je (ao 0) (ao 2)) (ak (aV je (ao 1) (ao 2)) aF)))))))
theorem Vx(B:Bt mg)(Fu:Fun K "plus" "plus" Jr f fd)(Glowest:FF P w K mg base 2 "lowest" ["top", "bottom"] gA):
  dm P w K mg base (CX1 P w) 3 f fd ["first", "second"] (spF ⟨K,mg⟩ GZ):=
 bZ Fu Wx λcdv A outer s H E hr=>by
 have hu:=hr.units
 unfold GX J8
 exact (aJ (bK (bR Glowest hr aP (ak (aV fL (aq (aV cI (aq (aR bG (ao 0) (aq aB) (λ_ _=>rfl))) (aq (aR bG (ao 1) (aq aB) (λ_ _=>rfl))))) (aq (aV cI (aq (aR bG (ao 1) (aq aB) (λ_ _=>rfl))) (aq (aR bG (ao 0) (aq aB) (λ_ _=>rfl)))))) (ak (aV cI (aq (aR bG (ao 0) (aq aB) (λ_ _=>rfl))) (aq (aR bG (ao 1) (aq aB) (λ_ _=>rfl)))) aF)))))
theorem PB(B:Bt mg)(Fu:Fun K "times" "times" Gq f fd)(Glowest:FF P w K mg base 2 "lowest" ["top", "bottom"] gA):
  dm P w K mg base (CX1 P w) 3 f fd ["first", "second"] (spF ⟨K,mg⟩ z8):=
 bZ Fu Td λcdv A outer s H E hr=>by
 have hu:=hr.units
 unfold zH G4
 exact (aJ (bK (bR Glowest hr aP (ak (aV cI (aq (aR bG (ao 0) (aq aB) (λ_ _=>rfl))) (aq (aR bG (ao 1) (aq aB) (λ_ _=>rfl)))) (ak (aV cI (aq (aR bG (ao 0) (aq aB) (λ_ _=>rfl))) (aq (aR bG (ao 1) (aq aB) (λ_ _=>rfl)))) aF)))))
theorem Qh(B:Bt mg)(Fu:Fun K "under" "under" DX f fd)  :
  dm P w K mg base (CX1 P w) 1 f fd ["first", "second"] (spF ⟨K,mg⟩ uh):=
 bZ Fu T9 λcdv A outer s H E hr=>by
 have hu:=hr.units
 unfold Gh Fo
 exact (aJ (bK (lC (kJ hu) (aq (aV cI (aq (aR bG (ao 0) (aq aB) (λ_ _=>rfl))) (aq (aR bG (ao 1) (aq aB) (λ_ _=>rfl))))) (aq (aV cI (aq (aR bG (ao 1) (aq aB) (λ_ _=>rfl))) (aq (aR bG (ao 0) (aq aB) (λ_ _=>rfl))))) (bH _))))
theorem Ib(B:Bt mg)(Fu:Fun K "scale_of" "scale_of" wW f fd)(Gcommon_divisor:FF P w K mg base 1 "common_divisor" ["first", "second"] d7):
  dm P w K mg base (CX1 P w) 2 f fd ["fractions"] (spF ⟨K,mg⟩ qz):=
 bZ Fu ud λcdv A outer s H E hr=>by
 have hu:=hr.units
 unfold tW wF
 exact (aC (bQ (i:=1) ud.nd rfl (Or.inl rfl) aB)
  (aC (lJ (k:=1000) PassesOwn.leaving rfl (Gp (aH 0)) (bC (i:=2) ud.nd rfl (Or.inl rfl))
  (aJ (bQ (i:=1) ud.nd rfl (Or.inl rfl) (aV je (aq (aV cI (ao 1) (aq (aR bG (ao 2) (aq aB) (λ_ _=>rfl))))) (aq (bR Gcommon_divisor hr aP (ak (aH 1) (ak (aR bG (ao 2) (aq aB) (λ_ _=>rfl)) aF))))))))
  (aJ (bK (aH 1)))))
theorem Dc(B:Bt mg)(Fu:Fun K "made_whole" "made_whole" pP f fd)  :
  dm P w K mg base (CX1 P w) 1 f fd ["fractions", "scale"] (spF ⟨K,mg⟩ dB):=
 bZ Fu Ed λcdv A outer s H E hr=>by
 have hu:=hr.units
 unfold pB tU
 exact (aJ (qQ (fB (aG pP) ["fraction", "scale"] ["scale"] 1 [1] rfl ⟨rfl,by decide +kernel,by decide +kernel,by decide +kernel,by decide +kernel⟩ (.cons rfl .nil) (iR (ao 0)) (λ_ _ _ _ _ _=>(bC (i:=0) (show List.Nodup (["fraction", "scale"]:List Str) by decide) rfl (Or.inl rfl))) (λ_ _ _ _ _ _=>cM) (λ_ _ _ _ _ _=>(aV cI (aq (aR bG (ao 0) (aq aB) (λ_ _=>rfl))) (aq (aV je (ao 1) (aq (aR bG (ao 0) (aq aB) (λ_ _=>rfl))))))))))
theorem su(B:Bt mg)(Cn:CnT K mg)(Fu:Fun K "refuse_great_seeking" "refuse_great_seeking" iB f fd)  :
  dm P w K mg base (CX1 P w) 1 f fd ["rows", "wish"] (spF ⟨K,mg⟩ bU):=
 bZ Fu ug λcdv A outer s H E hr=>by
 have hu:=hr.units
 unfold iQ iH
 exact (aC (dF (b7 wC (aq (cQ cW rfl B.len iD (aM (ao 0) aY))) (aq (Ff Cn rfl)) (bH _))
  (aJ Hw)
  bO)
  (aJ (dF (b7 wC (aq (cQ cW rfl B.len iD (aM (ao 1) aY))) (aq (BX Cn rfl)) (bH _))
  (aJ Hw)
  bO)))
theorem vh(B:Bt mg)(Ck:t6 K mg "Corner" ["bottom", "held_columns", "lines", "scales", "wide", "wish_lines", "wish_scales"])(Fu:Fun K "first_line" "Corner.first_line" gM f fd)(Gmade_whole:FF P w K mg base 1 "made_whole" ["fractions", "scale"] dB):
  dm P w K mg base (CX1 P w) 2 f fd ["self", "number", "row", "bound"] (spF ⟨K,mg⟩ gR):=
 bZ Fu jN λcdv A outer s H E hr=>by
 have hu:=hr.units
 unfold gQ jQ
 exact (aC (wV (i:=4) (aG gM) ["other", "number"] ["number"] 1 [1] jN.nd rfl (Or.inl rfl) rfl ⟨rfl,by decide +kernel,by decide +kernel,by decide +kernel,by decide +kernel⟩ (.cons rfl .nil) (uZ (iY rfl B.range (aM (aq (cQ cW rfl B.len iD (aM (aq (cP Ck (ao 0))) aY))) aY))) (λ_ _ _ _ _ _=>(bC (i:=0) (show List.Nodup (["other", "number"]:List Str) by decide) rfl (Or.inl rfl))) (λ_ _ _ _ _ _=>cM) (λ_ _ _ _ _ _=>(ZG (b7 (iz hu) (ao 0) (ao 1) (bH _)) aB aB)))
  (aC (bQ (i:=5) jN.nd rfl (Or.inl rfl) (aR bG (aq (cP Ck (ao 0))) (ao 1) (λ_ _=>rfl)))
  (aJ (qQ (QX (aq (aV fL (aq (bR Gmade_whole hr aP (ak (aH 2) (ak (aH 5) aF)))) (ao 4))) (aq (bR Gmade_whole hr aP (ak (d8 (rn (ak (aH 3) aF))) (ak (aH 5) aF)))))))))
theorem qM(B:Bt mg)(Ck:t6 K mg "Corner" ["bottom", "held_columns", "lines", "scales", "wide", "wish_lines", "wish_scales"])(Fu:Fun K "first_wish_line" "Corner.first_wish_line" dq f fd)(Gmade_whole:FF P w K mg base 1 "made_whole" ["fractions", "scale"] dB):
  dm P w K mg base (CX1 P w) 2 f fd ["self", "number", "wish"] (spF ⟨K,mg⟩ eG):=
 bZ Fu jZ λcdv A outer s H E hr=>by
 have hu:=hr.units
 unfold eF gG
 exact (aC (bQ (i:=3) jZ.nd rfl (Or.inl rfl) (bR Gmade_whole hr aP (ak (aH 2) (ak (aR bG (aq (cP Ck (ao 0))) (ao 1) (λ_ _=>rfl)) aF))))
  (aJ (qQ (QX (aq (aV fL (aq (d8 (fB (aG dq) ["each"] [] 1 [] rfl ⟨rfl,by decide +kernel,by decide +kernel,by decide +kernel,by decide +kernel⟩ .nil (iR (ao 3)) (λ_ _ _ _ _ _=>(bC (i:=0) (show List.Nodup (["each"]:List Str) by decide) rfl (Or.inl rfl))) (λ_ _ _ _ _ _=>cM) (λ_ _ _ _ _ _=>(vW nD (ao 0)))))) (aq (d8 (fB (aG dq) ["scale"] [] 1 [] rfl ⟨rfl,by decide +kernel,by decide +kernel,by decide +kernel,by decide +kernel⟩ .nil (iR (aq (cP Ck (ao 0)))) (λ_ _ _ _ _ _=>(bC (i:=0) (show List.Nodup (["scale"]:List Str) by decide) rfl (Or.inl rfl))) (λ_ _ _ _ _ _=>cM) (λ_ _ _ _ _ _=>aB)))))) (aq (d8 (rn (ak aB aF))))))))
theorem wO(B:Bt mg)(Ck:t6 K mg "Corner" ["bottom", "held_columns", "lines", "scales", "wide", "wish_lines", "wish_scales"])(Fu:Fun K "__init__" "Corner.__init__" dg f fd)(Gscale_of:FF P w K mg base 2 "scale_of" ["fractions"] qz)(GCorner_first_line:FMd P w K mg base 2 "Corner" "first_line" ["self", "number", "row", "bound"] gR)(GCorner_first_wish_line:FMd P w K mg base 2 "Corner" "first_wish_line" ["self", "number", "wish"] eG):
  dm P w K mg base (CX1 P w) 3 f fd ["self", "rows", "bounds", "wishes"] (spI ⟨K,mg⟩ "Corner" "held_columns" cg):=
 Vz "Corner" "held_columns" Fu xf (by decide) λcdv A outer s H E hr=>by
 have hu:=hr.units
 unfold gq lD
 exact (vL (uO 0 Ck (cQ cW rfl B.len iD (aM (aq (aR bG (ao 3) (aq aB) (λ_ _=>rfl))) aY)))
  (vL (uO 0 Ck (d8 (fB (aG dg) ["row", "bound"] [] 2 [] rfl ⟨rfl,by decide +kernel,by decide +kernel,by decide +kernel,by decide +kernel⟩ .nil (GD rfl B.zip (aM (ao 1) (aM (ao 2) aY))) (λ_ _ _ _ _ _=>(oH rfl (cR (bC (i:=0) (show List.Nodup (["row", "bound"]:List Str) by decide) rfl (Or.inl rfl)) (cR (bC (i:=1) (show List.Nodup (["row", "bound"]:List Str) by decide) rfl (Or.inl rfl)) j4)))) (λ_ _ _ _ _ _=>cM) (λ_ _ _ _ _ _=>(bR Gscale_of hr nQ (ak (aV fL (ao 0) (aq (d8 (rn (ak (aH 1) aF))))) aF))))))
  (vL (uO 0 Ck (d8 (fB (aG dg) ["wish"] [] 1 [] rfl ⟨rfl,by decide +kernel,by decide +kernel,by decide +kernel,by decide +kernel⟩ .nil (iR (ao 3)) (λ_ _ _ _ _ _=>(bC (i:=0) (show List.Nodup (["wish"]:List Str) by decide) rfl (Or.inl rfl))) (λ_ _ _ _ _ _=>cM) (λ_ _ _ _ _ _=>(bR Gscale_of hr nQ (ak (aH 0) aF))))))
  (vL (uO 0 Ck (d8 (fB (aG dg) ["number", "self", "rows", "bounds"] ["self", "rows", "bounds"] 1 [0,1,2] rfl ⟨rfl,by decide +kernel,by decide +kernel,by decide +kernel,by decide +kernel⟩ (.cons rfl (.cons rfl (.cons rfl .nil))) (uZ (iY rfl B.range (aM (aq (cQ cW rfl B.len iD (aM (ao 1) aY))) aY))) (λ_ _ _ _ _ _=>(bC (i:=0) (show List.Nodup (["number", "self", "rows", "bounds"]:List Str) by decide) rfl (Or.inl rfl))) (λ_ _ _ _ _ _=>cM) (λ_ _ _ _ _ _=>(xR GCorner_first_line hr nQ (uI (ao 1)) (aM (ao 0) (aM (aq (aR bG (ao 2) (ao 0) (λ_ _=>rfl))) (aM (aq (aR bG (ao 3) (ao 0) (λ_ _=>rfl))) aY))))))))
  (vL (uO 0 Ck (d8 (fB (aG dg) ["number", "wish", "self"] ["self"] 2 [0] rfl ⟨rfl,by decide +kernel,by decide +kernel,by decide +kernel,by decide +kernel⟩ (.cons rfl .nil) (HW rfl B.enumerate (aM (ao 3) aY)) (λ_ _ _ _ _ _=>(oH rfl (cR (bC (i:=0) (show List.Nodup (["number", "wish", "self"]:List Str) by decide) rfl (Or.inl rfl)) (cR (bC (i:=1) (show List.Nodup (["number", "wish", "self"]:List Str) by decide) rfl (Or.inl rfl)) j4)))) (λ_ _ _ _ _ _=>cM) (λ_ _ _ _ _ _=>(xR GCorner_first_wish_line hr nQ (uI (ao 2)) (aM (ao 0) (aM (ao 1) aY)))))))
  (vL (uO 0 Ck aB)
  (Vi 0 Ck (fB (aG dg) ["number", "self"] ["self"] 1 [0] rfl ⟨rfl,by decide +kernel,by decide +kernel,by decide +kernel,by decide +kernel⟩ (.cons rfl .nil) (uZ (iY rfl B.range (aM (aq (cQ cW rfl B.len iD (aM (ao 1) aY))) aY))) (λ_ _ _ _ _ _=>(bC (i:=0) (show List.Nodup (["number", "self"]:List Str) by decide) rfl (Or.inl rfl))) (λ_ _ _ _ _ _=>cM) (λ_ _ _ _ _ _=>(aV fL (aq (cP Ck (ao 1))) (ao 0)))))))))))
theorem rB(B:Bt mg)(Ck:t6 K mg "Corner" ["bottom", "held_columns", "lines", "scales", "wide", "wish_lines", "wish_scales"])(Fu:Fun K "helping_column" "Corner.helping_column" fD f fd)  :
  dm P w K mg base (CX1 P w) 1 f fd ["self", "level"] (spF ⟨K,mg⟩ aX):=
 bZ Fu gU λcdv A outer s H E hr=>by
 have hu:=hr.units
 unfold eY fj
 exact (aC (lJ (k:=1000) PassesOwn.leaving rfl (iY rfl B.range (aM (aq (aV fL (aq (cP Ck (ao 0))) (aq (cQ cW rfl B.len iD (aM (aq (cP Ck (ao 0))) aY))))) aY)) (bC (i:=2) gU.nd rfl (Or.inr rfl))
  (aC (bQ (i:=3) gU.nd rfl (Or.inl rfl) (cQ (NQ rfl) rfl B.all We (aM (aq (d8 (fB (aG fD) ["line", "column"] ["column"] 1 [2] rfl ⟨rfl,by decide +kernel,by decide +kernel,by decide +kernel,by decide +kernel⟩ (.cons rfl .nil) (iR (aq (xK (aq (cP Ck (ao 0))) GJ (xH (ao 1))))) (λ_ _ _ _ _ _=>(bC (i:=0) (show List.Nodup (["line", "column"]:List Str) by decide) rfl (Or.inl rfl))) (λ_ _ _ _ _ _=>cM) (λ_ _ _ _ _ _=>(lC (iz hu) (aq (aR bG (ao 0) (ao 1) (λ_ _=>rfl))) (aq aB) (bH _)))))) aY)))
  (aJ (dF (yj (GF (jf (aH 3)) (zR (b7 (kJ hu) (aq (aR bG (aq (aR bG (aq (cP Ck (ao 0))) (ao 1) (λ_ _=>rfl))) (ao 2) (λ_ _=>rfl))) (aq aB) (bH _)))))
  (aJ (bK (aH 2)))
  bO))))
  (aJ (bK rA)))
theorem uK(B:Bt mg)(Ck:t6 K mg "Corner" ["bottom", "held_columns", "lines", "scales", "wide", "wish_lines", "wish_scales"])(Fu:Fun K "ends_ahead" "Corner.ends_ahead" jM f fd)  :
  dm P w K mg base (CX1 P w) 1 f fd ["self", "number", "other", "column"] (spF ⟨K,mg⟩ dR):=
 bZ Fu jH λcdv A outer s H E hr=>by
 have hu:=hr.units
 unfold gO gK
 exact (aC (bQ (i:=4) jH.nd rfl (Or.inl rfl) (aV cI (aq (aR bG (aq (aR bG (aq (cP Ck (ao 0))) (ao 1) (λ_ _=>rfl))) (aq (vW nD (aq aB))) (λ_ _=>rfl))) (aq (aR bG (aq (aR bG (aq (cP Ck (ao 0))) (ao 2) (λ_ _=>rfl))) (ao 3) (λ_ _=>rfl)))))
  (aC (bQ (i:=5) jH.nd rfl (Or.inl rfl) (aV cI (aq (aR bG (aq (aR bG (aq (cP Ck (ao 0))) (ao 2) (λ_ _=>rfl))) (aq (vW nD (aq aB))) (λ_ _=>rfl))) (aq (aR bG (aq (aR bG (aq (cP Ck (ao 0))) (ao 1) (λ_ _=>rfl))) (ao 3) (λ_ _=>rfl)))))
  (aC (dF (b7 (iz hu) (ao 4) (ao 5) (bH _))
  (aJ (bK (lC (kJ hu) (aq (aR bG (aq (cP Ck (ao 0))) (ao 1) (λ_ _=>rfl))) (aq (aR bG (aq (cP Ck (ao 0))) (ao 2) (λ_ _=>rfl))) (bH _))))
  bO)
  (aJ (bK (lC (kJ hu) (ao 4) (ao 5) (bH _)))))))
theorem uB(B:Bt mg)(Ck:t6 K mg "Corner" ["bottom", "held_columns", "lines", "scales", "wide", "wish_lines", "wish_scales"])(Fu:Fun K "ending_line" "Corner.ending_line" jn f fd)(GCorner_ends_ahead:FMd P w K mg base 1 "Corner" "ends_ahead" ["self", "number", "other", "column"] dR):
  dm P w K mg base (CX1 P w) 2 f fd ["self", "column"] (spF ⟨K,mg⟩ bW):=
 bZ Fu eN λcdv A outer s H E hr=>by
 have hu:=hr.units
 unfold jo ji
 exact (aC (bQ (i:=2) eN.nd rfl (Or.inl rfl) rA)
  (aC (lJ (k:=1000) PassesOwn.leaving rfl (Fz rfl B.enumerate (ak (cP Ck (ao 0)) aF)) (oH rfl (cR (bC (i:=3) eN.nd rfl (Or.inl rfl)) (cR (bC (i:=4) eN.nd rfl (Or.inl rfl)) j4)))
  (aJ (dF (yj (GF (b7 wC (aq (aR bG (ao 4) (ao 1) (λ_ _=>rfl))) (aq aB) (bH _)) (zR (yj (uz (b7 QQ (ao 2) (aq rA) (bH _)) (rY (jf (xR GCorner_ends_ahead hr aP (uI (ao 0)) (aM (ao 3) (aM (ao 2) (aM (ao 1) aY)))))))))))
  (aJ (bQ (i:=2) eN.nd rfl (Or.inl rfl) (aH 3)))
  bO)))
  (aJ (bK (aH 2)))))
theorem xF(B:Bt mg)(Ck:t6 K mg "Corner" ["bottom", "held_columns", "lines", "scales", "wide", "wish_lines", "wish_scales"])(Fu:Fun K "cleared" "Corner.cleared" jD f fd)  :
  dm P w K mg base (CX1 P w) 1 f fd ["self", "line", "turned", "column"] (spF ⟨K,mg⟩ fQ):=
 bZ Fu mL λcdv A outer s H E hr=>by
 have hu:=hr.units
 unfold mU mY
 exact (aC (bQ (i:=4) mL.nd rfl (Or.inr rfl) (aR bG (ao 2) (ao 3) (λ_ _=>rfl)))
  (aC (bQ (i:=5) mL.nd rfl (Or.inr rfl) (aR bG (ao 1) (ao 3) (λ_ _=>rfl)))
  (aJ (qQ (fB (aG jD) ["each", "there", "self", "by", "less"] ["self", "by", "less"] 2 [0,4,5] rfl ⟨rfl,by decide +kernel,by decide +kernel,by decide +kernel,by decide +kernel⟩ (.cons rfl (.cons rfl (.cons rfl .nil))) (GD rfl B.zip (aM (ao 1) (aM (ao 2) aY))) (λ_ _ _ _ _ _=>(oH rfl (cR (bC (i:=0) (show List.Nodup (["each", "there", "self", "by", "less"]:List Str) by decide) rfl (Or.inl rfl)) (cR (bC (i:=1) (show List.Nodup (["each", "there", "self", "by", "less"]:List Str) by decide) rfl (Or.inl rfl)) j4)))) (λ_ _ _ _ _ _=>cM) (λ_ _ _ _ _ _=>(aV je (aq (aV yo (aq (aV cI (ao 0) (ao 3))) (aq (aV cI (ao 4) (ao 1))))) (aq (cP Ck (ao 2))))))))))
theorem uF(B:Bt mg)(Ck:t6 K mg "Corner" ["bottom", "held_columns", "lines", "scales", "wide", "wish_lines", "wish_scales"])(Fu:Fun K "turn_about" "Corner.turn_about" fJ f fd)(GCorner_cleared:FMd P w K mg base 1 "Corner" "cleared" ["self", "line", "turned", "column"] fQ):
  dm P w K mg base (CX1 P w) 2 f fd ["self", "number", "column"] (spM ⟨K,mg⟩ dO):=
 K5 Fu pq (by decide) λcdv A outer s H E hr=>by
 have hu:=hr.units
 unfold oZ o8
 exact (aC (bQ (i:=3) pq.nd rfl (Or.inr rfl) (aR bG (aq (cP Ck (ao 0))) (ao 1) (λ_ _=>rfl)))
  (aC (uO 0 Ck (d8 (fB (aG fJ) ["line", "turned", "column", "self"] ["turned", "column", "self"] 1 [3,2,0] rfl ⟨rfl,by decide +kernel,by decide +kernel,by decide +kernel,by decide +kernel⟩ (.cons rfl (.cons rfl (.cons rfl .nil))) (iR (aq (cP Ck (ao 0)))) (λ_ _ _ _ _ _=>(bC (i:=0) (show List.Nodup (["line", "turned", "column", "self"]:List Str) by decide) rfl (Or.inl rfl))) (λ_ _ _ _ _ _=>cM) (λ_ _ _ _ _ _=>(xR GCorner_cleared hr nQ (uI (ao 3)) (aM (ao 0) (aM (ao 1) (aM (ao 2) aY))))))))
  (NB 0 1 3 Ck (fB (aG fJ) ["line", "turned", "column", "self"] ["turned", "column", "self"] 1 [3,2,0] rfl ⟨rfl,by decide +kernel,by decide +kernel,by decide +kernel,by decide +kernel⟩ (.cons rfl (.cons rfl (.cons rfl .nil))) (iR (aq (cP Ck (ao 0)))) (λ_ _ _ _ _ _=>(bC (i:=0) (show List.Nodup (["line", "turned", "column", "self"]:List Str) by decide) rfl (Or.inl rfl))) (λ_ _ _ _ _ _=>cM) (λ_ _ _ _ _ _=>(xR GCorner_cleared hr nQ (uI (ao 3)) (aM (ao 0) (aM (ao 1) (aM (ao 2) aY))))))
  (aC (Il 4 (aH 2) (cP Ck (ao 0)) (aH 1))
  (aJ (uO 0 Ck (aR bG (ao 3) (ao 2) (λ_ _=>rfl))))))))
theorem zA(B:Bt mg)(Ck:t6 K mg "Corner" ["bottom", "held_columns", "lines", "scales", "wide", "wish_lines", "wish_scales"])(Fu:Fun K "climb" "Corner.climb" qp f fd)(GCorner_helping_column:FMd P w K mg base 1 "Corner" "helping_column" ["self", "level"] aX)(GCorner_ending_line:FMd P w K mg base 2 "Corner" "ending_line" ["self", "column"] bW)(GCorner_turn_about:FMm P w K mg base 2 "Corner" "turn_about" ["self", "number", "column"] dO):
  dm P w K mg base (CX1 P w) 3 f fd ["self", "level"] (spM ⟨K,mg⟩ bB):=
 K5 Fu lK (by decide) λcdv A outer s H E hr=>by
 have hu:=hr.units
 unfold uH vA
 exact (aC (bQ (i:=2) lK.nd rfl (Or.inl rfl) (xR GCorner_helping_column hr aP (iC 0 4) (aM (ao 1) aY)))
  (aC (Cr PassesOwn.leaving (b7 xj (ao 2) (aq rA) (bH _))
  (aC (bQ (i:=3) lK.nd rfl (Or.inl rfl) (xR GCorner_ending_line hr aP (iC 0 4) (aM (ao 2) aY)))
  (aC (dF (b7 QQ (ao 3) (aq rA) (bH _))
  (aJ (bK (aH 2)))
  bO)
  (aC (Pa (Vc 0 4 GCorner_turn_about hr aP (ak (aH 3) (ak (aH 2) aF))))
  (aJ (bQ (i:=2) lK.nd rfl (Or.inl rfl) (xR GCorner_helping_column hr aP (iC 0 4) (aM (ao 1) aY))))))))
  (aJ (bK rA))))
theorem xm(B:Bt mg)(Cn:CnT K mg)(Ck:t6 K mg "Corner" ["bottom", "held_columns", "lines", "scales", "wide", "wish_lines", "wish_scales"])(Fu:Fun K "amounts" "Corner.amounts" jy f fd)(Glowest:FF P w K mg base 2 "lowest" ["top", "bottom"] gA):
  dm P w K mg base (CX1 P w) 3 f fd ["self", "tops"] (spF ⟨K,mg⟩ dZ):=
 bZ Fu jB λcdv A outer s H E hr=>by
 have hu:=hr.units
 unfold jz mK
 exact (aC (Ai (i:=2) (aG jy) ["column"] [] 1 [] jB.nd rfl (Or.inl rfl) rfl ⟨rfl,by decide +kernel,by decide +kernel,by decide +kernel,by decide +kernel⟩ .nil (uZ (iY rfl B.range (aM (aq (cP Ck (ao 0))) aY))) (λ_ _ _ _ _ _=>(bC (i:=0) (show List.Nodup (["column"]:List Str) by decide) rfl (Or.inl rfl))) (λ_ _ _ _ _ _=>cM) (λ_ _ _ _ _ _=>(De Cn rfl)))
  (aC (lJ (k:=1000) PassesOwn.leaving rfl (FP rfl B.zip (ak (cP Ck (ao 0)) (ak (aH 1) aF))) (oH rfl (cR (bC (i:=3) jB.nd rfl (Or.inl rfl)) (cR (bC (i:=4) jB.nd rfl (Or.inl rfl)) j4)))
  (aJ (dF (b7 (kJ hu) (ao 3) (aq (cP Ck (ao 0))) (bH _))
  (aJ (G9 2 (bR Glowest hr aP (ak (aH 4) (ak (cP Ck (ao 0)) aF))) (aH 3)))
  bO)))
  (aJ (KD 2))))
theorem Cz(B:Bt mg)(Ck:t6 K mg "Corner" ["bottom", "held_columns", "lines", "scales", "wide", "wish_lines", "wish_scales"])(Fu:Fun K "fit" "Corner.fit" pH f fd)(GCorner_amounts:FMd P w K mg base 3 "Corner" "amounts" ["self", "tops"] dZ):
  dm P w K mg base (CX1 P w) 4 f fd ["self"] (spF ⟨K,mg⟩ cu):=
 bZ Fu EY λcdv A outer s H E hr=>by
 have hu:=hr.units
 unfold pJ tV
 exact (aJ (qQ (Ca GCorner_amounts hr aP (uI (ao 0)) (aM (aq (d8 (fB (aG pH) ["line"] [] 1 [] rfl ⟨rfl,by decide +kernel,by decide +kernel,by decide +kernel,by decide +kernel⟩ .nil (iR (aq (cP Ck (ao 0)))) (λ_ _ _ _ _ _=>(bC (i:=0) (show List.Nodup (["line"]:List Str) by decide) rfl (Or.inl rfl))) (λ_ _ _ _ _ _=>cM) (λ_ _ _ _ _ _=>(aR bG (ao 0) (aq (vW nD (aq aB))) (λ_ _=>rfl)))))) aY))))
theorem vV(B:Bt mg)(Cn:CnT K mg)(Ck:t6 K mg "Corner" ["bottom", "held_columns", "lines", "scales", "wide", "wish_lines", "wish_scales"])(Fu:Fun K "way_along" "Corner.way_along" iw f fd)(GCorner_amounts:FMd P w K mg base 3 "Corner" "amounts" ["self", "tops"] dZ):
  dm P w K mg base (CX1 P w) 4 f fd ["self", "column"] (spF ⟨K,mg⟩ bL):=
 bZ Fu pY λcdv A outer s H E hr=>by
 have hu:=hr.units
 unfold iJ kI
 exact (aC (JW (i:=2) pY.nd rfl (Or.inl rfl) (Ca GCorner_amounts hr aP (uI (ao 0)) (aM (aq (d8 (fB (aG iw) ["line", "column"] ["column"] 1 [1] rfl ⟨rfl,by decide +kernel,by decide +kernel,by decide +kernel,by decide +kernel⟩ (.cons rfl .nil) (iR (aq (cP Ck (ao 0)))) (λ_ _ _ _ _ _=>(bC (i:=0) (show List.Nodup (["line", "column"]:List Str) by decide) rfl (Or.inl rfl))) (λ_ _ _ _ _ _=>cM) (λ_ _ _ _ _ _=>(vW nD (aq (aR bG (ao 0) (ao 1) (λ_ _=>rfl)))))))) aY)))
  (aC (dF (b7 (kJ hu) (ao 1) (aq (cP Ck (ao 0))) (bH _))
  (aJ (G9 2 (Yj Cn rfl) (aH 1)))
  bO)
  (aJ (KD 2))))
theorem yF(B:Bt mg)(Ck:t6 K mg "Corner" ["bottom", "held_columns", "lines", "scales", "wide", "wish_lines", "wish_scales"])(Fu:Fun K "prices" "Corner.prices" j0 f fd)(Glowest:FF P w K mg base 2 "lowest" ["top", "bottom"] gA):
  dm P w K mg base (CX1 P w) 3 f fd ["self", "level"] (spF ⟨K,mg⟩ bz):=
 bZ Fu oO λcdv A outer s H E hr=>by
 have hu:=hr.units
 unfold oK oG
 exact (aC (bQ (i:=2) oO.nd rfl (Or.inr rfl) (aR bG (aq (cP Ck (ao 0))) (ao 1) (λ_ _=>rfl)))
  (aC (bQ (i:=3) oO.nd rfl (Or.inr rfl) (aV cI (aq (cP Ck (ao 0))) (aq (aR bG (aq (cP Ck (ao 0))) (ao 1) (λ_ _=>rfl)))))
  (aJ (qQ (fB (aG j0) ["number", "scale", "bottom", "line", "self"] ["bottom", "line", "self"] 2 [3,2,0] rfl ⟨rfl,by decide +kernel,by decide +kernel,by decide +kernel,by decide +kernel⟩ (.cons rfl (.cons rfl (.cons rfl .nil))) (HW rfl B.enumerate (aM (aq (cP Ck (ao 0))) aY)) (λ_ _ _ _ _ _=>(oH rfl (cR (bC (i:=0) (show List.Nodup (["number", "scale", "bottom", "line", "self"]:List Str) by decide) rfl (Or.inl rfl)) (cR (bC (i:=1) (show List.Nodup (["number", "scale", "bottom", "line", "self"]:List Str) by decide) rfl (Or.inl rfl)) j4)))) (λ_ _ _ _ _ _=>cM) (λ_ _ _ _ _ _=>(bR Glowest hr nQ (ak (aV cI (aq (aR bG (ao 3) (aq (aV fL (aq (cP Ck (ao 4))) (ao 0))) (λ_ _=>rfl))) (ao 1)) (ak (aH 2) aF)))))))))
theorem PL(B:Bt mg)(Fu:Fun K "solve" "solve" El f fd)(Grefuse_great_seeking:FF P w K mg base 1 "refuse_great_seeking" ["rows", "wish"] bU)(GCorner___init__:MkT P w K mg base 3 "Corner" ["self", "rows", "bounds", "wishes"] (spI ⟨K,mg⟩ "Corner" "held_columns" cg))(GCorner_climb:FMm P w K mg base 3 "Corner" "climb" ["self", "level"] bB)(GCorner_fit:FMd P w K mg base 4 "Corner" "fit" ["self"] cu)(GCorner_way_along:FMd P w K mg base 4 "Corner" "way_along" ["self", "column"] bL)(GCorner_prices:FMd P w K mg base 3 "Corner" "prices" ["self", "level"] bz):
  dm P w K mg base (CX1 P w) 5 f fd ["rows", "bounds", "wish"] (spF ⟨K,mg⟩ jC):=
 bZ Fu Gi λcdv A outer s H E hr=>by
 have hu:=hr.units
 unfold zX Et
 exact (aC (Ls (bR Grefuse_great_seeking hr aP (ak (aH 0) (ak (aH 2) aF))))
  (HN 3 5 GCorner___init__ hr aP Gi.nd rfl (Or.inl rfl) (ak (aH 0) (ak (aH 1) (ak (d8 (rn (ak (aH 2) aF))) aF)))
  (aC (GP (i:=4) Gi.nd rfl (Or.inl rfl) (Vc 3 5 GCorner_climb hr aP (ak aB aF)))
  (aC (dF (b7 xj (ao 4) (aq rA) (bH _))
  (aJ (xu (sI qG (pL (BL GCorner_fit hr aP (iC 3 5)) (pL (Ca GCorner_way_along hr aP (iC 3 5) (aM (ao 4) aY)) xT)))))
  bO)
  (aJ (xu (sI qG (pL (BL GCorner_fit hr aP (iC 3 5)) (pL (Ca GCorner_prices hr aP (iC 3 5) (aM (aq aB) aY)) xT)))))))))
theorem By(B:Bt mg)(Cn:CnT K mg)(Ck:t6 K mg "Corner" ["bottom", "held_columns", "lines", "scales", "wide", "wish_lines", "wish_scales"])(Fu:Fun K "lift" "Corner.lift" rQ f fd)(Glowest:FF P w K mg base 2 "lowest" ["top", "bottom"] gA)(Gunder:FF P w K mg base 1 "under" ["first", "second"] uh):
  dm P w K mg base (CX1 P w) 3 f fd ["self"] (spF ⟨K,mg⟩ fM):=
 bZ Fu iW λcdv A outer s H E hr=>by
 have hu:=hr.units
 unfold nJ rm
 exact (aC (bQ (i:=1) iW.nd rfl (Or.inl rfl) (De Cn rfl))
  (aC (lJ (k:=1000) PassesOwn.leaving rfl (FP rfl B.zip (ak (xK (aq (aR bG (aq (cP Ck (ao 0))) (aq aB) (λ_ _=>rfl))) GJ (xH (aq (vW nD (aq aB))))) (ak (xK (aq (aR bG (aq (cP Ck (ao 0))) (aq aB) (λ_ _=>rfl))) GJ (xH (aq (vW nD (aq aB))))) aF))) (oH rfl (cR (bC (i:=2) iW.nd rfl (Or.inl rfl)) (cR (bC (i:=3) iW.nd rfl (Or.inl rfl)) j4)))
  (aJ (dF (b7 (kJ hu) (ao 3) (aq aB) (bH _))
  (aC (bQ (i:=4) iW.nd rfl (Or.inl rfl) (bR Glowest hr aP (ak (aV cI (aq (vW nD (ao 3))) (aq (aR bG (aq (cP Ck (ao 0))) (aq aB) (λ_ _=>rfl)))) (ak (aV cI (ao 2) (aq (aR bG (aq (cP Ck (ao 0))) (aq aB) (λ_ _=>rfl)))) aF))))
  (aJ (dF (jf (bR Gunder hr aP (ak (aH 1) (ak (aH 4) aF))))
  (aJ (bQ (i:=1) iW.nd rfl (Or.inl rfl) (aH 4)))
  bO)))
  bO)))
  (aJ (bK (aH 1)))))
theorem CG(B:Bt mg)(Fu:Fun K "solve_next" "solve_next" pK f fd)(Gplus:FF P w K mg base 3 "plus" ["first", "second"] GZ)(Gtimes:FF P w K mg base 3 "times" ["first", "second"] z8)(Grefuse_great_seeking:FF P w K mg base 1 "refuse_great_seeking" ["rows", "wish"] bU)(GCorner___init__:MkT P w K mg base 3 "Corner" ["self", "rows", "bounds", "wishes"] (spI ⟨K,mg⟩ "Corner" "held_columns" cg))(GCorner_climb:FMm P w K mg base 3 "Corner" "climb" ["self", "level"] bB)(GCorner_fit:FMd P w K mg base 4 "Corner" "fit" ["self"] cu)(GCorner_way_along:FMd P w K mg base 4 "Corner" "way_along" ["self", "column"] bL)(GCorner_prices:FMd P w K mg base 3 "Corner" "prices" ["self", "level"] bz)(GCorner_lift:FMd P w K mg base 3 "Corner" "lift" ["self"] fM):
  dm P w K mg base (CX1 P w) 5 f fd ["rows", "bounds", "wish", "second"] (spF ⟨K,mg⟩ cC):=
 bZ Fu iM λcdv A outer s H E hr=>by
 have hu:=hr.units
 unfold pF uf
 exact (aC (Ls (bR Grefuse_great_seeking hr aP (ak (aH 0) (ak (aH 2) aF))))
  (HN 4 9 GCorner___init__ hr aP iM.nd rfl (Or.inl rfl) (ak (aH 0) (ak (aH 1) (ak (d8 (rn (ak (aH 2) (ak (aH 3) aF)))) aF)))
  (aC (GP (i:=5) iM.nd rfl (Or.inl rfl) (Vc 4 9 GCorner_climb hr aP (ak aB aF)))
  (aC (dF (b7 xj (ao 5) (aq rA) (bH _))
  (aJ (xu (sI qG (pL (BL GCorner_fit hr aP (iC 4 9)) (pL (Ca GCorner_way_along hr aP (iC 4 9) (aM (ao 5) aY)) xT)))))
  bO)
  (aC (JW (i:=6) iM.nd rfl (Or.inl rfl) (Ca GCorner_prices hr aP (iC 4 9) (aM (aq aB) aY)))
  (aC (GP (i:=5) iM.nd rfl (Or.inl rfl) (Vc 4 9 GCorner_climb hr aP (ak aB aF)))
  (aC (dF (b7 xj (ao 5) (aq rA) (bH _))
  (aJ (xu (sI qG (pL (BL GCorner_fit hr aP (iC 4 9)) (DQ 6 (pL (Ca GCorner_way_along hr aP (iC 4 9) (aM (ao 5) aY)) xT))))))
  bO)
  (aC (bQ (i:=7) iM.nd rfl (Or.inr rfl) (Xr GCorner_lift hr aP (iC 4 9)))
  (aC (Ai (i:=8) (aG pK) ["other", "price", "lift"] ["lift"] 2 [7] iM.nd rfl (Or.inl rfl) rfl ⟨rfl,by decide +kernel,by decide +kernel,by decide +kernel,by decide +kernel⟩ (.cons rfl .nil) (GD rfl B.zip (aM (aq (xR GCorner_prices hr aP (iC 4 9) (aM (aq aB) aY))) (aM (ao 6) aY))) (λ_ _ _ _ _ _=>(oH rfl (cR (bC (i:=0) (show List.Nodup (["other", "price", "lift"]:List Str) by decide) rfl (Or.inl rfl)) (cR (bC (i:=1) (show List.Nodup (["other", "price", "lift"]:List Str) by decide) rfl (Or.inl rfl)) j4)))) (λ_ _ _ _ _ _=>cM) (λ_ _ _ _ _ _=>(bR Gplus hr nQ (ak (aH 0) (ak (bR Gtimes hr nQ (ak (aH 2) (ak (aH 1) aF))) aF)))))
  (aJ (xu (sI qG (pL (BL GCorner_fit hr aP (iC 4 9)) (DQ 6 (DQ 8 (sI (aH 7) xT))))))))))))))))
theorem zu(B:Bt mg)(Fu:Fun K "_law_cell_at" "_law_cell_at" qt f fd)  :
  dm P w K mg base (CX1 P w) 1 f fd ["_law_script", "_law_k"] (spF ⟨K,mg⟩ bu):=
 bZ Fu Ci λcdv A outer s H E hr=>by
 have hu:=hr.units
 unfold lX lR
 exact (aC (dF (b7 (kJ hu) (ao 1) (aq (cQ cW rfl B.len iD (aM (ao 0) aY))) (bH _))
  (aJ (bK (aR bG (ao 0) (ao 1) (λ_ _=>rfl))))
  bO)
  (aJ (bK aB)))
theorem zB(B:Bt mg)(Fu:Fun K "_law_divisor" "_law_divisor" qw f fd)  :
  dm P w K mg base (CX1 P w) 1 f fd ["_law_one", "_law_other"] (spF ⟨K,mg⟩ fX):=
 bZ Fu uP λcdv A outer s H E hr=>by
 have hu:=hr.units
 unfold qK p8
 exact (aC (Cr PassesOwn.leaving (b7 (oM hu) (ao 1) (aq aB) (bH _))
  (aJ (WY (i:=0) (j:=1) rfl uP.nd rfl rfl (by decide) rfl rfl (ak (aH 1) (ak (aV gP (ao 0) (ao 1)) aF)))))
  (aJ (bK (cQ vU rfl B.abs Ge (aM (ao 0) aY)))))
theorem Cj(B:Bt mg)(Fu:Fun K "_law_lowest" "_law_lowest" rz f fd)(G_law_divisor:FF P w K mg base 1 "_law_divisor" ["_law_one", "_law_other"] fX):
  dm P w K mg base (CX1 P w) 2 f fd ["_law_top", "_law_bottom"] (spF ⟨K,mg⟩ jX):=
 bZ Fu v7 λcdv A outer s H E hr=>by
 have hu:=hr.units
 unfold rZ rK
 exact (aC (bQ (i:=2) v7.nd rfl (Or.inl rfl) (bR G_law_divisor hr aP (ak (aH 0) (ak (aH 1) aF))))
  (aJ (bK (mV (ak (aV je (ao 0) (ao 2)) (ak (aV je (ao 1) (ao 2)) aF))))))
theorem Bb(B:Bt mg)(Fu:Fun K "_law_number" "_law_number" rH f fd)(G_law_lowest:FF P w K mg base 2 "_law_lowest" ["_law_top", "_law_bottom"] jX):
  dm P w K mg base (CX1 P w) 3 f fd ["_law_cell", "_law_sort"] (spF ⟨K,mg⟩ cN):=
 bZ Fu CQ λcdv A outer s H E hr=>by
 have hu:=hr.units
 unfold iZ iV
 exact (aC (dF (b7 (iz hu) (ao 1) (aq aB) (bH _))
  (aJ (bK (mV (ak (aV yo (aq (aV gP (ao 0) (aq aB))) (aq aB)) (ak aB aF)))))
  bO)
  (aC (dF (b7 (iz hu) (ao 1) (aq aB) (bH _))
  (aJ (bK (mV (ak (aR bG (aq (d8 (rn (ak aB (ak aB (ak aB (ak (vW nD (aq aB)) (ak aB (ak aB aF))))))))) (aq (aV gP (ao 0) (aq aB))) (λ_ _=>rfl)) (ak aB aF)))))
  bO)
  (aC (dF (b7 (iz hu) (ao 1) (aq aB) (bH _))
  (aJ (bK (bR G_law_lowest hr aP (ak (aV yo (aq (aV gP (ao 0) (aq aB))) (aq aB)) (ak (aV fL (aq aB) (aq (aV gP (aq (aV je (ao 0) (aq aB))) (aq aB)))) aF)))))
  bO)
  (aJ (bK (bR G_law_lowest hr aP (ak (aV yo (aq (aV gP (ao 0) (aq (aV cI (aq aB) (aq (aV Mm (aq aB) (aq aB))))))) (aq (aV Mm (aq aB) (aq aB)))) (ak (aV fL (aq aB) (aq (aV gP (aq (aV je (ao 0) (aq aB))) (aq aB)))) aF))))))))
theorem Cy(B:Bt mg)(Fu:Fun K "_law_bound" "_law_bound" sV f fd)(G_law_number:FF P w K mg base 3 "_law_number" ["_law_cell", "_law_sort"] cN):
  dm P w K mg base (CX1 P w) 4 f fd ["_law_cell", "_law_sort", "_law_zeros"] (spF ⟨K,mg⟩ iu):=
 bZ Fu xW λcdv A outer s H E hr=>by
 have hu:=hr.units
 unfold lE lM
 exact (aC (dF (yj (GF (b7 (iz hu) (ao 2) (aq aB) (bH _)) (zR (b7 (kJ hu) (aq (aV gP (ao 0) (aq aB))) (aq aB) (bH _)))))
  (aJ (bK (mV (ak aB (ak aB aF)))))
  bO)
  (aC (bQ (i:=3) xW.nd rfl (Or.inl rfl) (bR G_law_number hr aP (ak (aV je (ao 0) (aq aB)) (ak (aH 1) aF))))
  (aJ (bK (mV (ak (cQ vU rfl B.abs Ge (aM (aq (aR bG (ao 3) (aq aB) (λ_ _=>rfl))) aY)) (ak (aR bG (ao 3) (aq aB) (λ_ _=>rfl)) aF)))))))
theorem Fg(B:Bt mg)(Fu:Fun K "_law_list" "_law_list" uJ f fd)(G_law_divisor:FF P w K mg base 1 "_law_divisor" ["_law_one", "_law_other"] fX):
  dm P w K mg base (CX1 P w) 2 f fd ["_law_found", "_law_many"] (spF ⟨K,mg⟩ dI):=
 bZ Fu vo λcdv A outer s H E hr=>by
 have hu:=hr.units
 unfold uQ uG
 exact (aC (dF (yj (uz (mF (jf (Bv (x:="") (ao 0) rfl B.isinstance jV rfl B.list vI))) (rY (b7 (oM hu) (aq (cQ cW rfl B.len iD (aM (ao 0) aY))) (ao 1) (bH _)))))
  (aJ (bK jG))
  bO)
  (aC (lJ (k:=1000) PassesOwn.leaving rfl (Gp (aH 0)) (bC (i:=2) vo.nd rfl (Or.inl rfl))
  (aC (dF (yj (uz (mF (jf (Bv (x:="") (ao 2) rfl B.isinstance jV rfl B.tuple Hu))) (rY (b7 (oM hu) (aq (cQ cW rfl B.len iD (aM (ao 2) aY))) (aq aB) (bH _)))))
  (aJ (bK jG))
  bO)
  (aC (lJ (k:=1000) PassesOwn.leaving rfl (SJ (aH 2)) (bC (i:=3) vo.nd rfl (Or.inl rfl))
  (aJ (dF (yj (uz (mF (jf (Bv (x:="") (ao 3) rfl B.isinstance jV rfl B.int Ye))) (rY (jf (Bv (x:="") (ao 3) rfl B.isinstance jV rfl B.bool Vb)))))
  (aJ (bK jG))
  bO)))
  (aJ (dF (yj (uz (b7 (kJ hu) (aq (aR bG (ao 2) (aq aB) (λ_ _=>rfl))) (aq aB) (bH _)) (uz (b7 (kJ hu) (aq (aR bG (ao 2) (aq aB) (λ_ _=>rfl))) (aq aB) (bH _)) (rY (b7 (oM hu) (aq (bR G_law_divisor hr aP (ak (aR bG (ao 2) (aq aB) (λ_ _=>rfl)) (ak (aR bG (ao 2) (aq aB) (λ_ _=>rfl)) aF)))) (aq aB) (bH _))))))
  (aJ (bK jG))
  bO)))))
  (aJ (bK jG))))
theorem Ho(B:Bt mg)(Fu:Fun K "_law_dot" "_law_dot" wI f fd)  :
  dm P w K mg base (CX1 P w) 1 f fd ["_law_some", "_law_more"] (spF ⟨K,mg⟩ aW):=
 bZ Fu km λcdv A outer s H E hr=>by
 have hu:=hr.units
 unfold sY wu
 exact (aC (bQ (i:=2) km.nd rfl (Or.inl rfl) aB)
  (aC (bQ (i:=3) km.nd rfl (Or.inl rfl) aB)
  (aC (lJ (k:=1000) PassesOwn.leaving rfl (FP rfl B.zip (ak (aH 0) (ak (aH 1) aF))) (oH rfl (cR (bC (i:=4) km.nd rfl (Or.inl rfl)) (cR (bC (i:=5) km.nd rfl (Or.inl rfl)) j4)))
  (aC (bQ (i:=2) km.nd rfl (Or.inl rfl) (aV fL (aq (aV cI (aq (aV cI (ao 2) (aq (aR bG (ao 4) (aq aB) (λ_ _=>rfl))))) (aq (aR bG (ao 5) (aq aB) (λ_ _=>rfl))))) (aq (aV cI (aq (aV cI (aq (aR bG (ao 4) (aq aB) (λ_ _=>rfl))) (aq (aR bG (ao 5) (aq aB) (λ_ _=>rfl))))) (ao 3)))))
  (aJ (bQ (i:=3) km.nd rfl (Or.inl rfl) (aV cI (aq (aV cI (ao 3) (aq (aR bG (ao 4) (aq aB) (λ_ _=>rfl))))) (aq (aR bG (ao 5) (aq aB) (λ_ _=>rfl))))))))
  (aJ (bK (mV (ak (aH 2) (ak (aH 3) aF))))))))
theorem Ex(B:Bt mg)(Fu:Fun K "_law_less" "_law_less" vf f fd)  :
  dm P w K mg base (CX1 P w) 1 f fd ["_law_one", "_law_other"] (spF ⟨K,mg⟩ bF):=
 bZ Fu Hi λcdv A outer s H E hr=>by
 have hu:=hr.units
 unfold uL uC
 exact (aJ (bK (mV (ak (aV yo (aq (aV cI (aq (aR bG (ao 0) (aq aB) (λ_ _=>rfl))) (aq (aR bG (ao 1) (aq aB) (λ_ _=>rfl))))) (aq (aV cI (aq (aR bG (ao 1) (aq aB) (λ_ _=>rfl))) (aq (aR bG (ao 0) (aq aB) (λ_ _=>rfl)))))) (ak (aV cI (aq (aR bG (ao 0) (aq aB) (λ_ _=>rfl))) (aq (aR bG (ao 1) (aq aB) (λ_ _=>rfl)))) aF)))))
theorem CJ(B:Bt mg)(Fu:Fun K "_law_times" "_law_times" tH f fd)  :
  dm P w K mg base (CX1 P w) 1 f fd ["_law_one", "_law_other"] (spF ⟨K,mg⟩ gr):=
 bZ Fu Ek λcdv A outer s H E hr=>by
 have hu:=hr.units
 unfold tM tR
 exact (aJ (bK (mV (ak (aV cI (aq (aR bG (ao 0) (aq aB) (λ_ _=>rfl))) (aq (aR bG (ao 1) (aq aB) (λ_ _=>rfl)))) (ak (aV cI (aq (aR bG (ao 0) (aq aB) (λ_ _=>rfl))) (aq (aR bG (ao 1) (aq aB) (λ_ _=>rfl)))) aF)))))
theorem Ft(B:Bt mg)(Fu:Fun K "_law_fits" "_law_fits" vB f fd)(G_law_dot:FF P w K mg base 1 "_law_dot" ["_law_some", "_law_more"] aW)(G_law_less:FF P w K mg base 1 "_law_less" ["_law_one", "_law_other"] bF):
  dm P w K mg base (CX1 P w) 2 f fd ["_law_rows", "_law_bounds", "_law_fit"] (spF ⟨K,mg⟩ oA):=
 bZ Fu uE λcdv A outer s H E hr=>by
 have hu:=hr.units
 unfold qO uU
 exact (aC (lJ (k:=1000) PassesOwn.leaving rfl (FP rfl B.zip (ak (aH 0) (ak (aH 1) aF))) (oH rfl (cR (bC (i:=3) uE.nd rfl (Or.inl rfl)) (cR (bC (i:=4) uE.nd rfl (Or.inl rfl)) j4)))
  (aJ (dF (b7 wC (aq (aR bG (aq (bR G_law_less hr aP (ak (bR G_law_dot hr aP (ak (aH 3) (ak (aH 2) aF))) (ak (aH 4) aF)))) (aq aB) (λ_ _=>rfl))) (aq aB) (bH _))
  (aJ (bK jG))
  bO)))
  (aJ (bK jG)))
theorem Cp(B:Bt mg)(Fu:Fun K "_law_is_way" "_law_is_way" rD f fd)(G_law_list:FF P w K mg base 2 "_law_list" ["_law_found", "_law_many"] dI)(G_law_dot:FF P w K mg base 1 "_law_dot" ["_law_some", "_law_more"] aW):
  dm P w K mg base (CX1 P w) 3 f fd ["_law_rows", "_law_wish_here", "_law_way"] (spF ⟨K,mg⟩ jW):=
 bZ Fu wk λcdv A outer s H E hr=>by
 have hu:=hr.units
 unfold nM rW
 exact (aC (dF (mF (jf (bR G_law_list hr aP (ak (aH 2) (ak (cQ cW rfl B.len iD (aM (ao 1) aY)) aF)))))
  (aJ (bK jG))
  bO)
  (aC (lJ (k:=1000) PassesOwn.leaving rfl (Gp (aH 0)) (bC (i:=3) wk.nd rfl (Or.inl rfl))
  (aJ (dF (b7 wC (aq (aR bG (aq (bR G_law_dot hr aP (ak (aH 3) (ak (aH 2) aF)))) (aq aB) (λ_ _=>rfl))) (aq aB) (bH _))
  (aJ (bK jG))
  bO)))
  (aJ (bK jG))))
theorem zq(B:Bt mg)(Fu:Fun K "_law_is_best" "_law_is_best" lL f fd)(G_law_list:FF P w K mg base 2 "_law_list" ["_law_found", "_law_many"] dI)(G_law_dot:FF P w K mg base 1 "_law_dot" ["_law_some", "_law_more"] aW)(G_law_less:FF P w K mg base 1 "_law_less" ["_law_one", "_law_other"] bF):
  dm P w K mg base (CX1 P w) 3 f fd ["_law_rows", "_law_bounds", "_law_wish_here", "_law_fit", "_law_prices"] (spF ⟨K,mg⟩ lA):=
 bZ Fu ql λcdv A outer s H E hr=>by
 have hu:=hr.units
 unfold lG qF
 exact (aC (dF (mF (jf (bR G_law_list hr aP (ak (aH 4) (ak (cQ cW rfl B.len iD (aM (ao 0) aY)) aF)))))
  (aJ (bK jG))
  bO)
  (aC (lJ (k:=1000) PassesOwn.leaving rfl (Fz rfl B.enumerate (ak (aH 2) aF)) (oH rfl (cR (bC (i:=5) ql.nd rfl (Or.inr rfl)) (cR (bC (i:=6) ql.nd rfl (Or.inl rfl)) j4)))
  (aJ (dF (b7 (kJ hu) (aq (aR bG (aq (bR G_law_less hr aP (ak (bR G_law_dot hr aP (ak (d8 (fB (aG lL) ["_law_row", "_law_k"] ["_law_k"] 1 [5] rfl ⟨rfl,by decide +kernel,by decide +kernel,by decide +kernel,by decide +kernel⟩ (.cons rfl .nil) (iR (ao 0)) (λ_ _ _ _ _ _=>(bC (i:=0) (show List.Nodup (["_law_row", "_law_k"]:List Str) by decide) rfl (Or.inl rfl))) (λ_ _ _ _ _ _=>cM) (λ_ _ _ _ _ _=>(aR bG (ao 0) (ao 1) (λ_ _=>rfl))))) (ak (aH 4) aF))) (ak (aH 6) aF)))) (aq aB) (λ_ _=>rfl))) (aq aB) (bH _))
  (aJ (bK jG))
  bO)))
  (aJ (bK (lC (iz hu) (aq (aR bG (aq (bR G_law_less hr aP (ak (bR G_law_dot hr aP (ak (aH 1) (ak (aH 4) aF))) (ak (bR G_law_dot hr aP (ak (aH 2) (ak (aH 3) aF))) aF)))) (aq aB) (λ_ _=>rfl))) (aq aB) (bH _))))))
theorem zr(B:Bt mg)(Fu:Fun K "_law_is_next" "_law_is_next" lQ f fd)(G_law_list:FF P w K mg base 2 "_law_list" ["_law_found", "_law_many"] dI)(G_law_dot:FF P w K mg base 1 "_law_dot" ["_law_some", "_law_more"] aW)(G_law_less:FF P w K mg base 1 "_law_less" ["_law_one", "_law_other"] bF)(G_law_times:FF P w K mg base 1 "_law_times" ["_law_one", "_law_other"] gr):
  dm P w K mg base (CX1 P w) 3 f fd ["_law_rows", "_law_bounds", "_law_wishes", "_law_fit", "_law_others", "_law_lift"] (spF ⟨K,mg⟩ jh):=
 bZ Fu jt λcdv A outer s H E hr=>by
 have hu:=hr.units
 unfold lu qg
 exact (aC (dF (yj (uz (mF (jf (bR G_law_list hr aP (ak (aH 4) (ak (cQ cW rfl B.len iD (aM (ao 0) aY)) aF))))) (rY (mF (jf (bR G_law_list hr aP (ak (d8 (rn (ak (aH 5) aF))) (ak aB aF))))))))
  (aJ (bK jG))
  bO)
  (aC (lJ (k:=1000) PassesOwn.leaving rfl (Fz rfl B.enumerate (ak (aR bG (ao 2) (aq aB) (λ_ _=>rfl)) aF)) (oH rfl (cR (bC (i:=6) jt.nd rfl (Or.inr rfl)) (cR (bC (i:=7) jt.nd rfl (Or.inl rfl)) j4)))
  (aC (bQ (i:=8) jt.nd rfl (Or.inl rfl) (bR G_law_less hr aP (ak (bR G_law_dot hr aP (ak (d8 (fB (aG lQ) ["_law_row", "_law_k"] ["_law_k"] 1 [6] rfl ⟨rfl,by decide +kernel,by decide +kernel,by decide +kernel,by decide +kernel⟩ (.cons rfl .nil) (iR (ao 0)) (λ_ _ _ _ _ _=>(bC (i:=0) (show List.Nodup (["_law_row", "_law_k"]:List Str) by decide) rfl (Or.inl rfl))) (λ_ _ _ _ _ _=>cM) (λ_ _ _ _ _ _=>(aR bG (ao 0) (ao 1) (λ_ _=>rfl))))) (ak (aH 4) aF))) (ak (bR G_law_times hr aP (ak (aH 5) (ak (aH 7) aF))) aF))))
  (aJ (dF (b7 (kJ hu) (aq (aR bG (aq (bR G_law_less hr aP (ak (aH 8) (ak (aR bG (aq (aR bG (ao 2) (aq aB) (λ_ _=>rfl))) (ao 6) (λ_ _=>rfl)) aF)))) (aq aB) (λ_ _=>rfl))) (aq aB) (bH _))
  (aJ (bK jG))
  bO))))
  (aC (bQ (i:=8) jt.nd rfl (Or.inl rfl) (bR G_law_less hr aP (ak (bR G_law_dot hr aP (ak (aH 1) (ak (aH 4) aF))) (ak (bR G_law_times hr aP (ak (aH 5) (ak (bR G_law_dot hr aP (ak (aR bG (ao 2) (aq aB) (λ_ _=>rfl)) (ak (aH 3) aF))) aF))) aF))))
  (aJ (bK (lC (iz hu) (aq (aR bG (aq (bR G_law_less hr aP (ak (aH 8) (ak (bR G_law_dot hr aP (ak (aR bG (ao 2) (aq aB) (λ_ _=>rfl)) (ak (aH 3) aF))) aF)))) (aq aB) (λ_ _=>rfl))) (aq aB) (bH _)))))))
theorem CT(B:Bt mg)(Fu:Fun K "_law_right" "_law_right" ue f fd)(G_law_list:FF P w K mg base 2 "_law_list" ["_law_found", "_law_many"] dI)(G_law_dot:FF P w K mg base 1 "_law_dot" ["_law_some", "_law_more"] aW)(G_law_fits:FF P w K mg base 2 "_law_fits" ["_law_rows", "_law_bounds", "_law_fit"] oA)(G_law_is_way:FF P w K mg base 3 "_law_is_way" ["_law_rows", "_law_wish_here", "_law_way"] jW)(G_law_is_best:FF P w K mg base 3 "_law_is_best" ["_law_rows", "_law_bounds", "_law_wish_here", "_law_fit", "_law_prices"] lA)(G_law_is_next:FF P w K mg base 3 "_law_is_next" ["_law_rows", "_law_bounds", "_law_wishes", "_law_fit", "_law_others", "_law_lift"] jh):
  dm P w K mg base (CX1 P w) 4 f fd ["_law_found", "_law_rows", "_law_bounds", "_law_wishes"] (spF ⟨K,mg⟩ cD):=
 bZ Fu Fe λcdv A outer s H E hr=>by
 have hu:=hr.units
 unfold gD lU
 exact (aC (dF (yj (uz (mF (jf (Bv (x:="") (ao 0) rfl B.isinstance jV rfl B.tuple Hu))) (uz (b7 (kJ hu) (aq (cQ cW rfl B.len iD (aM (ao 0) aY))) (aq aB) (bH _)) (rY (mF (jf (bR G_law_list hr aP (ak (aR bG (ao 0) (aq aB) (λ_ _=>rfl)) (ak (cQ cW rfl B.len iD (aM (aq (aR bG (ao 3) (aq aB) (λ_ _=>rfl))) aY)) aF)))))))))
  (aJ (bK jG))
  bO)
  (aC (dF (mF (jf (bR G_law_fits hr aP (ak (aH 1) (ak (aH 2) (ak (aR bG (ao 0) (aq aB) (λ_ _=>rfl)) aF))))))
  (aJ (bK jG))
  bO)
  (aC (dF (b7 (iz hu) (aq (aR bG (ao 0) (aq aB) (λ_ _=>rfl))) (aq qG) (bH _))
  (aJ (bK (Ja (lC (iz hu) (aq (cQ cW rfl B.len iD (aM (ao 0) aY))) (aq aB) (bH _)) (Ja (bR G_law_is_way hr aP (ak (aH 1) (ak (aR bG (ao 3) (aq aB) (λ_ _=>rfl)) (ak (aR bG (ao 0) (aq aB) (λ_ _=>rfl)) aF)))) (J5 (lC wC (aq (aR bG (aq (bR G_law_dot hr aP (ak (aR bG (ao 3) (aq aB) (λ_ _=>rfl)) (ak (aR bG (ao 0) (aq aB) (λ_ _=>rfl)) aF)))) (aq aB) (λ_ _=>rfl))) (aq aB) (bH _)))))))
  bO)
  (aC (dF (mF (jf (bR G_law_is_best hr aP (ak (aH 1) (ak (aH 2) (ak (aR bG (ao 3) (aq aB) (λ_ _=>rfl)) (ak (aR bG (ao 0) (aq aB) (λ_ _=>rfl)) (ak (aR bG (ao 0) (aq aB) (λ_ _=>rfl)) aF))))))))
  (aJ (bK jG))
  bO)
  (aC (dF (b7 (iz hu) (aq (aR bG (ao 0) (aq aB) (λ_ _=>rfl))) (aq qG) (bH _))
  (aC (dF (yj (uz (b7 (oM hu) (aq (cQ cW rfl B.len iD (aM (ao 0) aY))) (aq aB) (bH _)) (rY (mF (jf (bR G_law_is_way hr aP (ak (aH 1) (ak (aR bG (ao 3) (aq aB) (λ_ _=>rfl)) (ak (aR bG (ao 0) (aq aB) (λ_ _=>rfl)) aF)))))))))
  (aJ (bK jG))
  bO)
  (aJ (bK (Ja (lC (iz hu) (aq (aR bG (aq (bR G_law_dot hr aP (ak (aR bG (ao 3) (aq aB) (λ_ _=>rfl)) (ak (aR bG (ao 0) (aq aB) (λ_ _=>rfl)) aF)))) (aq aB) (λ_ _=>rfl))) (aq aB) (bH _)) (J5 (lC wC (aq (aR bG (aq (bR G_law_dot hr aP (ak (aR bG (ao 3) (aq aB) (λ_ _=>rfl)) (ak (aR bG (ao 0) (aq aB) (λ_ _=>rfl)) aF)))) (aq aB) (λ_ _=>rfl))) (aq aB) (bH _)))))))
  bO)
  (aC (dF (yj (uz (b7 (oM hu) (aq (aR bG (ao 0) (aq aB) (λ_ _=>rfl))) (aq qG) (bH _)) (rY (b7 (oM hu) (aq (cQ cW rfl B.len iD (aM (ao 0) aY))) (aq aB) (bH _)))))
  (aJ (bK jG))
  bO)
  (aJ (bK (bR G_law_is_next hr aP (ak (aH 1) (ak (aH 2) (ak (aH 3) (ak (aR bG (ao 0) (aq aB) (λ_ _=>rfl)) (ak (aR bG (ao 0) (aq aB) (λ_ _=>rfl)) (ak (aR bG (ao 0) (aq aB) (λ_ _=>rfl)) aF)))))))))))))))
theorem Fp(B:Bt mg)(Fu:Fun K "_law_wish" "_law_wish" qX f fd)(G_law_cell_at:FF P w K mg base 1 "_law_cell_at" ["_law_script", "_law_k"] bu)(G_law_number:FF P w K mg base 3 "_law_number" ["_law_cell", "_law_sort"] cN):
  dm P w K mg base (CX1 P w) 4 f fd ["_law_script", "_law_at", "_law_wide", "_law_sort", "_law_rows"] (spF ⟨K,mg⟩ lg):=
 bZ Fu zg λcdv A outer s H E hr=>by
 have hu:=hr.units
 unfold qU uW
 exact (aC (bQ (i:=5) zg.nd rfl (Or.inl rfl) (bR G_law_cell_at hr aP (ak (aH 0) (ak aB aF))))
  (aC (dF (b7 (iz hu) (aq (aV gP (ao 5) (aq aB))) (aq aB) (bH _))
  (aJ (bK (aV Q4 (aq (d8 (rn (ak (mV (ak aB (ak aB aF))) aF)))) (ao 2))))
  bO)
  (aC (dF (yj (GF (b7 (iz hu) (aq (aV gP (ao 5) (aq aB))) (aq aB) (bH _)) (zR (b7 (oM hu) (ao 4) (aq (d8 (rn aF))) (bH _)))))
  (aJ (qQ (sy qu rfl B.list vI (aM (aq (aR bG (ao 4) (aq (aV gP (aq (aV je (ao 5) (aq aB))) (aq (cQ cW rfl B.len iD (aM (ao 4) aY))))) (λ_ _=>rfl))) aY))))
  bO)
  (aJ (qQ (fB (aG qX) ["_law_k", "_law_sort", "_law_script", "_law_at"] ["_law_sort", "_law_script", "_law_at"] 1 [3,0,1] rfl ⟨rfl,by decide +kernel,by decide +kernel,by decide +kernel,by decide +kernel⟩ (.cons rfl (.cons rfl (.cons rfl .nil))) (uZ (iY rfl B.range (aM (ao 2) aY))) (λ_ _ _ _ _ _=>(bC (i:=0) (show List.Nodup (["_law_k", "_law_sort", "_law_script", "_law_at"]:List Str) by decide) rfl (Or.inl rfl))) (λ_ _ _ _ _ _=>cM) (λ_ _ _ _ _ _=>(bR G_law_number hr nQ (ak (bR G_law_cell_at hr nQ (ak (aH 2) (ak (aV fL (ao 3) (ao 0)) aF))) (ak (aH 1) aF))))))))))
theorem Wf(B:Bt mg)(Fu:Fun K "law" "law" v9 f fd)(Gsolve:FF P w K mg base 5 "solve" ["rows", "bounds", "wish"] jC)(Gsolve_next:FF P w K mg base 5 "solve_next" ["rows", "bounds", "wish", "second"] cC)(G_law_cell_at:FF P w K mg base 1 "_law_cell_at" ["_law_script", "_law_k"] bu)(G_law_number:FF P w K mg base 3 "_law_number" ["_law_cell", "_law_sort"] cN)(G_law_bound:FF P w K mg base 4 "_law_bound" ["_law_cell", "_law_sort", "_law_zeros"] iu)(G_law_dot:FF P w K mg base 1 "_law_dot" ["_law_some", "_law_more"] aW)(G_law_less:FF P w K mg base 1 "_law_less" ["_law_one", "_law_other"] bF)(G_law_right:FF P w K mg base 4 "_law_right" ["_law_found", "_law_rows", "_law_bounds", "_law_wishes"] cD)(G_law_wish:FF P w K mg base 4 "_law_wish" ["_law_script", "_law_at", "_law_wide", "_law_sort", "_law_rows"] lg):
  dm P w K mg base (CX1 P w) 6 f fd ["_law_script"] (spF ⟨K,mg⟩ VN):=
 bZ Fu jU λcdv A outer s H E hr=>by
 have hu:=hr.units
 unfold KH Su
 exact (aC (bQ (i:=1) jU.nd rfl (Or.inl rfl) (bR G_law_cell_at hr aP (ak (aH 0) (ak aB aF))))
  (aC (bQ (i:=2) jU.nd rfl (Or.inl rfl) (aV gP (ao 1) (aq aB)))
  (aC (bQ (i:=3) jU.nd rfl (Or.inl rfl) (aV fL (aq aB) (aq (aV gP (aq (aV je (ao 1) (aq aB))) (aq aB)))))
  (aC (bQ (i:=4) jU.nd rfl (Or.inr rfl) (aV gP (aq (aV je (ao 1) (aq aB))) (aq aB)))
  (aC (bQ (i:=5) jU.nd rfl (Or.inr rfl) (aV gP (aq (aV je (ao 1) (aq aB))) (aq aB)))
  (aC (bQ (i:=6) jU.nd rfl (Or.inr rfl) (aV fL (aq aB) (ao 3)))
  (aC (wV (i:=7) (aG v9) ["_law_k", "_law_sort", "_law_zeros", "_law_script", "_law_at"] ["_law_sort", "_law_zeros", "_law_script", "_law_at"] 1 [4,5,0,6] jU.nd rfl (Or.inl rfl) rfl ⟨rfl,by decide +kernel,by decide +kernel,by decide +kernel,by decide +kernel⟩ (.cons rfl (.cons rfl (.cons rfl (.cons rfl .nil)))) (uZ (iY rfl B.range (aM (ao 2) aY))) (λ_ _ _ _ _ _=>(bC (i:=0) (show List.Nodup (["_law_k", "_law_sort", "_law_zeros", "_law_script", "_law_at"]:List Str) by decide) rfl (Or.inl rfl))) (λ_ _ _ _ _ _=>cM) (λ_ _ _ _ _ _=>(bR G_law_bound hr nQ (ak (bR G_law_cell_at hr nQ (ak (aH 3) (ak (aV fL (ao 4) (ao 0)) aF))) (ak (aH 1) (ak (aH 2) aF))))))
  (aC (bQ (i:=6) jU.nd rfl (Or.inr rfl) (aV fL (ao 6) (ao 2)))
  (aC (JW (i:=8) jU.nd rfl (Or.inl rfl) (rn aF))
  (aC (lJ (k:=1000) PassesOwn.leaving rfl (iY rfl B.range (aM (ao 2) aY)) (bC (i:=9) jU.nd rfl (Or.inl rfl))
  (aC (NZ 8 (d8 (fB (aG v9) ["_law_k", "_law_sort", "_law_script", "_law_at"] ["_law_sort", "_law_script", "_law_at"] 1 [4,0,6] rfl ⟨rfl,by decide +kernel,by decide +kernel,by decide +kernel,by decide +kernel⟩ (.cons rfl (.cons rfl (.cons rfl .nil))) (uZ (iY rfl B.range (aM (ao 3) aY))) (λ_ _ _ _ _ _=>(bC (i:=0) (show List.Nodup (["_law_k", "_law_sort", "_law_script", "_law_at"]:List Str) by decide) rfl (Or.inl rfl))) (λ_ _ _ _ _ _=>cM) (λ_ _ _ _ _ _=>(bR G_law_number hr nQ (ak (bR G_law_cell_at hr nQ (ak (aH 2) (ak (aV fL (ao 3) (ao 0)) aF))) (ak (aH 1) aF)))))))
  (aJ (bQ (i:=6) jU.nd rfl (Or.inr rfl) (aV fL (ao 6) (ao 3))))))
  (Uc 8 (aC (bQ (i:=10) jU.nd rfl (Or.inl rfl) (bR G_law_wish hr aP (ak (aH 0) (ak aB (ak (aH 3) (ak (aH 4) (ak (aH 8) aF)))))))
  (aC (wV (i:=11) (aG v9) ["_law_k", "_law_sort", "_law_script", "_law_at"] ["_law_sort", "_law_script", "_law_at"] 1 [4,0,6] jU.nd rfl (Or.inl rfl) rfl ⟨rfl,by decide +kernel,by decide +kernel,by decide +kernel,by decide +kernel⟩ (.cons rfl (.cons rfl (.cons rfl .nil))) (uZ (iY rfl B.range (aM (ao 3) aY))) (λ_ _ _ _ _ _=>(bC (i:=0) (show List.Nodup (["_law_k", "_law_sort", "_law_script", "_law_at"]:List Str) by decide) rfl (Or.inl rfl))) (λ_ _ _ _ _ _=>cM) (λ_ _ _ _ _ _=>(bR G_law_number hr nQ (ak (aV fL (aq (bR G_law_cell_at hr nQ (ak (aH 2) (ak (aV fL (ao 3) (ao 0)) aF)))) (aq (aV cI (aq (aV cI (aq aB) (ao 0))) (ao 0)))) (ak (aH 1) aF)))))
  (aC (bQ (i:=12) jU.nd rfl (Or.inl rfl) (mV (ak (d8 (fB (aG v9) ["_law_row"] [] 1 [] rfl ⟨rfl,by decide +kernel,by decide +kernel,by decide +kernel,by decide +kernel⟩ .nil (iR (ao 8)) (λ_ _ _ _ _ _=>(bC (i:=0) (show List.Nodup (["_law_row"]:List Str) by decide) rfl (Or.inl rfl))) (λ_ _ _ _ _ _=>cM) (λ_ _ _ _ _ _=>(d8 (sy qu rfl B.list vI (aM (ao 0) aY)))))) (ak (d8 (sy qu rfl B.list vI (aM (ao 7) aY))) (ak (d8 (sy qu rfl B.list vI (aM (ao 10) aY))) (ak (d8 (sy qu rfl B.list vI (aM (ao 11) aY))) aF))))))
  (SN 13 18 Gsolve_next hr aP jU.nd rfl (Or.inl rfl) (ak (aR bG (ao 12) (aq aB) (λ_ _=>rfl)) (ak (aR bG (ao 12) (aq aB) (λ_ _=>rfl)) (ak (aR bG (ao 12) (aq aB) (λ_ _=>rfl)) (ak (aR bG (ao 12) (aq aB) (λ_ _=>rfl)) aF))))
  (aC (dF (yj (uz (b7 (oM hu) (ao 12) (aq (mV (ak (aH 8) (ak (aH 7) (ak (aH 10) (ak (aH 11) aF)))))) (bH _)) (rY (mF (jf (W5 G_law_right hr aP (yl (Hj 13 [18,19,20]) (yl (uI (ao 8)) (yl (uI (ao 7)) (yl (uI (aq (mV (ak (aH 10) (ak (aH 11) aF))))) Vw))))))))))
  (aJ (bK jG))
  bO)
  (aC (bQ (i:=14) jU.nd rfl (Or.inl rfl) (Lp hr rfl B.repr Kh (Hj 13 [18,19,20])))
  (aC (bQ (i:=15) jU.nd rfl (Or.inl rfl) (Wo G_law_dot hr aP (aM (ao 10) (aM (X4 18 (aR bG (ao 13) (aq aB) (λ_ _=>rfl))) aY))))
  (aC (lJ (k:=1000) PassesOwn.leaving rfl (SJ (xK (ao 13) (xH (aq aB)) (xH (aq aB)))) (bC (i:=16) jU.nd rfl (Or.inl rfl))
  (aC (Ov (aH 16))
  (aJ (Nu (aH 16) rA))))
  (aC (bQ jU.nd rfl (Or.inl rfl) (bR Gsolve_next hr aP (ak (aH 8) (ak (aH 7) (ak (aH 10) (ak (aH 11) aF))))))
  (aC (dF (b7 (oM hu) (aq (Lp hr rfl B.repr Kh (uI (ao 13)))) (ao 14) (bH _))
  (aJ (bK jG))
  bO)
  (aC (bQ (i:=17) jU.nd rfl (Or.inl rfl) (bR Gsolve hr aP (ak (aH 8) (ak (aH 7) (ak (aH 10) aF)))))
  (aC (dF (b7 (oM hu) (aq (lC (iz hu) (aq (aR bG (ao 17) (aq aB) (λ_ _=>rfl))) (aq qG) (bH _))) (aq (lC (iz hu) (aq (aR bG (ao 13) (aq aB) (λ_ _=>rfl))) (aq qG) (bH _))) (bH _))
  (aJ (bK jG))
  bO)
  (aJ (bK (Zy (lC (iz hu) (aq (aR bG (ao 13) (aq aB) (λ_ _=>rfl))) (aq qG) (bH _)) (J5 (lC (iz hu) (aq (aR bG (aq (bR G_law_less hr aP (ak (bR G_law_dot hr aP (ak (aH 10) (ak (aR bG (ao 17) (aq aB) (λ_ _=>rfl)) aF))) (ak (aH 15) aF)))) (aq aB) (λ_ _=>rfl))) (aq aB) (bH _)))))))))))))))))))))))))))))
end K37
namespace F
open PySem L2 Hd
section
variable {A:Type}{p:List A->Prop}
theorem xb1 (h:∀a,p [a])(us:List A)(e:us.length=1):p us:=by
 cases us with
 |nil=>cases e
 |cons a t=>cases t with
  |nil=>exact h a
  |cons _ _=>cases e
theorem xb0 {n:Nat}(h:∀a t,t.length=n->p (a::t))(us:List A)(e:us.length=n+1):p us:=by
 cases us with
 |nil=>cases e
 |cons a t=>exact h a t (Nat.succ.inj e)
theorem xb2 (h:∀a b,p [a,b]):∀us:List A,us.length=2->p us:=xb0 λa=>xb1 (p:=λt=>p (a::t)) (h a)
theorem xb3 (h:∀a b c,p [a,b,c]):∀us:List A,us.length=3->p us:=xb0 λa=>xb2 (p:=λt=>p (a::t)) (h a)
theorem xb4 (h:∀a b c d,p [a,b,c,d]):∀us:List A,us.length=4->p us:=xb0 λa=>xb3 (p:=λt=>p (a::t)) (h a)
theorem xb5 (h:∀a b c d f,p [a,b,c,d,f]):∀us:List A,us.length=5->p us:=xb0 λa=>xb4 (p:=λt=>p (a::t)) (h a)
theorem xb6 (h:∀a b c d f g,p [a,b,c,d,f,g]):∀us:List A,us.length=6->p us:=xb0 λa=>xb5 (p:=λt=>p (a::t)) (h a)
end
structure QD (K:W.Frag)(x:Str)(st:Stmt):Prop where
 ex:∃f fd,Fun K x x st f fd/\W.nsIn K mainGlobals x=some (some (.ref f))
structure QM (K:W.Frag)(C:Addr)(x q:Str)(st:Stmt):Prop where
 ex:∃f fd,Fun K x q st f fd/\W.findIn K (.ref C) x=some (some (.ref f))/\W.isFn K (.ref f)=true
section
variable {P:Program}{w:World}{K:W.Frag}{mg:Str->Option Value}{base h:Heap}{x q c:Str}{st:Stmt}{ps:List Str}{C f:Addr}{oc:Value}{od an:Option Addr}{osl:Array (Option Value)}{kV doc pm cdv ct:Value}{k:Nat}{sp:Sp}
theorem qd (a:W.nsIn K mainGlobals x=some (some (.ref f)))(l:K.lookup f=some ⟨oc,od,.func (W.fnOf x x (nH st) (jc st) (aG st) .none kV doc pm an cdv ct),osl⟩)(c:W.codeIn K cdv x=true)(k:W.keepIn K (.ref f)=true):QD K x st:=⟨f,_,O3 l c k,a⟩
theorem qm (a:W.findIn K (.ref C) x=some (some (.ref f)))(i:W.isFn K (.ref f)=true)(l:K.lookup f=some ⟨oc,od,.func (W.fnOf x q (nH st) (jc st) (aG st) .none kV doc pm an cdv ct),osl⟩)(c:W.codeIn K cdv q=true)(k:W.keepIn K (.ref f)=true):QM K C x q st:=⟨f,_,O3 l c k,a,i⟩
theorem QD.df (Q:QD K x st)(X:K.In h)(G:h.Ns mainGlobals mg)(hb:∀(kV doc pm:Value) (an:Option Addr) (cdv ct:Value) (us:List Value),us.length=ps.length->bindArgs (W.fnOf x x (nH st) (jc st) (aG st) .none kV doc pm an cdv ct) ⟨us,[]⟩=pure (ps.zip us)):Df K mg x st ps:=by
 obtain ⟨f,fd,F,a⟩:=Q.ex
 exact ⟨f,fd,F,F.binds hb,W.mg_of X G a⟩
theorem QM.mt (Q:QM K C x q st)(M:mg c=some (.ref C))(L:Cls K C)(ok:∀f fd,Fun K x q st f fd->dm P w K mg base (CX1 P w) k f fd ps sp)
  (hb:∀(kV doc pm:Value) (an:Option Addr) (cdv ct:Value) (us:List Value),us.length=ps.length->bindArgs (W.fnOf x q (nH st) (jc st) (aG st) .none kV doc pm an cdv ct) ⟨us,[]⟩=pure (ps.zip us)):FMt P w K mg base k c x ps sp:=by
 obtain ⟨f,fd,F,a,i⟩:=Q.ex
 exact ⟨C,f,fd,M,L,⟨a,i,F.kp⟩,ok f fd F,F.binds hb⟩
theorem QM.mkT (Q:QM K C "__init__" q st)(M:mg c=some (.ref C))(m:W.makesIn K C=true)(kc:W.keepIn K (.ref C)=true)(ok:∀f fd,Fun K "__init__" q st f fd->dm P w K mg base (CX1 P w) k f fd ps sp)
  (hb:∀(kV doc pm:Value) (an:Option Addr) (cdv ct:Value) (us:List Value),us.length=ps.length->bindArgs (W.fnOf "__init__" q (nH st) (jc st) (aG st) .none kV doc pm an cdv ct) ⟨us,[]⟩=pure (ps.zip us)):MkT P w K mg base k c ps sp:=by
 obtain ⟨f,fd,F,a,i⟩:=Q.ex
 exact ⟨C,f,fd,M,⟨m,a,i,kc⟩,ok f fd F,F.binds hb⟩
end
end F
namespace K37
open PySem L2 Hd F
theorem all_mk {l:W.OpenLaw}{w:World}{K:W.Frag}{h:Heap}{mg:Str->Option Value}{fa:Addr}(X:K.In h)(G:h.Ns mainGlobals mg)(hfa:mg "law" = some (.ref fa))
  (q0:QD K "common_divisor" mW)
  (q1:QD K "lowest" Ar)
  (q2:QD K "plus" Jr)
  (q3:QD K "times" Gq)
  (q4:QD K "under" DX)
  (q5:QD K "scale_of" wW)
  (q6:QD K "made_whole" pP)
  (q7:QD K "refuse_great_seeking" iB)
  (q8:QD K "solve" El)
  (q9:QD K "solve_next" pK)
  (q10:QD K "_law_cell_at" qt)
  (q11:QD K "_law_divisor" qw)
  (q12:QD K "_law_lowest" rz)
  (q13:QD K "_law_number" rH)
  (q14:QD K "_law_bound" sV)
  (q15:QD K "_law_list" uJ)
  (q16:QD K "_law_dot" wI)
  (q17:QD K "_law_less" vf)
  (q18:QD K "_law_times" tH)
  (q19:QD K "_law_fits" vB)
  (q20:QD K "_law_is_way" rD)
  (q21:QD K "_law_is_best" lL)
  (q22:QD K "_law_is_next" lQ)
  (q23:QD K "_law_right" ue)
  (q24:QD K "_law_wish" qX)
  (q25:QD K "law" v9)
  {CCorner:Addr} (oCorner:W.nsIn K mainGlobals "Corner" = some (some (.ref CCorner)))
  (pgCorner:W.plainGet K CCorner Str.empty=true)
  (hdCorner:W.hasDictIn K CCorner=true)
  (poCorner:W.plainOver K CCorner=true)
  (saCorner:W.findIn K (.ref CCorner) "__setattr__" = some (some (.builtin "object.__setattr__")))
  (mkCorner:W.makesIn K CCorner=true)
  (kcCorner:W.keepIn K (.ref CCorner)=true)
  (nfCornerbottom:W.findIn K (.ref CCorner) "bottom" = some none)
  (nfCornerheld_columns:W.findIn K (.ref CCorner) "held_columns" = some none)
  (nfCornerlines:W.findIn K (.ref CCorner) "lines" = some none)
  (nfCornerscales:W.findIn K (.ref CCorner) "scales" = some none)
  (nfCornerwide:W.findIn K (.ref CCorner) "wide" = some none)
  (nfCornerwish_lines:W.findIn K (.ref CCorner) "wish_lines" = some none)
  (nfCornerwish_scales:W.findIn K (.ref CCorner) "wish_scales" = some none)
  (m0:QM K CCorner "__init__" "Corner.__init__" dg)
  (m1:QM K CCorner "first_line" "Corner.first_line" gM)
  (m2:QM K CCorner "first_wish_line" "Corner.first_wish_line" dq)
  (m3:QM K CCorner "helping_column" "Corner.helping_column" fD)
  (m4:QM K CCorner "ending_line" "Corner.ending_line" jn)
  (m5:QM K CCorner "ends_ahead" "Corner.ends_ahead" jM)
  (m6:QM K CCorner "turn_about" "Corner.turn_about" fJ)
  (m7:QM K CCorner "cleared" "Corner.cleared" jD)
  (m8:QM K CCorner "climb" "Corner.climb" qp)
  (m9:QM K CCorner "fit" "Corner.fit" pH)
  (m10:QM K CCorner "way_along" "Corner.way_along" iw)
  (m11:QM K CCorner "amounts" "Corner.amounts" jy)
  (m12:QM K CCorner "prices" "Corner.prices" j0)
  (m13:QM K CCorner "lift" "Corner.lift" rQ)
  (zValueError:W.nsIn K mainGlobals "ValueError" = some none)
  (zabs:W.nsIn K mainGlobals "abs" = some none)
  (zall:W.nsIn K mainGlobals "all" = some none)
  (zbool:W.nsIn K mainGlobals "bool" = some none)
  (zenumerate:W.nsIn K mainGlobals "enumerate" = some none)
  (zint:W.nsIn K mainGlobals "int" = some none)
  (zisinstance:W.nsIn K mainGlobals "isinstance" = some none)
  (zlen:W.nsIn K mainGlobals "len" = some none)
  (zlist:W.nsIn K mainGlobals "list" = some none)
  (zrange:W.nsIn K mainGlobals "range" = some none)
  (zrepr:W.nsIn K mainGlobals "repr" = some none)
  (ztuple:W.nsIn K mainGlobals "tuple" = some none)
  (zzip:W.nsIn K mainGlobals "zip" = some none)
  {CNOUGHT:Addr} (nNOUGHT:W.nsIn K mainGlobals "NOUGHT" = some (some (.ref CNOUGHT)))
  {odNOUGHT:Option Addr} {nnNOUGHT:Nat} {slNOUGHT:Array (Option Value)} {tNOUGHT0 tNOUGHT1:Tok} (vNOUGHT:K.lookup CNOUGHT=some ⟨.type "tuple",odNOUGHT,.seq #[.int 0 tNOUGHT0,.int 1 tNOUGHT1] nnNOUGHT,slNOUGHT⟩)
  {CONE:Addr} (nONE:W.nsIn K mainGlobals "ONE" = some (some (.ref CONE)))
  {odONE:Option Addr} {nnONE:Nat} {slONE:Array (Option Value)} {tONE0 tONE1:Tok} (vONE:K.lookup CONE=some ⟨.type "tuple",odONE,.seq #[.int 1 tONE0,.int 1 tONE1] nnONE,slONE⟩)
  {tMOST_ROWS:Tok} (nMOST_ROWS:W.nsIn K mainGlobals "MOST_ROWS" = some (some (.int 8 tMOST_ROWS)))
  {tMOST_WISHED:Tok} (nMOST_WISHED:W.nsIn K mainGlobals "MOST_WISHED" = some (some (.int 8 tMOST_WISHED)))
  : ∃fd:FuncData,(∀(s:Shared) (v:Value),BindsTo s fd ⟨[v],[]⟩ [("_law_script",v)])/\∀base:Heap,K.In base->base.Ns mainGlobals mg->dm l.prog w K mg base (CX1 l.prog w) 6 fa fd ["_law_script"] (KN K):=by
 obtain ⟨f,fd,F0,a⟩:=q25.ex
 have e:=hfa.symm.trans (W.mg_of X G a)
 cases e
 have D0:=q0.df (ps:=["first", "second"]) X G (λ_ _ _ _ _ _=>xb2 λ_ _=>rfl)
 have D1:=q1.df (ps:=["top", "bottom"]) X G (λ_ _ _ _ _ _=>xb2 λ_ _=>rfl)
 have D2:=q2.df (ps:=["first", "second"]) X G (λ_ _ _ _ _ _=>xb2 λ_ _=>rfl)
 have D3:=q3.df (ps:=["first", "second"]) X G (λ_ _ _ _ _ _=>xb2 λ_ _=>rfl)
 have D4:=q4.df (ps:=["first", "second"]) X G (λ_ _ _ _ _ _=>xb2 λ_ _=>rfl)
 have D5:=q5.df (ps:=["fractions"]) X G (λ_ _ _ _ _ _=>xb1 λ_=>rfl)
 have D6:=q6.df (ps:=["fractions", "scale"]) X G (λ_ _ _ _ _ _=>xb2 λ_ _=>rfl)
 have D7:=q7.df (ps:=["rows", "wish"]) X G (λ_ _ _ _ _ _=>xb2 λ_ _=>rfl)
 have D8:=q8.df (ps:=["rows", "bounds", "wish"]) X G (λ_ _ _ _ _ _=>xb3 λ_ _ _=>rfl)
 have D9:=q9.df (ps:=["rows", "bounds", "wish", "second"]) X G (λ_ _ _ _ _ _=>xb4 λ_ _ _ _=>rfl)
 have D10:=q10.df (ps:=["_law_script", "_law_k"]) X G (λ_ _ _ _ _ _=>xb2 λ_ _=>rfl)
 have D11:=q11.df (ps:=["_law_one", "_law_other"]) X G (λ_ _ _ _ _ _=>xb2 λ_ _=>rfl)
 have D12:=q12.df (ps:=["_law_top", "_law_bottom"]) X G (λ_ _ _ _ _ _=>xb2 λ_ _=>rfl)
 have D13:=q13.df (ps:=["_law_cell", "_law_sort"]) X G (λ_ _ _ _ _ _=>xb2 λ_ _=>rfl)
 have D14:=q14.df (ps:=["_law_cell", "_law_sort", "_law_zeros"]) X G (λ_ _ _ _ _ _=>xb3 λ_ _ _=>rfl)
 have D15:=q15.df (ps:=["_law_found", "_law_many"]) X G (λ_ _ _ _ _ _=>xb2 λ_ _=>rfl)
 have D16:=q16.df (ps:=["_law_some", "_law_more"]) X G (λ_ _ _ _ _ _=>xb2 λ_ _=>rfl)
 have D17:=q17.df (ps:=["_law_one", "_law_other"]) X G (λ_ _ _ _ _ _=>xb2 λ_ _=>rfl)
 have D18:=q18.df (ps:=["_law_one", "_law_other"]) X G (λ_ _ _ _ _ _=>xb2 λ_ _=>rfl)
 have D19:=q19.df (ps:=["_law_rows", "_law_bounds", "_law_fit"]) X G (λ_ _ _ _ _ _=>xb3 λ_ _ _=>rfl)
 have D20:=q20.df (ps:=["_law_rows", "_law_wish_here", "_law_way"]) X G (λ_ _ _ _ _ _=>xb3 λ_ _ _=>rfl)
 have D21:=q21.df (ps:=["_law_rows", "_law_bounds", "_law_wish_here", "_law_fit", "_law_prices"]) X G (λ_ _ _ _ _ _=>xb5 λ_ _ _ _ _=>rfl)
 have D22:=q22.df (ps:=["_law_rows", "_law_bounds", "_law_wishes", "_law_fit", "_law_others", "_law_lift"]) X G (λ_ _ _ _ _ _=>xb6 λ_ _ _ _ _ _=>rfl)
 have D23:=q23.df (ps:=["_law_found", "_law_rows", "_law_bounds", "_law_wishes"]) X G (λ_ _ _ _ _ _=>xb4 λ_ _ _ _=>rfl)
 have D24:=q24.df (ps:=["_law_script", "_law_at", "_law_wide", "_law_sort", "_law_rows"]) X G (λ_ _ _ _ _ _=>xb5 λ_ _ _ _ _=>rfl)
 have B:Bt mg:=⟨W.mg_none_of X G zValueError,W.mg_none_of X G zabs,W.mg_none_of X G zall,W.mg_none_of X G zbool,W.mg_none_of X G zenumerate,W.mg_none_of X G zint,W.mg_none_of X G zisinstance,W.mg_none_of X G zlen,W.mg_none_of X G zlist,W.mg_none_of X G zrange,W.mg_none_of X G zrepr,W.mg_none_of X G ztuple,W.mg_none_of X G zzip⟩
 have Cn:CnT K mg:=⟨⟨.ref CNOUGHT,_,W.mg_of X G nNOUGHT,rfl,λ_ _=>.tup (xs:=[.int 0,.int 1]) (.inr ⟨_,_,_,vNOUGHT,rfl,rfl,(show 2<=sizeLine by decide),(.cons ⟨tNOUGHT0,rfl⟩ (.cons ⟨tNOUGHT1,rfl⟩ .nil))⟩) (.cons (.int 0) (.cons (.int 1) .nil))⟩,⟨.ref CONE,_,W.mg_of X G nONE,rfl,λ_ _=>.tup (xs:=[.int 1,.int 1]) (.inr ⟨_,_,_,vONE,rfl,rfl,(show 2<=sizeLine by decide),(.cons ⟨tONE0,rfl⟩ (.cons ⟨tONE1,rfl⟩ .nil))⟩) (.cons (.int 1) (.cons (.int 1) .nil))⟩,⟨.int 8,_,W.mg_of X G nMOST_ROWS,⟨tMOST_ROWS,rfl⟩,λ_ _=>.int 8⟩,⟨.int 8,_,W.mg_of X G nMOST_WISHED,⟨tMOST_WISHED,rfl⟩,λ_ _=>.int 8⟩⟩
 have ClCorner:Cls K CCorner:=⟨pgCorner,hdCorner,poCorner,saCorner⟩
 have MgCorner:=W.mg_of X G oCorner
 have Ck:t6 K mg "Corner" ["bottom", "held_columns", "lines", "scales", "wide", "wish_lines", "wish_scales"]:=⟨CCorner,MgCorner,ClCorner,λf hf=>by
  simp only [List.mem_cons,List.not_mem_nil,or_false] at hf
  rcases hf with rfl | rfl | rfl | rfl | rfl | rfl | rfl
  ·exact nfCornerbottom
  ·exact nfCornerheld_columns
  ·exact nfCornerlines
  ·exact nfCornerscales
  ·exact nfCornerwide
  ·exact nfCornerwish_lines
  ·exact nfCornerwish_scales⟩
 obtain ⟨oc,od,kV,doc,pm,an,cdv,ct,osl,rfl,lk,hcd⟩:=F0.ex
 refine ⟨W.fnOf "law" "law" (nH v9) (jc v9) (aG v9) .none kV doc pm an cdv ct,λs v=>.of_eq rfl,λbase kb nb=>?_⟩
 have Gcommon_divisor:=D0.fn (P:=l.prog) (w:=w) (base:=base) λf fd F=>xP B F
 have Glowest:=D1.fn (P:=l.prog) (w:=w) (base:=base) λf fd F=>Nv B F Gcommon_divisor
 have Gplus:=D2.fn (P:=l.prog) (w:=w) (base:=base) λf fd F=>Vx B F Glowest
 have Gtimes:=D3.fn (P:=l.prog) (w:=w) (base:=base) λf fd F=>PB B F Glowest
 have Gunder:=D4.fn (P:=l.prog) (w:=w) (base:=base) λf fd F=>Qh B F
 have Gscale_of:=D5.fn (P:=l.prog) (w:=w) (base:=base) λf fd F=>Ib B F Gcommon_divisor
 have Gmade_whole:=D6.fn (P:=l.prog) (w:=w) (base:=base) λf fd F=>Dc B F
 have Grefuse_great_seeking:=D7.fn (P:=l.prog) (w:=w) (base:=base) λf fd F=>su B Cn F
 have GCorner_first_line:=m1.mt (P:=l.prog) (w:=w) (base:=base) MgCorner ClCorner (λ_ _ F=>vh B Ck F Gmade_whole) (λ_ _ _ _ _ _=>xb4 λ_ _ _ _=>rfl)
 have GCorner_first_wish_line:=m2.mt (P:=l.prog) (w:=w) (base:=base) MgCorner ClCorner (λ_ _ F=>qM B Ck F Gmade_whole) (λ_ _ _ _ _ _=>xb3 λ_ _ _=>rfl)
 have GCorner___init__:=m0.mkT (P:=l.prog) (w:=w) (base:=base) MgCorner mkCorner kcCorner (λ_ _ F=>wO B Ck F Gscale_of GCorner_first_line GCorner_first_wish_line) (λ_ _ _ _ _ _=>xb4 λ_ _ _ _=>rfl)
 have GCorner_helping_column:=m3.mt (P:=l.prog) (w:=w) (base:=base) MgCorner ClCorner (λ_ _ F=>rB B Ck F ) (λ_ _ _ _ _ _=>xb2 λ_ _=>rfl)
 have GCorner_ends_ahead:=m5.mt (P:=l.prog) (w:=w) (base:=base) MgCorner ClCorner (λ_ _ F=>uK B Ck F ) (λ_ _ _ _ _ _=>xb4 λ_ _ _ _=>rfl)
 have GCorner_ending_line:=m4.mt (P:=l.prog) (w:=w) (base:=base) MgCorner ClCorner (λ_ _ F=>uB B Ck F GCorner_ends_ahead) (λ_ _ _ _ _ _=>xb2 λ_ _=>rfl)
 have GCorner_cleared:=m7.mt (P:=l.prog) (w:=w) (base:=base) MgCorner ClCorner (λ_ _ F=>xF B Ck F ) (λ_ _ _ _ _ _=>xb4 λ_ _ _ _=>rfl)
 have GCorner_turn_about:=m6.mt (P:=l.prog) (w:=w) (base:=base) MgCorner ClCorner (λ_ _ F=>uF B Ck F GCorner_cleared) (λ_ _ _ _ _ _=>xb3 λ_ _ _=>rfl)
 have GCorner_climb:=m8.mt (P:=l.prog) (w:=w) (base:=base) MgCorner ClCorner (λ_ _ F=>zA B Ck F GCorner_helping_column GCorner_ending_line GCorner_turn_about) (λ_ _ _ _ _ _=>xb2 λ_ _=>rfl)
 have GCorner_amounts:=m11.mt (P:=l.prog) (w:=w) (base:=base) MgCorner ClCorner (λ_ _ F=>xm B Cn Ck F Glowest) (λ_ _ _ _ _ _=>xb2 λ_ _=>rfl)
 have GCorner_fit:=m9.mt (P:=l.prog) (w:=w) (base:=base) MgCorner ClCorner (λ_ _ F=>Cz B Ck F GCorner_amounts) (λ_ _ _ _ _ _=>xb1 λ_=>rfl)
 have GCorner_way_along:=m10.mt (P:=l.prog) (w:=w) (base:=base) MgCorner ClCorner (λ_ _ F=>vV B Cn Ck F GCorner_amounts) (λ_ _ _ _ _ _=>xb2 λ_ _=>rfl)
 have GCorner_prices:=m12.mt (P:=l.prog) (w:=w) (base:=base) MgCorner ClCorner (λ_ _ F=>yF B Ck F Glowest) (λ_ _ _ _ _ _=>xb2 λ_ _=>rfl)
 have Gsolve:=D8.fn (P:=l.prog) (w:=w) (base:=base) λf fd F=>PL B F Grefuse_great_seeking GCorner___init__ GCorner_climb GCorner_fit GCorner_way_along GCorner_prices
 have GCorner_lift:=m13.mt (P:=l.prog) (w:=w) (base:=base) MgCorner ClCorner (λ_ _ F=>By B Cn Ck F Glowest Gunder) (λ_ _ _ _ _ _=>xb1 λ_=>rfl)
 have Gsolve_next:=D9.fn (P:=l.prog) (w:=w) (base:=base) λf fd F=>CG B F Gplus Gtimes Grefuse_great_seeking GCorner___init__ GCorner_climb GCorner_fit GCorner_way_along GCorner_prices GCorner_lift
 have G_law_cell_at:=D10.fn (P:=l.prog) (w:=w) (base:=base) λf fd F=>zu B F
 have G_law_divisor:=D11.fn (P:=l.prog) (w:=w) (base:=base) λf fd F=>zB B F
 have G_law_lowest:=D12.fn (P:=l.prog) (w:=w) (base:=base) λf fd F=>Cj B F G_law_divisor
 have G_law_number:=D13.fn (P:=l.prog) (w:=w) (base:=base) λf fd F=>Bb B F G_law_lowest
 have G_law_bound:=D14.fn (P:=l.prog) (w:=w) (base:=base) λf fd F=>Cy B F G_law_number
 have G_law_list:=D15.fn (P:=l.prog) (w:=w) (base:=base) λf fd F=>Fg B F G_law_divisor
 have G_law_dot:=D16.fn (P:=l.prog) (w:=w) (base:=base) λf fd F=>Ho B F
 have G_law_less:=D17.fn (P:=l.prog) (w:=w) (base:=base) λf fd F=>Ex B F
 have G_law_times:=D18.fn (P:=l.prog) (w:=w) (base:=base) λf fd F=>CJ B F
 have G_law_fits:=D19.fn (P:=l.prog) (w:=w) (base:=base) λf fd F=>Ft B F G_law_dot G_law_less
 have G_law_is_way:=D20.fn (P:=l.prog) (w:=w) (base:=base) λf fd F=>Cp B F G_law_list G_law_dot
 have G_law_is_best:=D21.fn (P:=l.prog) (w:=w) (base:=base) λf fd F=>zq B F G_law_list G_law_dot G_law_less
 have G_law_is_next:=D22.fn (P:=l.prog) (w:=w) (base:=base) λf fd F=>zr B F G_law_list G_law_dot G_law_less G_law_times
 have G_law_right:=D23.fn (P:=l.prog) (w:=w) (base:=base) λf fd F=>CT B F G_law_list G_law_dot G_law_fits G_law_is_way G_law_is_best G_law_is_next
 have G_law_wish:=D24.fn (P:=l.prog) (w:=w) (base:=base) λf fd F=>Fp B F G_law_cell_at G_law_number
 exact T6 PX (Wf B F0 Gsolve Gsolve_next G_law_cell_at G_law_number G_law_bound G_law_dot G_law_less G_law_right G_law_wish)
theorem walk {l:W.OpenLaw}{q:Program}{loose:List Str}{XP:(Str->Option Value)->Heap->Prop}{YP:World->Heap->Prop}{d:DefRec}{K:Params->W.Frag}(hn:l.most=some 63)(hdf:d.params.defaults=[])
  (hY:∀(w:World) (h:Heap),YP w h->(K w.params).In h)
  (F:∀(w:World) (mg:Str->Option Value) (fa:Addr) (h:Heap),(K w.params).In h->h.Ns mainGlobals mg->mg d.name=some (.ref fa)->
   ∃fd:FuncData,(∀(s:Shared) (u:Value),BindsTo s fd ⟨[u],[]⟩ [("_law_script",u)])/\∀base:Heap,(K w.params).In base->base.Ns mainGlobals mg->dm l.prog w (K w.params) mg base (CX1 l.prog w) 6 fa fd ["_law_script"] (KN (K w.params))):
  W.WalkO q loose XP YP l.row.toRowW d [] (λf vs=>PySem.call f vs):=
 L2.Tw (n:=63) (k:=6) (x:="_law_script") (CX:=λw=>CX1 l.prog w) (sp:=λw=>KN (K w.params)) hn (by decide) hdf ⟨rfl,by decide,by decide,rfl⟩ hY F (λ_ _ a ns hl _ hS=>⟨a,ns,rfl,hS,hl,λ_=>rfl⟩) λ_ _ _ _ _ ⟨_,_,_,_,_,_,z⟩=>z.elim
end K37
namespace PySem.W.Fast
theorem tw5642332320590268188:True:=⟨⟩
theorem tw7427310233522311170:True:=⟨⟩
theorem tw17639721338922781793:True:=⟨⟩
theorem tw9049506013207862081:True:=⟨⟩
theorem tw2400536727080964024:True:=⟨⟩
theorem tw14797362100512051057:True:=⟨⟩
theorem tw11128143067378166748:True:=⟨⟩
theorem tw10852326398584624476:True:=⟨⟩
theorem tw17990549677472550816:True:=⟨⟩
theorem tw9684003893787359182:True:=⟨⟩
theorem tw430552933584327223:True:=⟨⟩
theorem tw10608821364716734065:True:=⟨⟩
theorem tw11113467005703880910:True:=⟨⟩
theorem tw10343840915109798695:True:=⟨⟩
theorem tw7257574383393532257:True:=⟨⟩
theorem tw1140488449630861253:True:=⟨⟩
theorem tw10919943000739840464:True:=⟨⟩
theorem tw10335044596183786027:True:=⟨⟩
theorem tw13183562366540373576:True:=⟨⟩
theorem tw6779202403823124978:True:=⟨⟩
theorem tw913612108406152139:True:=⟨⟩
theorem tw11531187395496595151:True:=⟨⟩
theorem tw3441822189897682966:True:=⟨⟩
theorem tw3371928611523010713:True:=⟨⟩
theorem tw8683245348120935385:True:=⟨⟩
theorem tw12790079125620948876:True:=⟨⟩
theorem tw10167244574384212788:True:=⟨⟩
theorem tw7511732910601890247:True:=⟨⟩
theorem tw9103834149822405091:True:=⟨⟩
theorem tw13412405073646339491:True:=⟨⟩
theorem tw15214613451801824089:True:=⟨⟩
theorem tw939152775971185873:True:=⟨⟩
theorem tw15655664948829336984:True:=⟨⟩
theorem tw12738329922947355949:True:=⟨⟩
theorem tw12066598513323344834:True:=⟨⟩
theorem tw16354283538854632718:True:=⟨⟩
theorem tw13594864423500206412:True:=⟨⟩
theorem tw1977790792387142512:True:=⟨⟩
theorem tw9051132682816905682:True:=⟨⟩
theorem tw11379326768509676669:True:=⟨⟩
theorem tw18117391335938673590:True:=⟨⟩
theorem tw12528244378684020727:True:=⟨⟩
theorem tw13209878251607651840:True:=⟨⟩
theorem tw1177562225905584977:True:=⟨⟩
theorem tw3958235979926352872:True:=⟨⟩
theorem tw11203654263854563598:True:=⟨⟩
theorem tw8815871942574323462:True:=⟨⟩
theorem tw11227605174213759313:True:=⟨⟩
theorem tw16729804010085554465:True:=⟨⟩
theorem tw7943506721659124351:True:=⟨⟩
theorem tw17053137464587168295:True:=⟨⟩
theorem tw11668653965740524352:True:=⟨⟩
theorem tw18365642287677211799:True:=⟨⟩
theorem tw13202168680256196145:True:=⟨⟩
theorem tw17709973992699606153:True:=⟨⟩
theorem tw13507913140891556776:True:=⟨⟩
theorem tw2242008400063911502:True:=⟨⟩
theorem tw13639851776241138196:True:=⟨⟩
theorem tw1077830196506920004:True:=⟨⟩
theorem tw13400936858173780726:True:=⟨⟩
theorem tw11614853086818004560:True:=⟨⟩
theorem tw3958336476578611458:True:=⟨⟩
theorem tw16617808824116887314:True:=⟨⟩
theorem tw12491210504698928231:True:=⟨⟩
theorem tw6169727573013996470:True:=⟨⟩
theorem tw12363183638617748060:True:=⟨⟩
theorem tw3004668680667742479:True:=⟨⟩
theorem tw18092647151784761999:True:=⟨⟩
theorem tw16145672321047716075:True:=⟨⟩
theorem tw74584746746247588:True:=⟨⟩
end PySem.W.Fast
open PySem PySem.W PyProof.Rows
set_option maxRecDepth 100000 in
set_option maxHeartbeats 0 in
theorem PySem.Challenge.cw_hushduel_k37_whole_second_wishes_holds : PySem.Challenge.rw_hushduel_k37_whole_second_wishes.Holds := by
 w_on;o_law;k_head;(case hw=>w_witness2)
 k_fill
 refine K37.walk (l:=PySem.Challenge.rw_hushduel_k37_whole_second_wishes) rfl rfl (λw h Y=>PySem.W.kIn_of Y) ?F
 case F=>
  intro w mg fa h KX G hmg
  refine' K37.all_mk KX G hmg ?_ ?_ ?_ ?_ ?_ ?_ ?_ ?_ ?_ ?_ ?_ ?_ ?_ ?_ ?_ ?_ ?_ ?_ ?_ ?_ ?_ ?_ ?_ ?_ ?_ ?_ ?_ ?_ ?_ ?_ ?_ ?_ ?_ ?_ ?_ ?_ ?_ ?_ ?_ ?_ ?_ ?_ ?_ ?_ ?_ ?_ ?_ ?_ ?_ ?_ ?_ ?_ ?_ ?_ ?_ ?_ ?_ ?_ ?_ ?_ ?_ ?_ ?_ ?_ ?_ ?_ ?_ ?_ ?_ ?_ ?_ ?_ ?_
  all_goals try first | (refine' F.qd ?a ?l ?c ?k;(case a=>k_is);(case l=>k_is);(case c=>k_is);(case k=>k_is)) | (refine' F.qm ?a ?i ?l ?c ?k;(case a=>k_is);(case i=>k_is);(case l=>k_is);(case c=>k_is);(case k=>k_is)) | k_is
