import PyProof.Rows.All
import Wide.All
import OpenK.AllK
import Wide.FinOn
import Lean
import PyProof.EqAt
import PyProof.EqKinds
import PyProof.TupleCall
import PyProof.TupleKey
import KE.KRevSl
import PyProof.P3Eq
import KE.LcSums
import PyProof.EnumMake
import PyProof.StrWalks
import PyProof.Conv_int_bool
import KE.KIntText
import PyProof.Rows.StrNews2
import PyProof.StrBlock2
import PyProof.Rows.StrNews
import PyProof.StrLawsRepr
import PyProof.ReprStr
import PyProof.ReprRoads
import PyProof.DictIter
import PyProof.Rows.SetFrom
import KE.KDictList
import KE.KDictOf
import PyProof.AttrMissHeap
import KE.KEqDict
import PyProof.DictItems
import KE.KPairComp
import PyProof.Rows.Range3
import PyProof.ZipIter
import PyProof.Rows.ZipGen
import PyProof.TupleIter
import PyProof.Draws
import PyProof.ListRange
import KE.IntTextText
import PyProof.StrLawsFirst
import PyProof.ReprBulk
import PySem.Challenge.RW_hushduel_k56_too_much_seen
set_option genSizeOf false
noncomputable section
abbrev Za:=PySem.Addr->Prop
abbrev Zs:=PySem.Str->Option PySem.Value
abbrev Zo:=List (PySem.Addr×PySem.Obj)
abbrev Zv:=PySem.Value->PySem.Shared->Prop
theorem xq5 {A B C D E:Sort _}{R Q:A->B->C->D->E->Prop}{P:Prop}(h:∃a b c d e,R a b c d e/\Q a b c d e)(k:∀a b c d e,R a b c d e->Q a b c d e->P):P:=by
 obtain ⟨a,b,c,d,e,r,q⟩:=h;exact k a b c d e r q
theorem xq7 {A B C D E F G:Sort _}{R Q S T:A->B->C->D->E->F->G->Prop}{P:Prop}(h:∃a b c d e f g,R a b c d e f g/\Q a b c d e f g/\S a b c d e f g/\T a b c d e f g)(k:∀a b c d e f g,R a b c d e f g->Q a b c d e f g->S a b c d e f g->T a b c d e f g->P):P:=by
 obtain ⟨a,b,c,d,e,f,g,r,q,s,t⟩:=h;exact k a b c d e f g r q s t
theorem xq2 {A B:Sort _}{R Q S:A->B->Prop}{P:Prop}(h:∃a b,R a b/\Q a b/\S a b)(k:∀a b,R a b->Q a b->S a b->P):P:=by
 obtain ⟨a,b,r,q,s⟩:=h;exact k a b r q s
theorem xl1 {A:Type _}{us:List A}(h:us.length=1):∃a,us=[a]:=by
 cases us with
 |nil=>cases h
 |cons a t=>cases t with
  |nil=>exact ⟨a,rfl⟩
  |cons _ _=>cases h
theorem xl0 {A:Type _}{us:List A}{n:Nat}(h:us.length=n+1):∃a t,us=a::t/\t.length=n:=by
 cases us with
 |nil=>cases h
 |cons a t=>exact ⟨a,t,rfl,Nat.succ.inj h⟩
theorem xl2 {A:Type _}{us:List A}(h:us.length=2):∃a b,us=[a,b]:=by
 obtain ⟨a,t,rfl,h'⟩:=xl0 (n:=1) h;obtain ⟨b,rfl⟩:=xl1 h';exact ⟨a,b,rfl⟩
theorem xl3 {A:Type _}{us:List A}(h:us.length=3):∃a b c,us=[a,b,c]:=by
 obtain ⟨a,t,rfl,h'⟩:=xl0 (n:=2) h;obtain ⟨b,c,rfl⟩:=xl2 h';exact ⟨a,b,c,rfl⟩
theorem xl4 {A:Type _}{us:List A}(h:us.length=4):∃a b c d,us=[a,b,c,d]:=by
 obtain ⟨a,t,rfl,h'⟩:=xl0 (n:=3) h;obtain ⟨b,c,d,rfl⟩:=xl3 h';exact ⟨a,b,c,d,rfl⟩
set_option Elab.async false
set_option linter.all false
set_option maxRecDepth 100000
namespace L2
open PySem PySem.Spec PyProof.Rows
abbrev Key:=Sum Int Str
def qK:Key->Value->Bool
 | .inl k,v=>Value.isInt k v
 | .inr x,v=>Value.isStrOf x v
def Tr (w:World):Key->Int
 | .inl k=>hashInt k
 | .inr x=>hashStr w x
theorem bA:∀{k:Key} {v:Value},qK k v=true->(∃i t,k=Sum.inl i/\v=Value.int i t)\/(∃x t,k=Sum.inr x/\v=Value.str x t)
 | .inl i,v,h=>by
  obtain ⟨t,e⟩:=Value.isInt_shape (k:=i) (v:=v) h;exact .inl ⟨i,t,rfl,e⟩
 | .inr x,v,h=>by
  obtain ⟨t,e⟩:=Value.isStrOf_shape (x:=x) (v:=v) h;exact .inr ⟨x,t,rfl,e⟩
theorem Fx (i:Int)(t:Tok):qK (.inl i) (.int i t)=true:=by simp [qK,Value.isInt]
theorem Ei (x:Str)(t:Tok):qK (.inr x) (.str x t)=true:=by simp [qK,Value.isStrOf]
theorem O7 (a b:Int):decide ((Sum.inl a:Key)=Sum.inl b)=(a == b):=by
 by_cases e:a=b
 ·subst e;simp
 ·have h:¬(Sum.inl a:Key)=Sum.inl b:=λq=>e (Sum.inl.inj q);rw [decide_eq_false h];exact (beq_eq_false_iff_ne.mpr e).symm
theorem Q4 (a b:Str):decide ((Sum.inr a:Key)=Sum.inr b)=decide (a=b):=by
 by_cases e:a=b
 ·subst e;simp
 ·have h:¬(Sum.inr a:Key)=Sum.inr b:=λq=>e (Sum.inr.inj q);rw [decide_eq_false h,decide_eq_false e]
theorem RJ (a:Int)(b:Str):decide ((Sum.inl a:Key)=Sum.inr b)=false:=decide_eq_false (λq=>nomatch q)
theorem PQ (a:Str)(b:Int):decide ((Sum.inr a:Key)=Sum.inl b)=false:=decide_eq_false (λq=>nomatch q)
def gC (prog:Program)(w:World):PySem.KeyKind prog w Key where
 is:=qK
 hash:=Tr w
 inj:=λv a b ha hb=>by
  rcases bA ha with ⟨i,t,rfl,rfl⟩ | ⟨x,t,rfl,rfl⟩
  ·rcases bA hb with ⟨j,u,rfl,e⟩ | ⟨y,u,rfl,e⟩
   ·injection e with e1 _;rw [e1]
   ·exact nomatch e
  ·rcases bA hb with ⟨j,u,rfl,e⟩ | ⟨y,u,rfl,e⟩
   ·exact nomatch e
   ·injection e with e1 _;rw [e1]
 byValue:=λk v h=>by
  rcases bA h with ⟨i,t,rfl,rfl⟩ | ⟨x,t,rfl,rfl⟩<;>rfl
 pyHash:=λhv h=>by
  rcases bA hv with ⟨i,t,rfl,rfl⟩ | ⟨x,t,rfl,rfl⟩
  ·exact wpAny_pyHash_int h
  ·exact wpAny_pyHash_str h
 eqBool:=λhu hv h=>by
  rcases bA hu with ⟨i,t,rfl,rfl⟩ | ⟨x,t,rfl,rfl⟩
  ·rcases bA hv with ⟨j,u,rfl,rfl⟩ | ⟨y,u,rfl,rfl⟩
   ·rw [O7] at h;exact wpAny_eqBool_int h
   ·rw [RJ] at h;exact SeqAt.EqAt.int_str i t y u _ _ _ _ h
  ·rcases bA hv with ⟨j,u,rfl,rfl⟩ | ⟨y,u,rfl,rfl⟩
   ·rw [PQ] at h;exact SeqAt.EqAt.str_int x t j u _ _ _ _ h
   ·rw [Q4] at h;exact wpAny_eqBool_str h
 «strs»:=λk x t v h=>by
  rcases bA h with ⟨i,u,rfl,e⟩ | ⟨y,u,rfl,e⟩
  ·exact nomatch e
  ·injection e with e1 _
   subst e1;cases v<;>rfl
theorem yM (prog:Program)(w:World)(i:Int)(t:Tok):(gC prog w).is (.inl i) (.int i t)=true:=Fx i t
theorem yK (prog:Program)(w:World)(x:Str)(t:Tok):(gC prog w).is (.inr x) (.str x t)=true:=Ei x t
inductive Kt where
 |k (x:Key) | t (xs:List Kt)
mutual
def Kt.dec:(a b:Kt)->Decidable (a=b)
 | .k x,.k y=>if h:x=y then .isTrue (by rw [h]) else .isFalse λe=>h (by injection e)
 | .t xs,.t ys=>match Kt.decs xs ys with
  | .isTrue h=>.isTrue (by rw [h])
  | .isFalse h=>.isFalse λe=>h (by injection e)
 | .k _,.t _=>.isFalse λe=>nomatch e
 | .t _,.k _=>.isFalse λe=>nomatch e
def Kt.decs:(a b:List Kt)->Decidable (a=b)
 |[],[]=>.isTrue rfl
 |[],_::_=>.isFalse λe=>nomatch e
 |_::_,[]=>.isFalse λe=>nomatch e
 |x::xs,y::ys=>match Kt.dec x y,Kt.decs xs ys with
  | .isTrue h,.isTrue g=>.isTrue (by rw [h,g])
  | .isFalse h,_=>.isFalse λe=>h (by injection e)
  |_,.isFalse g=>.isFalse λe=>g (by injection e)
end
instance:DecidableEq Kt:=Kt.dec
mutual
def nQ (w:World):Kt->Int
 | .k x=>Tr w x
 | .t xs=>reduceHash (Builtin.Tuple.tupleHashOf (jo w xs))
def jo (w:World):List Kt->List Int
 |[]=>[]
 |x::xs=>nQ w x::jo w xs
end
mutual
def mZ:Kt->Nat
 | .k _=>1
 | .t xs=>dD xs+1
def dD:List Kt->Nat
 |[]=>0
 |x::xs=>mZ x+dD xs
end
def jc (h:Heap):Nat->Kt->Value->Prop
 |_,.k x,v=>qK x v=true
 |0,.t _,_=>False
 |n+1,.t xs,v=>∃a o items m,v=.ref a/\h.get? a=some o/\o.cls=.type "tuple"/\o.data=.seq items m/\Paired (jc h n) xs items.toList
theorem iw:jc h (n+1) (.t xs) v↔∃a o items m,v=.ref a/\h.get? a=some o/\o.cls=.type "tuple"/\o.data=.seq items m/\Paired (jc h n) xs items.toList:=by rw [jc]
theorem jZ:jc h n (.k x) v↔qK x v=true:=by cases n<;>rw [jc]
theorem uC {α β:Type}{F G:α->β->Prop}(f:∀a b,F a b->G a b):∀{l:List α} {m:List β},Paired F l m->Paired G l m
 |_,_,.nil=>.nil
 |_,_,.cons r t=>.cons (f _ _ r) (uC f t)
theorem rQ {α β:Type}{F:α->β->Prop}(f:∀x y b,F x b->F y b->x=y):∀{l l':List α} {m:List β},Paired F l m->Paired F l' m->l=l'
 |_,_,_,.nil,.nil=>rfl
 |_,_,_,.cons r t,.cons r' t'=>by rw [f _ _ _ r r',rQ f t t']
theorem t6 {h:Heap}:∀(n:Nat) (x y:Kt) (v:Value),jc h n x v->jc h n y v->x=y
 |n,.k x,.k y,v,hx,hy=>by
  rw [jZ] at hx hy;rcases bA hx with ⟨i,t,rfl,rfl⟩ | ⟨z,t,rfl,rfl⟩
  ·rcases bA hy with ⟨j,u,rfl,e⟩ | ⟨y,u,rfl,e⟩
   ·injection e with e1 _;rw [e1]
   ·exact nomatch e
  ·rcases bA hy with ⟨j,u,rfl,e⟩ | ⟨y,u,rfl,e⟩
   ·exact nomatch e
   ·injection e with e1 _;rw [e1]
 |0,.t _,_,_,hx,_=>by rw [jc] at hx;exact hx.elim
 |0,.k _,.t _,_,_,hy=>by rw [jc] at hy;exact hy.elim
 |n+1,.k x,.t ys,v,hx,hy=>by
  rw [jZ] at hx;obtain ⟨a,_,_,_,e,_⟩:=iw.mp hy;subst e;rcases bA hx with ⟨_,_,_,e⟩ | ⟨_,_,_,e⟩<;>exact nomatch e
 |n+1,.t xs,.k y,v,hx,hy=>by
  rw [jZ] at hy;obtain ⟨a,_,_,_,e,_⟩:=iw.mp hx;subst e;rcases bA hy with ⟨_,_,_,e⟩ | ⟨_,_,_,e⟩<;>exact nomatch e
 |n+1,.t xs,.t ys,v,hx,hy=>by
  obtain ⟨a,o,it,m,e,g,_,d,p⟩:=iw.mp hx;obtain ⟨a',o',it',m',e',g',_,d',p'⟩:=iw.mp hy;subst e;injection e' with e'
  subst e';cases g.symm.trans g';rw [d] at d';injection d' with d' _
  subst d';rw [rQ (t6 n) p p']
theorem tK {h h':Heap}{d:Addr}{o:Obj}{es ep}(ho:h.get? d=some o)(hd:o.data=.dict es ep)(hs:Heap.SameBut d h h'):∀(n:Nat) (x:Kt) (v:Value),jc h n x v->jc h' n x v
 |n,.k x,v,hx=>by rw [jZ] at hx ⊢;exact hx
 |0,.t _,_,hx=>by rw [jc] at hx;exact hx.elim
 |n+1,.t xs,v,hx=>by
  obtain ⟨a,o',it,m,e,g,c,dd,p⟩:=iw.mp hx;have ne:a≠d:=by
   rintro rfl;cases g.symm.trans ho;rw [hd] at dd;cases dd
  exact iw.mpr ⟨a,o',it,m,e,(hs.2 a ne).trans g,c,dd,uC (tK ho hd hs n) p⟩
section
theorem qN (w:World):∀xs:List Kt,jo w xs=xs.map (nQ w)
 |[]=>by rw [jo];rfl
 |x::xs=>by rw [jo,qN w xs];rfl
theorem oK:∀xs ys:List Kt,dD (xs++ys)=dD xs+dD ys
 |[],ys=>by rw [List.nil_append,dD,Nat.zero_add]
 |x::xs,ys=>by rw [List.cons_append,dD,dD,oK xs ys,Nat.add_assoc]
theorem wC (x:Kt):dD [x]=mZ x:=by rw [dD,dD,Nat.add_zero]
theorem vL:∀(n:Nat) {A:Around} {s:Shared} {x:Kt} {v:Value} {Q:Int->Shared->Prop},A.units+n<cLine->jc s.heap n x v->Q (nQ wo x) { s with toks:=s.toks+mZ x }->wpAny (model pr wo) A (pyHash v) Q E s
 |n,A,s,.k x,v,Q,hu,hx,q=>by
  rw [jZ] at hx;rw [nQ,mZ] at q;exact (gC pr wo).pyHash hx q
 |0,_,_,.t _,_,_,_,hx,_=>by rw [jc] at hx;exact hx.elim
 |n+1,A,s,.t xs,v,Q,hu,hx,h=>by
  obtain ⟨a,o,items,m,e,ho,hc,hd,hi⟩:=iw.mp hx;subst e;have hT:s.TypeIs (.ref a) "tuple":=⟨o,ho,hc⟩;rw [nQ,mZ] at h;unfold pyHash
  first | unfold pyHashByItsType | skip
  first | refine wpAny_bind (wpAny_cRoomFor_or (.inr (by omega)) ?_) | skip
  refine wpAny_bind (wpAny_specialOf hT PySem.F.slot_tuple_hash.lookup ?_);show wpAny _ _ (if (some (Value.builtin "tuple.__hash__") == some Value.none)=true then _ else _) Q E s;rw [if_neg (by rw [beq_builtin_none];exact Bool.false_ne_true)];refine wpAny_bind (wpAny_specialOf hT PySem.F.slot_tuple_hash.lookup ?_);show wpAny _ _ (callSpecialIfBoundUnlessNone? (.ref a) "__hash__" _ >>= _) Q E s;refine wpAny_bind (wpAny_callSpecialIfBoundUnlessNone?_slot hT PySem.F.slot_tuple_hash (wpAny_call_entry PySem.F.slot_tuple_hash hT PySem.F.entry_tuple_hash ?_ (PySem.F.args_tuple_hash_1 _)));show wpAny _ _ (Builtin.Tuple.tupleItemsOf (.ref a) >>= _) _ _ s;refine wpAny_bind (wpAny_tupleItemsOf ho hd ?_);refine wpAny_bind ?_;rw [← Array.forIn_toList];refine wpAny_forIn_list _
   (λrest (b:Array Int) s'=>∃done left,xs=done++left/\Paired (jc s.heap n) left rest/\b.toList=done.map (nQ wo)/\s'={ s with toks:=s.toks+dD done })
   _ ?_ ?_ _ _ ⟨[],xs,rfl,hi,rfl,by rw [dD];rfl⟩
  ·rintro x rest b s' ⟨done,left,rfl,hl,hb,rfl⟩;cases hl with
   | @cons k _ ks' _ h1 hl'=>
    refine wpAny_bind (vL n (A:=A.in1) (show A.units+1+n<cLine by omega) (s:={ s with toks:=s.toks+dD done }) h1 ?_);refine wpAny_pure ⟨done++[k],ks',by simp,hl',by simp [hb],?_⟩;rw [oK,wC,Nat.add_assoc]
  ·rintro b s' ⟨done,left,rfl,hl,hb,rfl⟩;cases hl;rw [List.append_nil] at h;show wpAny _ _ (retInt (Builtin.Tuple.tupleHashOf b.toList)) _ _ _;rw [hb,← qN];refine wpAny_ret_mkInt ?_;show wpAny _ _ (if (decide (-(2:Int) ^ 63<=Builtin.Tuple.tupleHashOf (jo wo done)) && decide (Builtin.Tuple.tupleHashOf (jo wo done)<2 ^ 63))=true then _ else _) Q E _;unfold reduceHash at h;by_cases hr:(decide (-(2:Int) ^ 63<=Builtin.Tuple.tupleHashOf (jo wo done)) && decide (Builtin.Tuple.tupleHashOf (jo wo done)<2 ^ 63))=true
   ·rw [if_pos hr];rw [if_pos hr] at h;exact wpAny_pure (by simpa [Nat.add_assoc] using h)
   ·rw [if_neg hr];rw [if_neg hr] at h;exact wpAny_bind (wpAny_rule (wpAny_pure (by simpa [Nat.add_assoc] using h)))
def mC (xs ys:List Kt)(j:Nat):Bool:=match xs[j]?,ys[j]? with
 |some x,some y=>decide (x=y)
 |_,_=>true
theorem tZ:∀xs ys:List Kt,((List.range (min xs.length ys.length)).all (mC xs ys) && xs.length == ys.length)=decide (xs=ys)
 |[],[]=>by simp
 |[],_::_=>by simp
 |_::_,[]=>by simp
 |x::xs,y::ys=>by
  have ih:=tZ xs ys;rw [List.length_cons,List.length_cons,Nat.succ_min_succ,List.range_succ_eq_map,List.all_cons,List.all_map];have e:(mC (x::xs) (y::ys) ∘ Nat.succ)=mC xs ys:=by funext j;simp [mC]
  rw [e];have e0:mC (x::xs) (y::ys) 0=decide (x=y):=by simp [mC]
  rw [e0,Bool.and_assoc];have e1:((xs.length+1 == ys.length+1):Bool)=(xs.length == ys.length):=by simp
  rw [e1,ih];by_cases a:x=y<;>by_cases b:xs=ys<;>simp [a,b]
theorem qe:∀{l:List α} {m:List β} (j:Nat) (h:j<m.length),Paired F l m->∃a,l[j]? = some a/\F a m[j]
 |_,_,j,h,.nil=>absurd h (Nat.not_lt_zero _)
 |_,_,0,_,.cons r _=>⟨_,rfl,r⟩
 |_,_,j+1,h,.cons _ t=>by
  obtain ⟨a,h1,h2⟩:=qe j (by simpa using h) t;exact ⟨a,by simpa using h1,by simpa using h2⟩
theorem Ai:∀(n:Nat) (A:Around) (s:Shared) (x y:Kt) (v u:Value),A.units+n<cLine->jc s.heap n x v->jc s.heap n y u->SeqAt.EqAt A s v u (decide (x=y))
 |n,A,s,.k x,.k y,v,u,hu,hx,hy=>by
  rw [jZ] at hx hy;intro pr wo E Q q;refine (gC pr wo).eqBool (a:=x) (b:=y) hx hy ?_;have e:decide (Kt.k x=Kt.k y)=decide (x=y):=decide_eq_decide.mpr ⟨λe=>by injection e,λe=>by rw [e]⟩;rw [← e];exact q
 |0,_,_,.t _,_,_,_,_,hx,_=>by rw [jc] at hx;exact hx.elim
 |0,_,_,.k _,.t _,_,_,_,_,hy=>by rw [jc] at hy;exact hy.elim
 |n+1,A,s,.k x,.t ys,v,u,hu,hx,hy=>by
  rw [jZ] at hx;obtain ⟨a,o,it,m,e,g,c,d,_⟩:=iw.mp hy;subst e;have hl:s.heap.IsTuple a it:=⟨o,g,c,m,d⟩;rw [show decide (Kt.k x=Kt.t ys)=false from decide_eq_false λe=>nomatch e];rcases bA hx with ⟨i,t,rfl,rfl⟩ | ⟨z,t,rfl,rfl⟩
  ·exact SeqAt.EqAt.int_tuple i t hl (by omega)
  ·exact SeqAt.EqAt.str_tuple z t hl (by omega)
 |n+1,A,s,.t xs,.k y,v,u,hu,hx,hy=>by
  rw [jZ] at hy;obtain ⟨a,o,it,m,e,g,c,d,_⟩:=iw.mp hx;subst e;have hl:s.heap.IsTuple a it:=⟨o,g,c,m,d⟩;rw [show decide (Kt.t xs=Kt.k y)=false from decide_eq_false λe=>nomatch e];rcases bA hy with ⟨i,t,rfl,rfl⟩ | ⟨z,t,rfl,rfl⟩
  ·exact SeqAt.EqAt.tuple_int i t hl (by omega)
  ·exact SeqAt.EqAt.tuple_str z t hl (by omega)
 |n+1,A,s,.t xs,.t ys,v,u,hu,hx,hy=>by
  have hx':=hx;have hy':=hy;obtain ⟨a,o,it,m,e,g,c,d,p⟩:=iw.mp hx;obtain ⟨a',o',it',m',e',g',c',d',p'⟩:=iw.mp hy;subst e e';by_cases ne:a=a'
  ·subst ne;rw [t6 _ _ _ _ hx' hy',decide_eq_true rfl];exact SeqAt.EqAt.same _
  ·have hl:s.heap.IsTuple a it:=⟨o,g,c,m,d⟩;have hl':s.heap.IsTuple a' it':=⟨o',g',c',m',d'⟩;have n1:it.size=xs.length:=by have:=Paired.length p;simpa using this.symm
   have n2:it'.size=ys.length:=by have:=Paired.length p';simpa using this.symm
   have e2:decide (Kt.t xs=Kt.t ys)=decide (xs=ys):=decide_eq_decide.mpr ⟨λe=>by injection e,λe=>by rw [e]⟩;rw [e2,← tZ xs ys,← n1,← n2];refine SeqAt.EqAt.of_refs ne (SeqAt.RcAt.tuples hl hl' (by omega) λj j1 j2=>?_);obtain ⟨b,q1,q2⟩:=qe j (by simpa using j1) p;obtain ⟨b',r1,r2⟩:=qe j (by simpa using j2) p'
   have:mC xs ys j=decide (b=b'):=by unfold mC;rw [q1,r1]
   rw [this];exact Ai n A.in1 s b b' _ _ (show A.units+1+n<cLine by omega) (by simpa using q2) (by simpa using r2)
theorem CG:∀(n:Nat) {A:Around} {s:Shared} {x:Kt} {v:Value} {Q:Bool->Shared->Prop},jc s.heap n x v->Q true s->wpAny (model pr wo) A (eqIsQuiet n v) Q E s
 |n,A,s,.k x,v,Q,hx,q=>by
  rw [jZ] at hx;rw [eqIsQuiet_byValue _ ((gC pr wo).byValue _ _ hx)];exact wpAny_pure q
 |0,_,_,.t _,_,_,hx,_=>by rw [jc] at hx;exact hx.elim
 |n+1,A,s,.t xs,v,Q,hx,h=>by
  obtain ⟨a,o,items,m,e,ho,hc,hd,hi⟩:=iw.mp hx;subst e;have hT:s.TypeIs (.ref a) "tuple":=⟨o,ho,hc⟩;unfold eqIsQuiet;refine wpAny_bind (wpAny_specialOf hT PySem.F.slot_tuple_eq.lookup ?_);show wpAny _ _ (isInstance (.ref a) (.type "tuple") >>= _) _ _ s;refine wpAny_bind (wpAny_isInstance hT isSubtype_tuple_tuple ?_);simp only [Bool.not_true,Bool.false_eq_true,if_false];refine wpAny_bind (wpAny_seqItems ho hd (wpAny_bind ?_));show wpAny _ _ (forIn items _ _) _ _ s;rw [← Array.forIn_toList];refine wpAny_forIn_list _ (λrest r s'=>r.1=none/\s'=s/\∃ks,Paired (jc s.heap n) ks rest) _ ?_ ?_ _ _ ⟨rfl,rfl,xs,hi⟩
  ·rintro v rest r s' ⟨hr,rfl,ks,al⟩;cases al with
   |cons h1 al'=>
    refine wpAny_bind (CG n h1 ?_);simp only [Bool.not_true,Bool.false_eq_true,if_false];exact wpAny_pure ⟨rfl,rfl,_,al'⟩
  ·rintro ⟨r1,r2⟩ s' ⟨hr,rfl,_⟩;simp only at hr;subst hr;exact wpAny_pure h
end
def gq (pr:Program)(wo:World):HeapKind pr wo (List Kt) where
 is:=λh ks a=>jc h 8 (.t ks) (.ref a)
 hash:=λks=>nQ wo (.t ks)
 draws:=λks=>mZ (.t ks)
 room:=λA=>A.units+8<cLine
 inj:=λa b=>by have:=t6 _ _ _ _ a b;injection this
 keeps:=λx a b c=>tK a b c _ _ _ x
 pyHash:=λa b c=>vL 8 a b c
 eqBool:=λ{A E s x y a b Q} h1 h2 h3 h4=>by
  refine Ai 8 A s _ _ _ _ h1 h2 h3 _ _ _ _ ?_;rw [show decide (Kt.t x=Kt.t y)=decide (x=y) from decide_eq_decide.mpr ⟨λe=>by injection e,λe=>by rw [e]⟩];exact h4
 quiet:=λa b=>CG 8 a b
inductive V where
 |non | bl (b:Bool) | int (i:Int) | str (x:Str) | byt (b:Array UInt8) | flt (b:UInt64) | ref (a:Addr) | ty (n:String)
 deriving DecidableEq
def RelV:V->Value->Prop
 | .non,u=>u=Value.none
 | .bl b,u=>u=Value.bool b
 | .int i,u=>∃t,u=Value.int i t
 | .str x,u=>∃t,u=Value.str x t
 | .byt b,u=>∃t,u=Value.bytes b t
 | .flt b,u=>∃t,u=Value.float b t
 | .ref a,u=>u=Value.ref a
 | .ty n,u=>u=Value.type n
abbrev Vals:List V->List Value->Prop:=Paired RelV
theorem Vals.length (r:Vals xs us):xs.length=us.length:=Paired.length r
theorem Vals.get:∀{xs:List V} {us:List Value} {i:Nat} {x:V},Vals xs us->xs[i]? = some x->∃u,us[i]? = some u/\RelV x u
 |_,_,_,_,.nil,e=>by simp at e
 |_,_,0,_,.cons r _,e=>by simp at e;subst e;exact ⟨_,rfl,r⟩
 |_,_,i+1,x,.cons _ t,e=>by
  obtain ⟨u,h1,h2⟩:=Vals.get (i:=i) (x:=x) t (by simpa using e);exact ⟨u,by simpa using h1,h2⟩
theorem Vals.set (r:RelV x u):∀{xs:List V} {us:List Value} (i:Nat),Vals xs us->Vals (xs.set i x) (us.set i u)
 |_,_,_,.nil=>.nil
 |_,_,0,.cons _ t=>.cons r t
 |_,_,i+1,.cons q t=>.cons q (Vals.set r i t)
theorem Vals.append:∀{xs ys:List V} {us ws:List Value},Vals xs us->Vals ys ws->Vals (xs++ys) (us++ws)
 |_,_,_,_,.nil,s=>s
 |_,_,_,_,.cons r t,s=>.cons r (Vals.append t s)
theorem Vals.take:∀{xs:List V} {us:List Value} (n:Nat),Vals xs us->Vals (xs.take n) (us.take n)
 |_,_,0,_=>.nil
 |_,_,_+1,.nil=>.nil
 |_,_,n+1,.cons r t=>.cons r (Vals.take n t)
theorem Vals.drop:∀{xs:List V} {us:List Value} (n:Nat),Vals xs us->Vals (xs.drop n) (us.drop n)
 |_,_,0,r=>r
 |_,_,_+1,.nil=>.nil
 |_,_,n+1,.cons _ t=>Vals.drop n t
def uG:Option V->Option Value->Prop
 |some v,some u=>RelV v u
 |none,none=>True
 |_,_=>False
def KV {κ:Type}:List (κ×V)->List (κ×Value)->Prop:=Paired λ(p:κ×V) (q:κ×Value)=>p.1=q.1/\RelV p.2 q.2
def kV:Key->V
 | .inl i=>.int i
 | .inr x=>.str x
inductive HO where
  |lst (xs:List V)
  |tup (xs:List V)
  |dK (kvs:List (Key×V)) | dT (T:Addr->List V->Prop) (kvs:List (List Kt×V))
  |set (S:Int->Bool) (n:Nat)
  |ins (C dx:Addr) (fs:List (Str×V))
  |own (x:Addr)
  |xd (fs:List (Str×V))
  |met (f x:Addr)
  |rng (lo hi:Int)
  |frz (o:Obj) (u:HO)
  |tbl (ps:Array Value)
  |ext (φ:Heap->Prop)
abbrev Hp:=Addr->Option HO
def upd (H:Hp)(a:Addr)(o:HO):Hp:=λb=>if b=a then some o else H b
theorem aU:upd H a o a=some o:=by unfold upd;rw [if_pos rfl]
theorem aV (h:b≠a):upd H a o b=H b:=by unfold upd;rw [if_neg h]
theorem xZ {H:Hp}{a b:Addr}{o u:HO}(h:H a=some o)(h':H b=some u)(d:o≠u):a≠b:=by
 intro e;subst e;rw [h] at h';exact d (Option.some.inj h')
theorem iz {H:Hp}{a b:Addr}{o:HO}(h:H a=some o)(h':H b=none):a≠b:=by
 intro e;subst e;rw [h] at h';cases h'
mutual
inductive qb (T:Addr->List V->Prop)(H:Hp):Nat->V->Kt->Prop where
 |k {n:Nat} {x:Key}:qb T H n (kV x) (.k x)
 |t {n:Nat} {b:Addr} {vs:List V} {ks:List Kt}:(H b=some (.tup vs)\/T b vs)->kY T H n vs ks->qb T H (n+1) (.ref b) (.t ks)
inductive kY (T:Addr->List V->Prop)(H:Hp):Nat->List V->List Kt->Prop where
 |nil {n:Nat}:kY T H n [] []
 |cons {n:Nat} {v:V} {vs:List V} {k:Kt} {ks:List Kt}:qb T H n v k->kY T H n vs ks->kY T H n (v::vs) (k::ks)
end
def TrT (T:Addr->List V->Prop)(H:Hp)(b:Addr)(ks:List Kt):Prop:=∃vs,(H b=some (.tup vs)\/T b vs)/\kY T H 7 vs ks
section
mutual
theorem qb.imp (ht:∀b xs,H b=some (.tup xs)->H' b=some (.tup xs)):∀{n:Nat} {v:V} {k:Kt},qb T H n v k->qb T H' n v k
 |_,_,_,.k=>.k
 |_,_,_,.t h hs=>.t (h.imp (ht _ _) id) (kY.imp ht hs)
theorem kY.imp (ht:∀b xs,H b=some (.tup xs)->H' b=some (.tup xs)):∀{n:Nat} {vs:List V} {ks:List Kt},kY T H n vs ks->kY T H' n vs ks
 |_,_,_,.nil=>.nil
 |_,_,_,.cons h hs=>.cons (qb.imp ht h) (kY.imp ht hs)
end
theorem TrT.imp (h:TrT T H b ks)(ht:∀b xs,H b=some (.tup xs)->H' b=some (.tup xs)):TrT T H' b ks:=
 let ⟨vs,h1,h2⟩:=h;⟨vs,h1.imp (ht _ _) id,h2.imp ht⟩
end
section
variable (P:Program)(w:World)
def cI (H:Hp)(h:Heap)(a:Addr):HO->Prop
 | .lst xs=>xs.length<=sizeLine/\∃(its:List Value) (n:Nat),Vals xs its/\h.get? a=some { cls:=.type "list",data:=.seq its.toArray n }
 | .tup xs=>xs.length<=sizeLine/\∃its:List Value,Vals xs its/\IsTup h a its.toArray
 | .dK kvs=>kvs.length<=sizeLine/\(a == sysModules)=false/\∃vs,KV kvs vs/\h.DictOf (gC P w) a vs
 | .dT T kvs=>kvs.length<=sizeLine/\(a == sysModules)=false/\∃xs:List (List Kt×Addr×Value),
   Paired (λ(p:List Kt×V) (q:List Kt×Addr×Value)=>p.1=q.1/\TrT T H q.2.1 p.1/\RelV p.2 q.2.2) kvs xs/\
   ∃o es ep,h.get? a=some o/\o.ExactDict/\o.data=.dict es ep/\es.toList=xs.map (entryOfKey (gq P w))/\(xs.map (·.1)).Nodup
 | .set S n=>h.SetOf (intKind P w) a S n
 | .ins C dx fs=>H dx=some (.own a)/\fs.length<=1000/\dx≠a/\h.get? a=some (W.instObj C dx)/\
   ∃mA,h.Ns1 dx mA/\(∀f,uG (fs.lookup f) (mA f))/\PySem.Within mA (fs.map (·.1))
 | .own _=>∃o,h.get? a=some o
 | .xd fs=>∃mA,h.Ns1 a mA/\∀f,uG (fs.lookup f) (mA f)
 | .rng lo hi=>∃t u v,h.get? a=some { cls:=.type "range",data:=.fields #[.int lo t,.int hi u,.int 1 v] }
 | .frz o u=>h.get? a=some o/\cI H h a u
 | .tbl ps=>h.get? a=some { cls:=.none,data:=.fields ps }
 | .met f x=>h.get? a=some (W.methodObj (.ref f) (.ref x))
 | .ext φ=>φ h/\(∃o,h.get? a=some o)/\∀h1 h2:Heap,φ h1->(∀o,h1.get? a=some o->h2.get? a=some o)->φ h2
def HOk (H:Hp)(h:Heap):Prop:=∀a o,H a=some o->cI P w H h a o
end
section
variable {P:Program}{w:World}{H H':Hp}{h h':Heap}{a:Addr}{o:HO}
theorem cI.lt (x:cI P w H h a o):a<h.objs.size:=by
 cases o with
 |lst xs=>obtain ⟨_,_,_,_,e⟩:=x;exact Heap.lt_size e
 |tup xs=>obtain ⟨_,_,_,p⟩:=x;exact p.lt
 |dK kvs=>obtain ⟨_,_,_,_,o,_,_,e,_⟩:=x;exact Heap.lt_size e
 |dT T kvs=>obtain ⟨_,_,_,_,o,_,_,e,_⟩:=x;exact Heap.lt_size e
 |set S n=>obtain ⟨o,_,_,_,e,_⟩:=x;exact Heap.lt_size e
 |ins C dx fs=>obtain ⟨_,_,_,e,_⟩:=x;exact Heap.lt_size e
 |own y=>obtain ⟨_,e⟩:=x;exact Heap.lt_size e
 |xd fs=>obtain ⟨_,⟨_,_,_,e,_⟩,_⟩:=x;exact Heap.lt_size e
 |rng lo hi=>obtain ⟨_,_,_,e⟩:=x;exact Heap.lt_size e
 |frz ob u=>obtain ⟨e,_⟩:=x;exact Heap.lt_size e
 |tbl ps=>exact Heap.lt_size (show h.get? a=some _ from x)
 |met f y=>exact Heap.lt_size (show h.get? a=some _ from x)
 |ext φ=>obtain ⟨_,⟨_,e⟩,_⟩:=x;exact Heap.lt_size e
theorem Paired.QV:∀{l₁:List α} {l₂:List β},Paired F l₁ l₂->(∀a b,F a b->G a b)->Paired G l₁ l₂
 |_,_,.nil,_=>.nil
 |_,_,.cons r t,f=>.cons (f _ _ r) (Paired.QV t f)
theorem cI.stay (x:cI P w H h a o)(k:∀b u,(b=a\/H b=some (.own a))->h.get? b=some u->h'.get? b=some u)
  (ho:∀b,H b=some (.own a)->H' b=some (.own a)) (ht:∀b xs,H b=some (.tup xs)->H' b=some (.tup xs)):cI P w H' h' a o:=by
 induction o with
 |lst xs=>obtain ⟨z,its,n,r,e⟩:=x;exact ⟨z,its,n,r,k _ _ (.inl rfl) e⟩
 |tup xs=>obtain ⟨z,its,r,ob,e,c⟩:=x;exact ⟨z,its,r,ob,k _ _ (.inl rfl) e,c⟩
 |dK kvs=>obtain ⟨z,y,vs,r,ob,es,ep,e,c⟩:=x;exact ⟨z,y,vs,r,ob,es,ep,k _ _ (.inl rfl) e,c⟩
 |dT T kvs=>
  obtain ⟨z,y,xs,r,ob,es,ep,e,c⟩:=x;exact ⟨z,y,xs,Paired.QV r λp q z=>⟨z.1,z.2.1.imp ht,z.2.2⟩,ob,es,ep,k _ _ (.inl rfl) e,c⟩
 |set S n=>obtain ⟨ob,es,ep,t,e,c⟩:=x;exact ⟨ob,es,ep,t,k _ _ (.inl rfl) e,c⟩
 |ins C dx fs=>
  obtain ⟨d,z,ne,e,mA,⟨od,es,ep,e2,c⟩,r⟩:=x;exact ⟨ho _ d,z,ne,k _ _ (.inl rfl) e,mA,⟨od,es,ep,k _ _ (.inr d) e2,c⟩,r⟩
 |own y=>obtain ⟨ob,e⟩:=x;exact ⟨ob,k _ _ (.inl rfl) e⟩
 |xd fs=>obtain ⟨mA,⟨od,es,ep,e,c⟩,r⟩:=x;exact ⟨mA,⟨od,es,ep,k _ _ (.inl rfl) e,c⟩,r⟩
 |rng lo hi=>obtain ⟨t,u,v,e⟩:=x;exact ⟨t,u,v,k _ _ (.inl rfl) e⟩
 |frz ob u ih=>obtain ⟨e,q⟩:=x;exact ⟨k _ _ (.inl rfl) e,ih q⟩
 |tbl ps=>
  have e:h.get? a=some { cls:=.none,data:=.fields ps }:=x;show h'.get? a=some { cls:=.none,data:=.fields ps };exact k a _ (.inl rfl) e
 |met f y=>
  have e:h.get? a=some (W.methodObj (.ref f) (.ref y)):=x;show h'.get? a=some (W.methodObj (.ref f) (.ref y));exact k a _ (.inl rfl) e
 |ext φ=>obtain ⟨p,⟨o,e⟩,st⟩:=x;exact ⟨st _ _ p λo q=>k _ _ (.inl rfl) q,⟨o,k _ _ (.inl rfl) e⟩,st⟩
theorem HOk.lt (x:HOk P w H h)(e:H a=some o):a<h.objs.size:=(x a o e).lt
theorem HOk.fresh (x:HOk P w H h)(e:h.objs.size<=a):H a=none:=by
 cases q:H a with
 |none=>rfl
 |some u=>exact absurd (Nat.lt_of_lt_of_le (x.lt q) e) (Nat.lt_irrefl _)
theorem HOk.kept (x:HOk P w H h)(k:∀b u,h.get? b=some u->h'.get? b=some u):HOk P w H h':=λa o e=>
 (x a o e).stay (λb u _ q=>k b u q) (λ_ q=>q) λ_ _ q=>q
theorem HOk.laid (x:HOk P w H h)(k:∀b u,h.get? b=some u->h'.get? b=some u)(hp:h.objs.size<=a)(new:cI P w (upd H a o) h' a o):HOk P w (upd H a o) h':=λb u e=>by
 have hn:=x.fresh hp;by_cases hb:b=a
 ·subst hb;rw [aU] at e;cases e;exact new
 ·rw [aV hb] at e;exact (x b u e).stay (λc v _ q=>k c v q) (λc q=>by rw [aV (iz q hn)];exact q) λc xs q=>by rw [aV (iz q hn)];exact q
end
def Rd (H:Hp)(a:Addr)(u:HO):Prop:=H a=some u\/∃o,H a=some (.frz o u)
theorem Rd.ok (r:Rd H a u)(x:HOk P w H h):cI P w H h a u:=by
 rcases r with r | ⟨o,r⟩
 ·exact x a u r
 ·obtain ⟨_,q⟩:=x a _ r;exact q
def Mut:Option HO->Prop
 |some (.lst _)=>True
 |some (.dK _)=>True
 |some (.dT _ _)=>True
 |some (.set _ _)=>True
 |some (.ins _ _ _)=>True
 |some (.ext _)=>True
 |_=>False
section
theorem HOk.write (ok:HOk P w H h)(mu:Mut (H x))(he:e=x\/H e=some (.own x))(k:∀b u,b≠e->h.get? b=some u->h'.get? b=some u)(heo:∃u,h'.get? e=some u)
  (new:cI P w (upd H x o') h' x o'):HOk P w (upd H x o') h':=λb u q=>by
 have nown:∀c y,H c=some (.own y)->c≠x:=λc y r z=>by subst z;rw [r] at mu;exact mu
 have ntup:∀c xs,H c=some (.tup xs)->c≠x:=λc xs r z=>by subst z;rw [r] at mu;exact mu
 by_cases hb:b=x
 ·subst hb;rw [aU] at q;cases q;exact new
 ·rw [aV hb] at q;by_cases hbe:b=e
  ·have q':H b=some (.own x):=by
    rcases he with z | z
    ·exact absurd (hbe.trans z) hb
    ·rw [hbe];exact z
   rw [q] at q';cases q';obtain ⟨v,hv⟩:=heo;exact ⟨v,by rw [hbe];exact hv⟩
  ·refine (ok b u q).stay (λc v hc r=>k c v ?_ r) (λc r=>by rw [aV (nown c b r)];exact r) λc xs r=>by rw [aV (ntup c xs r)];exact r
   rcases hc with rfl | hc
   ·exact hbe
   ·rintro rfl;rcases he with z | z
    ·exact nown c b hc z
    ·rw [hc] at z;cases z;exact hb rfl
end
structure Un (fs ex:List Addr)(H H':Hp)(h h':Heap):Prop where
 keep:∀b o,h.get? b=some o->H b=none->b∉fs->b∉ex->h'.get? b=some o
 slot:∀b o,h.get? b=some o->H b=none->b∈fs->b∉ex->∃sl,h'.get? b=some { o with slots:=sl }
 free:∀b o,h.get? b=some o->H b=none->b∉ex->H' b=none
 there:∀b o,h.get? b=some o->b∉ex->∃o',h'.get? b=some o'
 tups:∀b xs,H b=some (.tup xs)->H' b=some (.tup xs)
 frzs:∀b o u,H b=some (.frz o u)->H' b=some (.frz o u)
 tbls:∀b ps,H b=some (.tbl ps)->∃more,H' b=some (.tbl (ps++more))
section
variable {fs fs' ex ex':List Addr}{H H1 H2:Hp}{h h1 h2 h':Heap}{a x e:Addr}{o:HO}
theorem Un.any (u:Un fs ex H H1 h h1){b:Addr}{ob:Obj}(q:h.get? b=some ob)(n:H b=none)(hx:b∉ex):∃sl,h1.get? b=some { ob with slots:=sl }:=by
 by_cases hb:b∈fs
 ·exact u.slot b ob q n hb hx
 ·exact ⟨ob.slots,u.keep b ob q n hb hx⟩
theorem Un.kept (k:∀b u,h.get? b=some u->h'.get? b=some u):Un fs ex H H h h':=
 ⟨λb ob q _ _ _=>k b ob q,λb ob q _ _ _=>⟨ob.slots,k b ob q⟩,λ_ _ _ n _=>n,λb ob q _=>⟨ob,k b ob q⟩,λ_ _ q=>q,λ_ _ _ q=>q,λ_ ps q=>⟨#[],by rw [q];simp⟩⟩
theorem Un.refl:Un fs ex H H h h:=Un.kept λ_ _ q=>q
theorem Un.laid (k:∀b u,h.get? b=some u->h'.get? b=some u)(hp:h.objs.size<=a)(hn:H a=none):Un fs ex H (upd H a o) h h' where
 keep:=λb u q _ _ _=>k b u q
 slot:=λb u q _ _ _=>⟨u.slots,k b u q⟩
 free:=λb u q n _=>by rw [aV (Nat.ne_of_lt (Nat.lt_of_lt_of_le (Heap.lt_size q) hp))];exact n
 there:=λb u q _=>⟨u,k b u q⟩
 tups:=λb xs q=>by rw [aV (iz q hn)];exact q
 frzs:=λb u xs q=>by rw [aV (iz q hn)];exact q
 tbls:=λb ps q=>⟨#[],by rw [aV (iz q hn),q];simp⟩
theorem Un.write (mu:Mut (H x))(he:e=x\/H e=some (.own x))(k:∀b u,b≠e->h.get? b=some u->h'.get? b=some u)(heo:∃u,h'.get? e=some u):Un fs ex H (upd H x o) h h':=by
 have hx:∀b,H b=none->b≠x:=λb n z=>by subst z;rw [n] at mu;exact mu
 have hb:∀b,H b=none->b≠e:=λb n z=>by
  subst z;rcases he with r | r
  ·exact hx b n r
  ·rw [n] at r;cases r
 have hm:∀b u,H b=some u->¬Mut (some u)->b≠x:=λb u q nm z=>by subst z;rw [q] at mu;exact nm mu
 refine ⟨λb u q n _ _=>k b u (hb b n) q,λb u q n _ _=>⟨u.slots,k b u (hb b n) q⟩,λb u q n _=>by rw [aV (hx b n)];exact n,λb u q _=>?_,
  λb xs q=>by rw [aV (hm b _ q λz=>z)];exact q,λb u xs q=>by rw [aV (hm b _ q λz=>z)];exact q,λb ps q=>⟨#[],by rw [aV (hm b _ q λz=>z),q];simp⟩⟩
 by_cases hbe:b=e
 ·subst hbe;exact heo
 ·exact ⟨u,k b u hbe q⟩
end
def trk (h:Heap)(H:Hp):List Addr:=(List.range h.objs.size).filter λa=>(H a).isSome
def v7 (h:Heap)(H:Hp):Heap:=W.hideAll h (trk h H)
theorem Ej (h:Heap)(H:Hp):(v7 h H).objs.size=h.objs.size:=W.hideAll_size _ _
theorem J2 (e:h.get? b=some o)(n:H b=none):(v7 h H).get? b=some o:=
 W.hideAll_get _ e λhm=>by
  have q:(H b).isSome=true:=(List.mem_filter.mp hm).2;rw [n] at q;simp at q
theorem NP (e:(v7 h H).get? b=some o):h.get? b=some o/\H b=none:=by
 have e':h.get? b=some o:=W.of_hideAll (trk h H) e;refine ⟨e',?_⟩;cases q:H b with
 |none=>rfl
 |some x=>
  have hm:b∈trk h H:=List.mem_filter.mpr ⟨List.mem_range.mpr (Heap.lt_size e'),by simp [q]⟩;have z:(v7 h H).get? b=none:=W.hideAll_none (trk h H) hm;rw [z] at e;cases e
structure Mod (K:W.Frag)(mg:Zs)(base:Heap):Prop where
 kin:K.In base
 glob:base.Ns mainGlobals mg
 blt:∃mb,base.Ns builtinsNs mb/\∀x:Str,x≠"__name__"->mb x=bootBuiltins x
 nolimit:base.NoLimit
structure Cx where
 prog:Program
 w:World
 K:W.Frag
 mg:Zs
 base:Heap
 A:Around
 N:List Str
 s₀:Shared
 H₀:Hp
 env:Env
 outer:List Env
 stack:List Env
 ex:List Addr
 fn:Str->Bool
 calm:Bool
 pn:Zo
 xe:Zv
def frs (l:List Env):List Addr:=l.filterMap (·.frame)
abbrev Cx.fs (X:Cx):List Addr:=frs X.outer
def Vis (sc:Scope)(x:Str):Prop:=sc.names.lookup x=some .local\/sc.names.lookup x=some .cell\/sc.names.lookup x=some .free
def Loc (sc:Scope)(x:Str):Prop:=sc.names.lookup x=some .local\/sc.names.lookup x=some .cell
def Look (env:Env)(h:Heap)(m:Zs)(x:Str)(u:Value):Prop:=
 (env.kindOf x=some .local/\m x=some u)\/((env.kindOf x=some .cell\/env.kindOf x=some .free)/\∃c,env.cells.lookup x=some c/\h.IsCell c (some u))
structure Cx.Ok (X:Cx):Prop where
 mod:Mod X.K X.mg X.base
 kind:X.env.scope.kind=.function
 glob:X.env.globals=mainGlobals
 blt:X.env.builtins=builtinsNs
 above:X.s₀.heap.objs.size<=X.env.locals
 inj:∀x y c,X.env.cells.lookup x=some c->X.env.cells.lookup y=some c->x=y
 has:∀x,(X.env.kindOf x=some .cell\/X.env.kindOf x=some .free)->∃c,X.env.cells.lookup x=some c
 cab:∀x c,X.fn x=true->X.env.cells.lookup x=some c->X.s₀.heap.objs.size<=c
 hd:X.calm=true->X.A.handled=none
 frames:X.A.frames=some X.stack
 stk:X.stack=X.outer\/(X.stack=X.env::X.outer/\X.env.frame=some X.env.locals)
 exf:∀b∈X.ex,b≠X.env.locals/\∀x c,X.env.cells.lookup x=some c->c≠b
 bs:∀b o,X.base.get? b=some o->X.s₀.heap.get? b=some o/\X.H₀ b=none
 bsz:X.base.objs.size<=X.s₀.heap.objs.size
 noex:∀b o,X.base.get? b=some o->b∉X.ex
 exfs:∀b∈X.ex,b∉X.fs
 n8:X.s₀.heap.FunFrames X.base X.outer
 frf:∀b∈X.fs,X.H₀ b=none
structure Inv (X:Cx)(pins:Zo)(σ:List (Option V))(H:Hp)(s:Shared):Prop where
 ok:X.Ok
 os:s.os=X.s₀.os
 bare:AllBare s.gens
 base:Un X.fs X.ex X.H₀ H X.s₀.heap s.heap
 loc:∃m,s.heap.Ns X.env.locals m/\∀(i:Nat) (x:Str) (v:V),X.N[i]? = some x->σ[i]? = some (some v)->Vis X.env.scope x->∃u,RelV v u/\Look X.env s.heap m x u
 cell:∀x c,X.env.cells.lookup x=some c->∃v,s.heap.IsCell c v
 free:H X.env.locals=none
 freeC:∀x c,X.env.cells.lookup x=some c->H c=none
 pin:∀p∈X.pn++pins,s.heap.get? p.1=some p.2/\H p.1=none/\p.1≠X.env.locals/\p.1∉X.fs/\∀v,p.2.data≠.cell v
 hok:HOk X.prog X.w H s.heap
 len:σ.length=X.N.length
section
variable {X:Cx}{pins:Zo}{σ:List (Option V)}{H H':Hp}{s:Shared}{h':Heap}
theorem Cx.Ok.UT (ok:X.Ok){b:Addr}{o:Obj}(e:X.base.get? b=some o):b∉X.fs:=λhb=>by
 have:=(ok.n8.mem hb).1
 rw [e] at this;cases this
theorem Inv.bs (I:Inv X pins σ H s):∀b o,X.base.get? b=some o->s.heap.get? b=some o/\H b=none:=λb o e=>
 ⟨I.base.keep b o (I.ok.bs b o e).1 (I.ok.bs b o e).2 (I.ok.UT e) (I.ok.noex b o e),I.base.free b o (I.ok.bs b o e).1 (I.ok.bs b o e).2 (I.ok.noex b o e)⟩
theorem Inv.bk (I:Inv X pins σ H s):∀b o,X.base.get? b=some o->s.heap.get? b=some o:=λb o e=>(I.bs b o e).1
theorem Inv.mod (I:Inv X pins σ H s):Mod X.K X.mg X.base:=I.ok.mod
theorem Inv.kIn (I:Inv X pins σ H s):X.K.In s.heap:=I.ok.mod.kin.keeps I.bk
theorem Inv.fr (I:Inv X pins σ H s):∃m,Fr X.base X.env.locals s.heap m:=
 let ⟨m,hn,_⟩:=I.loc
 ⟨m,hn,I.bk,Nat.le_trans I.ok.bsz I.ok.above⟩
theorem Inv.lt (I:Inv X pins σ H s):X.env.locals<s.heap.objs.size:=let ⟨_,hn,_⟩:=I.loc;hn.lt
theorem Inv.sz (I:Inv X pins σ H s):X.s₀.heap.objs.size<=s.heap.objs.size:=Nat.le_trans I.ok.above (Nat.le_of_lt I.lt)
theorem Inv.VN (I:Inv X pins σ H s){a:Addr}(h:s.heap.objs.size<=a):a∉X.fs:=λhb=>by
 obtain ⟨_,o,ho,_⟩:=I.ok.n8.mem hb;exact absurd (Nat.lt_of_lt_of_le (Heap.lt_size ho) (Nat.le_trans I.sz h)) (Nat.lt_irrefl _)
theorem Inv.cne (I:Inv X pins σ H s):∀x c,X.env.cells.lookup x=some c->c≠X.env.locals:=λx c e z=>by
 obtain ⟨v,o,ho,hd⟩:=I.cell x c e;obtain ⟨m,⟨o',es,ep,ho',hd',_⟩,_⟩:=I.loc;rw [z,ho'] at ho;cases ho;rw [hd'] at hd;cases hd
theorem Inv.n8 (I:Inv X pins σ H s):s.heap.FunFrames X.base X.outer:=by
 have all:∀(l:List Env),(∀b∈frs l,b∈X.fs)->X.s₀.heap.FunFrames X.base l->s.heap.FunFrames X.base l:=by
  intro l;induction l with
  |nil=>intro _ _;trivial
  |cons env r ih=>
   intro hs hl;obtain ⟨hk,⟨L,o,hf,hn,ho,hd⟩,hr⟩:=hl;have hL:L∈X.fs:=hs L (by unfold frs;rw [List.filterMap_cons,hf];exact List.mem_cons_self);obtain ⟨sl,e⟩:=I.base.slot L o ho (I.ok.frf L hL) hL λz=>I.ok.exfs L z hL;exact ⟨hk,⟨L,_,hf,hn,e,hd⟩,ih (λb hb=>hs b (by unfold frs;rw [List.filterMap_cons,hf];exact List.mem_cons_of_mem _ hb)) hr⟩
 exact all X.outer (λ_ hb=>hb) I.ok.n8
theorem Inv.stack (I:Inv X pins σ H s):s.heap.FunFrames X.base X.stack:=by
 rcases I.ok.stk with e | ⟨e,hf⟩
 ·rw [e];exact I.n8
 ·rw [e];obtain ⟨m,hn,_⟩:=I.loc;refine .cons (by rw [I.ok.kind];decide) hf hn ?_ I.n8;exact Heap.get?_none_of_le (Nat.le_trans I.ok.bsz I.ok.above)
theorem Inv.wg (I:Inv X pins σ H s):∀b∈frs X.stack,b∈X.env.locals::X.fs:=λb hb=>by
 rcases I.ok.stk with e | ⟨e,hf⟩
 ·rw [e] at hb;exact List.mem_cons_of_mem _ hb
 ·rw [e] at hb;unfold frs at hb;rw [List.filterMap_cons,hf] at hb;exact hb
theorem Inv.xj (I:Inv X pins σ H s):∀b∈frs X.stack,H b=none:=λb hb=>by
 rcases List.mem_cons.mp (I.wg b hb) with e | hb
 ·rw [e];exact I.free
 ·obtain ⟨_,o,ho,_⟩:=I.ok.n8.mem hb;exact I.base.free b o ho (I.ok.frf b hb) λz=>I.ok.exfs b z hb
theorem Inv.step {g':Array GenState}{t':Nat}{d':Drawn}{ch:List Addr}(I:Inv X pins σ H s)
  (hch:∀b∈ch,(b∈X.ex\/X.s₀.heap.objs.size<=b)/\b≠X.env.locals/\(∀x c,X.env.cells.lookup x=some c->c≠b)/\∀p∈X.pn++pins,p.1≠b)
  (keep:∀b o,b≠X.env.locals->b∉X.fs->b∉ch->s.heap.get? b=some o->H b=none->h'.get? b=some o)
  (slot:∀b o,b≠X.env.locals->b∈X.fs->b∉ch->s.heap.get? b=some o->H b=none->∃sl,h'.get? b=some { o with slots:=sl }) (free:∀b o,b∉ch->s.heap.get? b=some o->H b=none->H' b=none)
  (there:∀b o,b∉ch->s.heap.get? b=some o->∃o',h'.get? b=some o')
  (tups:∀b xs,H b=some (.tup xs)->H' b=some (.tup xs)) (frzs:∀b o u,H b=some (.frz o u)->H' b=some (.frz o u)) (tbls:∀b ps,H b=some (.tbl ps)->∃more,H' b=some (.tbl (ps++more)))
  (ns:∀m,s.heap.Ns X.env.locals m->h'.Ns X.env.locals m) (hok:HOk X.prog X.w H' h') (hg:AllBare g'):
  Inv X pins σ H' { s with heap:=h',gens:=g',drawn:=d',toks:=t' }:=by
 have neL:∀b o,X.s₀.heap.get? b=some o->b≠X.env.locals:=λb o e=>Nat.ne_of_lt (Nat.lt_of_lt_of_le (Heap.lt_size e) I.ok.above);have neC:∀b o,X.s₀.heap.get? b=some o->b∉X.ex->b∉ch:=λb o e hx hb=>by
  rcases (hch b hb).1 with z | z
  ·exact hx z
  ·exact absurd (Nat.lt_of_lt_of_le (Heap.lt_size e) z) (Nat.lt_irrefl _)
 have cellK:∀x c,X.env.cells.lookup x=some c->∀v,s.heap.IsCell c v->h'.IsCell c v:=λx c e v ⟨o,ho,hd⟩=>by
  have nch:c∉ch:=λz=>(hch c z).2.2.1 x c e rfl;by_cases hc:c∈X.fs
  ·obtain ⟨sl,q⟩:=slot c o (I.cne x c e) hc nch ho (I.freeC x c e);exact ⟨_,q,hd⟩
  ·exact ⟨o,keep c o (I.cne x c e) hc nch ho (I.freeC x c e),hd⟩
 refine ⟨I.ok,I.os,hg,⟨λb o e n hb hx=>?_,λb o e n hb hx=>?_,λb o e n hx=>?_,λb o e hx=>?_,λb xs e=>tups b xs (I.base.tups b xs e),λb o xs e=>frzs b o xs (I.base.frzs b o xs e),λb ps e=>?_⟩,?_,λx c e=>?_,?_,λx c e=>?_,λp hp=>?_,hok,I.len⟩
 ·exact keep b o (neL b o e) hb (neC b o e hx) (I.base.keep b o e n hb hx) (I.base.free b o e n hx)
 ·obtain ⟨sl,e1⟩:=I.base.slot b o e n hb hx;obtain ⟨sl',e2⟩:=slot b _ (neL b o e) hb (neC b o e hx) e1 (I.base.free b o e n hx);exact ⟨sl',e2⟩
 ·obtain ⟨o',e1⟩:=I.base.there b o e hx;exact free b o' (neC b o e hx) e1 (I.base.free b o e n hx)
 ·obtain ⟨o',e1⟩:=I.base.there b o e hx;exact there b o' (neC b o e hx) e1
 ·obtain ⟨m1,e1⟩:=I.base.tbls b ps e;obtain ⟨m2,e2⟩:=tbls b _ e1;exact ⟨m1++m2,by rw [e2,Array.append_assoc]⟩
 ·obtain ⟨m,hn,hl⟩:=I.loc;refine ⟨m,ns m hn,λi x v e1 e2 e3=>?_⟩;obtain ⟨u,r,l⟩:=hl i x v e1 e2 e3;refine ⟨u,r,?_⟩;rcases l with l | ⟨k,c,e,z⟩
  ·exact .inl l
  ·exact .inr ⟨k,c,e,cellK x c e _ z⟩
 ·obtain ⟨v,z⟩:=I.cell x c e;exact ⟨v,cellK x c e v z⟩
 ·obtain ⟨m,⟨o,_,_,ho,_⟩,_⟩:=I.loc;exact free _ o (λz=>(hch _ z).2.1 rfl) ho I.free
 ·obtain ⟨v,o,ho,hd⟩:=I.cell x c e;exact free c o (λz=>(hch c z).2.2.1 x c e rfl) ho (I.freeC x c e)
 ·obtain ⟨e,n,ne,nf,d⟩:=I.pin p hp;have nch:p.1∉ch:=λz=>(hch p.1 z).2.2.2 p hp rfl;exact ⟨keep p.1 p.2 ne nf nch e n,free p.1 p.2 nch e n,ne,nf,d⟩
theorem Inv.un {t':Nat}(I:Inv X pins σ H s)(u:Un X.fs [] H H' s.heap h')(hok:HOk X.prog X.w H' h'):Inv X pins σ H' { s with heap:=h',toks:=t' }:=by
 obtain ⟨m,⟨o,es,ep,ho,r⟩,_⟩:=id I.loc;obtain ⟨sl,hL⟩:=u.any ho I.free (by simp);exact I.step (g':=s.gens) (d':=s.drawn) (ch:=[]) (λ_ z=>nomatch z) (λb o _ hb _ e n=>u.keep b o e n hb (by simp)) (λb o _ hb _ e n=>u.slot b o e n hb (by simp)) (λb o _ e n=>u.free b o e n (by simp)) (λb o _ e=>u.there b o e (by simp)) u.tups u.frzs u.tbls (λm' hm=>by
  obtain ⟨o',es',ep',ho',r'⟩:=hm;rw [ho] at ho';cases ho';exact ⟨_,es',ep',hL,r'⟩) hok I.bare
theorem Inv.call {g':Array GenState}{t':Nat}{d':Drawn}{ch:List Addr}(I:Inv X pins σ H s)(u:Un (frs X.stack) ch H H' s.heap h')(hok:HOk X.prog X.w H' h')(hg:AllBare g')
  (hch:∀b∈ch,(b∈X.ex\/X.s₀.heap.objs.size<=b)/\b≠X.env.locals/\(∀x c,X.env.cells.lookup x=some c->c≠b)/\∀p∈X.pn++pins,p.1≠b):
  Inv X pins σ H' { s with heap:=h',gens:=g',drawn:=d',toks:=t' }:=by
 obtain ⟨m,⟨o,es,ep,ho,r⟩,_⟩:=id I.loc;obtain ⟨sl,hL⟩:=u.any ho I.free λz=>(hch _ z).2.1 rfl;exact I.step (ch:=ch) hch (λb o hL hb hc e n=>u.keep b o e n (λz=>(List.mem_cons.mp (I.wg b z)).elim hL hb) hc) (λb o _ _ hc e n=>u.any e n hc) (λb o hc e n=>u.free b o e n hc) (λb o hc e=>u.there b o e hc) u.tups u.frzs u.tbls (λm' hm=>by
  obtain ⟨o',es',ep',ho',r'⟩:=hm;rw [ho] at ho';cases ho';exact ⟨_,es',ep',hL,r'⟩) hok hg
theorem Inv.turned {t':Nat}{it:Addr}(I:Inv X pins σ H s)(k:∀b o,b≠it->s.heap.get? b=some o->h'.get? b=some o)(hn:H it=none)(hL:it≠X.env.locals)
  (h1:it∈X.ex\/X.s₀.heap.objs.size<=it) (h2:∀x c,X.env.cells.lookup x=some c->c≠it) (h3:∀p∈X.pn++pins,p.1≠it):Inv X pins σ H { s with heap:=h',toks:=t' }:=by
 have nit:∀b u,H b=some u->b≠it:=λb u e z=>by rw [z,hn] at e;cases e
 refine I.step (g':=s.gens) (d':=s.drawn) (ch:=[it]) (λb hb=>?_) (λb o _ _ hc e _=>k b o (λz=>hc (by simp [z])) e) (λb o _ _ hc e _=>⟨o.slots,k b o (λz=>hc (by simp [z])) e⟩) (λ_ _ _ _ n=>n)
  (λb o hc e=>⟨o,k b o (λz=>hc (by simp [z])) e⟩) (λ_ _ e=>e) (λ_ _ _ e=>e) (λb ps e=>⟨#[],by rw [e];simp⟩) (λm hm=>?_) (λb u e=>?_) I.bare
 ·have e:b=it:=by simpa using hb
  subst e;exact ⟨h1,hL,h2,h3⟩
 ·obtain ⟨o,es,ep,ho,r⟩:=hm;exact ⟨o,es,ep,k _ o (Ne.symm hL) ho,r⟩
 ·refine (I.hok b u e).stay (λc v hc q=>k c v ?_ q) (λ_ q=>q) λ_ _ q=>q;rcases hc with z | z
  ·rw [z];exact nit b u e
  ·exact nit c _ z
theorem Inv.tok (I:Inv X pins σ H s)(t:Nat):Inv X pins σ H { s with toks:=t }:=I.un (h':=s.heap) (t':=t) Un.refl I.hok
theorem Inv.kept (I:Inv X pins σ H s)(k:∀b u,s.heap.get? b=some u->h'.get? b=some u):Inv X pins σ H { s with heap:=h',toks:=t' }:=I.un (Un.kept k) (I.hok.kept k)
theorem Inv.laid (I:Inv X pins σ H s)(k:∀b u,s.heap.get? b=some u->h'.get? b=some u)(hp:s.heap.objs.size<=a)(new:cI X.prog X.w (upd H a o) h' a o):
  Inv X pins σ (upd H a o) { s with heap:=h',toks:=t' }:=I.un (Un.laid k hp (I.hok.fresh hp)) (I.hok.laid k hp new)
theorem Inv.write (I:Inv X pins σ H s)(mu:Mut (H x))(he:e=x\/H e=some (.own x))(k:∀b u,b≠e->s.heap.get? b=some u->h'.get? b=some u)(heo:∃u,h'.get? e=some u)
  (new:cI X.prog X.w (upd H x o) h' x o):Inv X pins σ (upd H x o) { s with heap:=h',toks:=t' }:=I.un (Un.write mu he k heo) (I.hok.write mu he k heo new)
theorem Inv.weak (I:Inv X pins σ H s)(hl:σ'.length=σ.length)(w:∀(i:Nat) v,σ'[i]? = some (some v)->σ[i]? = some (some v)):Inv X pins σ' H s:=
 ⟨I.ok,I.os,I.bare,I.base,let ⟨m,hn,hl'⟩:=I.loc;⟨m,hn,λi x v e1 e2 e3=>hl' i x v e1 (w i v e2) e3⟩,I.cell,I.free,I.freeC,I.pin,I.hok,hl.trans I.len⟩
theorem Inv.Ck (I:Inv X pins σ H s)(h:∀p∈pins',s.heap.get? p.1=some p.2/\H p.1=none/\p.1≠X.env.locals/\p.1∉X.fs/\∀v,p.2.data≠.cell v):Inv X pins' σ H s:=
 ⟨I.ok,I.os,I.bare,I.base,I.loc,I.cell,I.free,I.freeC,λp hp=>(List.mem_append.mp hp).elim (λz=>I.pin p (List.mem_append_left _ z)) (h p),I.hok,I.len⟩
theorem uE {N:List Str}(hN:N.Nodup){i j:Nat}{x:Str}(a:N[i]? = some x)(b:N[j]? = some x):i=j:=by
 obtain ⟨h1,e1⟩:=List.getElem?_eq_some_iff.mp a;obtain ⟨h2,e2⟩:=List.getElem?_eq_some_iff.mp b;exact (List.getElem_inj hN).mp (e1.trans e2.symm)
theorem vC (I:Inv X pins σ H s)(hN:X.N.Nodup)(hi:X.N[i]? = some x)(hx:Loc X.env.scope x)(r:RelV v u)
  (h:∀s',Inv X pins (σ.set i (some v)) H s'->(∃a,Heap.SameBut a s.heap s'.heap/\(a=X.env.locals\/X.env.cells.lookup x=some a))->Q () s') (hf:X.fn x=true\/X.env.scope.names.lookup x=some .local:=by first | exact .inl rfl | exact .inr rfl | assumption):wpAny M A (storeName X.env x u) Q E s:=by
 obtain ⟨m,hn,hl⟩:=id I.loc;have hcls:(X.env.scope.kind == .class || (X.env.scope.kind == .module && X.env.locals != X.env.globals))=false:=by rw [I.ok.kind];rfl
 have hiσ:i<σ.length:=by rw [I.len];exact (List.getElem?_eq_some_iff.mp hi).1
 have cne:=I.cne;have tracked:∀{a:Addr} {h':Heap},(∃o,s.heap.get? a=some o/\H a=none)->Heap.SameBut a s.heap h'->HOk X.prog X.w H h':=λ{a h'} ha hs b ob e=>by
  obtain ⟨_,_,hfree⟩:=ha;refine (I.hok b ob e).stay (λc w' hc q=>(hs.2 c ?_).trans q) (λ_ q=>q) λ_ _ q=>q;rintro rfl;rcases hc with rfl | hc
  ·rw [hfree] at e;cases e
  ·rw [hfree] at hc;cases hc
 rcases hx with hk | hk
 ·refine wpAny_storeName_local hk hn (λh' hn' hs=>?_) hcls;obtain ⟨oL,_,_,hoL,_⟩:=id hn;refine h _ ⟨I.ok,I.os,I.bare,⟨λb o e n hb hx=>?_,λb o e n hb hx=>?_,I.base.free,λb o e hx=>?_,I.base.tups,I.base.frzs,I.base.tbls⟩,⟨_,hn',λj y v' e1 e2 e3=>?_⟩,λy c e=>?_,I.free,I.freeC,λp hp=>?_,tracked ⟨oL,hoL,I.free⟩ hs,by simpa using I.len⟩ ⟨_,hs,.inl rfl⟩
  ·exact (hs.2 b (Nat.ne_of_lt (Nat.lt_of_lt_of_le (Heap.lt_size e) I.ok.above))).trans (I.base.keep b o e n hb hx)
  ·obtain ⟨sl,e1⟩:=I.base.slot b o e n hb hx;exact ⟨sl,(hs.2 b (Nat.ne_of_lt (Nat.lt_of_lt_of_le (Heap.lt_size e) I.ok.above))).trans e1⟩
  ·obtain ⟨o',e1⟩:=I.base.there b o e hx;exact ⟨o',(hs.2 b (Nat.ne_of_lt (Nat.lt_of_lt_of_le (Heap.lt_size e) I.ok.above))).trans e1⟩
  ·by_cases hj:j=i
   ·subst hj;rw [hi] at e1;cases e1;rw [List.getElem?_set_self hiσ] at e2;cases e2;exact ⟨u,r,.inl ⟨hk,by simp⟩⟩
   ·rw [List.getElem?_set_ne (Ne.symm hj)] at e2;obtain ⟨u',r',q⟩:=hl j y v' e1 e2 e3;refine ⟨u',r',?_⟩;rcases q with ⟨k,e⟩ | ⟨k,c,e,z⟩
    ·refine .inl ⟨k,?_⟩
     have:y≠x:=λe=>hj (uE hN e1 (e ▸ hi))
     simp [this,e]
    ·exact .inr ⟨k,c,e,z.sameBut hs (cne y c e)⟩
  ·obtain ⟨w',z⟩:=I.cell y c e;exact ⟨w',z.sameBut hs (cne y c e)⟩
  ·obtain ⟨e,n,ne,nf,d⟩:=I.pin p hp;exact ⟨(hs.2 p.1 ne).trans e,n,ne,nf,d⟩
 ·have hfn:X.fn x=true:=by
   rcases hf with z | z
   ·exact z
   ·rw [z] at hk;cases hk
  obtain ⟨c,hc⟩:=I.ok.has x (.inl hk);obtain ⟨w',z⟩:=I.cell x c hc;refine wpAny_storeName_cell I.ok.kind hk hc z (λh' hc' hs=>?_);obtain ⟨oc,hoc,hocd⟩:=id z;refine h { s with heap:=h' } ⟨I.ok,I.os,I.bare,⟨λb o e n hb hx=>?_,λb o e n hb hx=>?_,I.base.free,λb o e hx=>?_,I.base.tups,I.base.frzs,I.base.tbls⟩,⟨m,hn.sameBut hs (Ne.symm (cne x c hc)),λj y v' e1 e2 e3=>?_⟩,λy c' e=>?_,I.free,I.freeC,λp hp=>?_,tracked ⟨oc,hoc,I.freeC x c hc⟩ hs,by simpa using I.len⟩ ⟨c,hs,.inr hc⟩
  ·exact (hs.2 b (Nat.ne_of_lt (Nat.lt_of_lt_of_le (Heap.lt_size e) (I.ok.cab x c hfn hc)))).trans (I.base.keep b o e n hb hx)
  ·obtain ⟨sl,e1⟩:=I.base.slot b o e n hb hx;exact ⟨sl,(hs.2 b (Nat.ne_of_lt (Nat.lt_of_lt_of_le (Heap.lt_size e) (I.ok.cab x c hfn hc)))).trans e1⟩
  ·obtain ⟨o',e1⟩:=I.base.there b o e hx;exact ⟨o',(hs.2 b (Nat.ne_of_lt (Nat.lt_of_lt_of_le (Heap.lt_size e) (I.ok.cab x c hfn hc)))).trans e1⟩
  ·by_cases hj:j=i
   ·subst hj;rw [hi] at e1;cases e1;rw [List.getElem?_set_self hiσ] at e2;cases e2;exact ⟨u,r,.inr ⟨.inl hk,c,hc,hc'⟩⟩
   ·rw [List.getElem?_set_ne (Ne.symm hj)] at e2;obtain ⟨u',r',q⟩:=hl j y v' e1 e2 e3;refine ⟨u',r',?_⟩;rcases q with q | ⟨k,c',e,z'⟩
    ·exact .inl q
    ·refine .inr ⟨k,c',e,z'.sameBut hs ?_⟩;rintro rfl;exact hj (uE hN e1 (I.ok.inj _ _ _ e hc ▸ hi))
  ·by_cases hcc:c'=c
   ·subst hcc;exact ⟨_,hc'⟩
   ·obtain ⟨w2,z2⟩:=I.cell y c' e;exact ⟨w2,z2.sameBut hs hcc⟩
  ·obtain ⟨e,n,ne,nf,d⟩:=I.pin p hp;refine ⟨(hs.2 p.1 ?_).trans e,n,ne,nf,d⟩;intro q;rw [q,hoc] at e;have q':oc=p.2:=Option.some.inj e;exact d w' (by rw [← q'];exact hocd)
theorem um (I:Inv X pins σ H s)(hN:X.N.Nodup)(hi:X.N[i]? = some x)(hx:Loc X.env.scope x)(r:RelV v u)
  (h:∀s',Inv X pins (σ.set i (some v)) H s'->Q () s') (hf:X.fn x=true\/X.env.scope.names.lookup x=some .local:=by first | exact .inl rfl | exact .inr rfl | assumption):wpAny M A (storeName X.env x u) Q E s:=
 vC I hN hi hx r (λs' I' _=>h s' I') hf
theorem Inv.call' (I:Inv X pins σ H s)(ho:s'.os=s.os)(u:Un (frs X.stack) ch H H' s.heap s'.heap)(hok:HOk X.prog X.w H' s'.heap)(hg:AllBare s'.gens)
  (hch:∀b∈ch,(b∈X.ex\/X.s₀.heap.objs.size<=b)/\b≠X.env.locals/\(∀x c,X.env.cells.lookup x=some c->c≠b)/\∀p∈X.pn++pins,p.1≠b):Inv X pins σ H' s':=by
 obtain ⟨h',g',d',t',o'⟩:=s';have e:o'=s.os:=ho;subst e;exact I.call (g':=g') (t':=t') (d':=d') u hok hg hch
end
abbrev XK:=Value->Option Addr->Hp->Prop
abbrev St:=List (Option V)
abbrev VK:=V->Hp->Prop
abbrev TE:=St->Hp->VK->Prop
abbrev TT:=St->Hp->(Bool->Hp->Prop)->Prop
abbrev TA:=St->Hp->(List V->Hp->Prop)->Prop
structure Ends where
 nx:St->Hp->Prop
 rt:VK
 bk:St->Hp->Prop:=λ_ _=>False
 ct:St->Hp->Prop:=λ_ _=>False
abbrev TS:=Ends->St->Hp->Prop
def EP (X:Cx)(pins:Zo)(σ:St)(Q:VK)(u:Value)(s':Shared):Prop:=∃v H',Inv X pins σ H' s'/\RelV v u/\Q v H'
def TP (X:Cx)(pins:Zo)(σ:St)(Q:Bool->Hp->Prop)(b:Bool)(s':Shared):Prop:=∃H',Inv X pins σ H' s'/\Q b H'
def AP (X:Cx)(pins:Zo)(σ:St)(Q:List V->Hp->Prop)(us:List Value)(s':Shared):Prop:=∃vs H',Inv X pins σ H' s'/\Vals vs us/\Q vs H'
def SP (X:Cx)(pins:Zo)(D:Ends)(f:Flow)(s':Shared):Prop:=
 match f with
 | .next=>∃σ' H',Inv X pins σ' H' s'/\D.nx σ' H'
 | .brk=>∃σ' H',Inv X pins σ' H' s'/\D.bk σ' H'
 | .cont=>∃σ' H',Inv X pins σ' H' s'/\D.ct σ' H'
 | .ret u=>∃v σ' H',Inv X pins σ' H' s'/\RelV v u/\D.rt v H'
def PE (X:Cx)(e:Expr)(t:TE):Prop:=
 ∀(pins:Zo) (s:Shared) (σ:St) (H:Hp) (Q:VK),Inv X pins σ H s->t σ H Q->wpAny (model X.prog X.w) X.A (eval e X.env) (EP X pins σ Q) X.xe s
def PT (X:Cx)(e:Expr)(t:TT):Prop:=
 ∀(pins:Zo) (s:Shared) (σ:St) (H:Hp) (Q:Bool->Hp->Prop),Inv X pins σ H s->t σ H Q->wpAny (model X.prog X.w) X.A (isTrue e X.env (eval e X.env)) (TP X pins σ Q) X.xe s
def PW (X:Cx)(e:Expr)(t:TT):Prop:=
 ∀(whole:Sem Value) (pins:Zo) (s:Shared) (σ:St) (H:Hp) (Q:Bool->Hp->Prop),Inv X pins σ H s->t σ H Q->wpAny (model X.prog X.w) X.A (isTrue e X.env whole) (TP X pins σ Q) X.xe s
theorem PW.pt (h:PW X e t):PT X e t:=h _
def PA (X:Cx)(es:List Expr)(t:TA):Prop:=
 ∀(pos:Pos) (pins:Zo) (s:Shared) (σ:St) (H:Hp) (Q:List V->Hp->Prop),Inv X pins σ H s->t σ H Q->wpAny (model X.prog X.w) X.A (spliced (backTo pos (starEach es X.env))) (AP X pins σ Q) X.xe s
def PS (X:Cx)(st:Stmt)(t:TS):Prop:=
 ∀(pins:Zo) (s:Shared) (σ:St) (H:Hp) (D:Ends),Inv X pins σ H s->t D σ H->wpAny (model X.prog X.w) X.A (exec st X.env) (SP X pins D) X.xe s
def PSs (X:Cx)(st:List Stmt)(t:TS):Prop:=
 ∀(pins:Zo) (s:Shared) (σ:St) (H:Hp) (D:Ends),Inv X pins σ H s->t D σ H->wpAny (model X.prog X.w) X.A (execs st X.env) (SP X pins D) X.xe s
theorem thn (h:wpAny M A t Q E s)(hQ:∀a s,Q a s->Q' a s):wpAny M A t Q' E s:=wpAny_mono h hQ λ_ _ x=>x
section
variable {X:Cx}
theorem bin (ha:PE X a ta)(hb:PE X b tb){pins:Zo}{s:Shared}{σ:St}{H:Hp}{R:V->V->Hp->Prop}(I:Inv X pins σ H s)(h:ta σ H λx H1=>tb σ H1 λy H2=>R x y H2)
  {α:Type} {Q:α->Shared->Prop} {f:Value->Value->Sem α}
  (hf:∀v u s2 x y H2,Inv X pins σ H2 s2->RelV x v->RelV y u->R x y H2->wpAny (model X.prog X.w) X.A (f v u) Q X.xe s2):
  wpAny (model X.prog X.w) X.A (eval a X.env) (λv s₁=>wpAny (model X.prog X.w) X.A (eval b X.env) (λu s₂=>wpAny (model X.prog X.w) X.A (f v u) Q X.xe s₂) X.xe s₁) X.xe s:=by
 refine thn (ha pins s σ H _ I h) λv s1 hE=>xq2 hE λx H1 I1 r1 q1=>?_;refine thn (hb pins s1 σ H1 _ I1 q1) λu s2 hE=>xq2 hE λy H2 I2 r2 q2=>?_;exact hf v u s2 x y H2 I2 r1 r2 q2
def Vm (i:Nat):TE:=λσ H Q=>∃v,σ[i]? = some (some v)/\Q v H
def tC (v:V):TE:=λ_ H Q=>Q v H
theorem jk (hN:X.N[i]? = some x)(hv:Vis X.env.scope x)(hd:(x == ("__debug__" : Str))=false:=by decide)(hcd:(x == ("__classdict__" : Str))=false:=by decide):PE X (.Name x pos) (Vm i):=by
 intro pins s σ H Q I h;obtain ⟨v,e,h⟩:=h;obtain ⟨m,hn,hl⟩:=I.loc;obtain ⟨u,r,l⟩:=hl i x v hN e hv;have fin:EP X pins σ Q u s:=⟨v,H,I,r,h⟩;rcases l with ⟨hk,hm⟩ | ⟨hk,c,hc,hcell⟩
 ·exact wpAny_Name (wpAny_loadName_local I.ok.kind hk hn hm fin) hd
 ·rcases hk with hk | hk
  ·exact wpAny_Name (wpAny_loadName_cell I.ok.kind hk hc hcell fin) hd
  ·exact wpAny_Name (wpAny_loadName_free I.ok.kind hk hc hcell fin hcd) hd
theorem QW:PE X (.Constant (.int i) j pos) (tC (.int i)):=λ_ _ _ H _ I h=>wpAny_Constant_int ⟨.int i,H,I.tok _,⟨_,rfl⟩,h⟩
theorem Sv:PE X (.Constant (.bool b) j pos) (tC (.bl b)):=λ_ _ _ H _ I h=>Constant_bool ⟨.bl b,H,I,rfl,h⟩
theorem Pj:PE X (.Constant .none j pos) (tC .non):=λ_ _ _ H _ I h=>Constant_none ⟨.non,H,I,rfl,h⟩
theorem Ph:PE X (.Constant (.str x) j pos) (tC (.str x)):=λ_ _ _ H _ I h=>Calls.Constant_str ⟨.str x,H,I.tok _,⟨_,rfl⟩,h⟩
def Gl (X:Cx)(x:Str):Prop:=X.env.kindOf x=some .globalImplicit
theorem rK (I:Inv X pins σ H s)(hg:Gl X x)(hm:X.mg x=some u)(h:Q u s)
  (hd:(x == ("__debug__" : Str))=false:=by decide):wpAny (model X.prog X.w) X.A (eval (.Name x pos) X.env) Q E s:=
 Calls.Name_function_global I.ok.kind hg (Calls.loadGlobal_global (by rw [I.ok.glob];exact I.mod.glob.keeps I.bk) hm h) hd
theorem mK (I:Inv X pins σ H s)(hg:Gl X x)(hm:X.mg x=none)(hv:bootBuiltins x=some u)(h:Q u s)
  (hn:x≠"__name__":=by decide) (hd:(x == ("__debug__" : Str))=false:=by decide):wpAny (model X.prog X.w) X.A (eval (.Name x pos) X.env) Q E s:=by
 obtain ⟨mb,h1,h2⟩:=I.mod.blt;exact Calls.Name_function_global I.ok.kind hg (Calls.loadGlobal_builtin (by rw [I.ok.glob];exact I.mod.glob.keeps I.bk) hm (by rw [I.ok.blt];exact h1.keeps I.bk) ((h2 x hn).trans hv) h) hd
theorem wF (hg:Gl X x)(hm:X.mg x=some u)(r:RelV v u)(hd:(x == ("__debug__" : Str))=false:=by decide):PE X (.Name x pos) (tC v):=
 λ_ _ _ H _ I h=>rK I hg hm ⟨v,H,I,r,h⟩ hd
theorem Kq (hg:Gl X x)(hm:X.mg x=none)(hv:bootBuiltins x=some u)(r:RelV v u)(hn:x≠"__name__":=by decide)(hd:(x == ("__debug__" : Str))=false:=by decide):PE X (.Name x pos) (tC v):=
 λ_ _ _ H _ I h=>mK I hg hm hv ⟨v,H,I,r,h⟩ hn hd
variable {a b:Expr}{ta tb:TE}{pos:Pos}
def PC (X:Cx)(op:CmpOp)(a b:Expr)(t:TE):Prop:=
 ∀(pins:Zo) (s:Shared) (σ:St) (H:Hp) (Q:VK),Inv X pins σ H s->t σ H Q->
  wpAny (model X.prog X.w) X.A (eval a X.env) (λv s₁=>wpAny (model X.prog X.w) X.A (eval b X.env) (λu s₂=>wpAny (model X.prog X.w) X.A (compareOp op v u) (EP X pins σ Q) X.xe s₂) X.xe s₁) X.xe s
theorem Kc (b:Expr){op:CmpOp}(h:op≠.In)(h2:op≠.NotIn):behindInMarks op b=false:=by
 have e1:(op == CmpOp.In)=false:=by cases op<;>first | rfl | exact absurd rfl h
 have e2:(op == CmpOp.NotIn)=false:=by cases op<;>first | rfl | exact absurd rfl h2
 cases b<;>simp [behindInMarks,e1,e2]
def tB (t:TE):TT:=λσ H Q=>t σ H λx H1=>∃c,x=.bl c/\Q c H1
theorem Vg (h:PC X op a b t)(h1:behindInMarks op b=false:=by first | exact Kc _ (by decide) (by decide) | rfl):PT X (.Compare a [op] [b] pos) (tB t):=by
 intro pins s σ H Q I hw;refine wpAny_isTrue_Compare1 (thn (h pins s σ H _ I hw) λv s1 h1=>thn h1 λu s2 h2=>thn h2 λc s3 hE=>xq2 hE λx H1 I1 r1 q1=>?_) h1;obtain ⟨d,rfl,q⟩:=q1;cases r1;exact wpAny_truthy_bool ⟨H1,I1,q⟩
theorem Rb (h:PE X e t)(he:∀whole,isTrue e X.env whole=(do let v ← whole;standAt e.pos;holding [v] (truthy v)):=by intro _;rfl):PT X e (tB t):=by
 intro pins s σ H Q I hw;refine isTrue_plain (thn (h pins s σ H _ I hw) λv s1 hE=>xq2 hE λx H1 I1 r1 q1=>?_) (he _);obtain ⟨d,rfl,q⟩:=q1;cases r1;exact wpAny_truthy_bool ⟨H1,I1,q⟩
variable {tA tB':TT}{rest:List Expr}
def U3 (t u:TT):TT:=λσ H Q=>t σ H λc H1=>if c=true then u σ H1 Q else Q false H1
def tOr (t u:TT):TT:=λσ H Q=>t σ H λc H1=>if c=true then Q true H1 else u σ H1 Q
def Vc (t:TT):TT:=λσ H Q=>t σ H λc H1=>Q (!c) H1
theorem Kw (ha:PT X a tA):PW X (.BoolOp .And [a] pos) tA:=by
 intro wh pins s σ H Q I h;refine isTrue_and (thn (ha pins s σ H Q I h) λc s1 e=>?_);cases c with
 |true=>exact isTrue_and_nil e
 |false=>exact e
theorem Qz (ha:PT X a tA):PW X (.BoolOp .Or [a] pos) tA:=by
 intro wh pins s σ H Q I h;refine isTrue_or (thn (ha pins s σ H Q I h) λc s1 e=>?_);cases c with
 |false=>exact isTrue_or_nil e
 |true=>exact e
theorem QJ (ha:PT X a tA)(hb:PW X (.BoolOp .And (b::rest) pos) tB'):PW X (.BoolOp .And (a::b::rest) pos) (U3 tA tB'):=by
 intro wh pins s σ H Q I h;refine isTrue_and (thn (ha pins s σ H _ I h) λc s1 ⟨H1,I1,q1⟩=>?_);cases c with
 |true=>exact hb wh pins s1 σ H1 Q I1 q1
 |false=>exact ⟨H1,I1,q1⟩
theorem Te (ha:PT X a tA)(hb:PW X (.BoolOp .Or (b::rest) pos) tB'):PW X (.BoolOp .Or (a::b::rest) pos) (tOr tA tB'):=by
 intro wh pins s σ H Q I h;refine isTrue_or (thn (ha pins s σ H _ I h) λc s1 ⟨H1,I1,q1⟩=>?_);cases c with
 |true=>exact ⟨H1,I1,q1⟩
 |false=>exact hb wh pins s1 σ H1 Q I1 q1
theorem Q8 (ha:PT X a tA):PT X (.UnaryOp .Not a pos) (Vc tA):=by
 intro pins s σ H Q I h;exact isTrue_not (ha pins s σ H (λc H1=>Q (!c) H1) I h)
def Tz (ta tb:TE):TE:=λσ H Q=>ta σ H λx H1=>∃c,x=.bl c/\if c=true then tb σ H1 Q else Q (.bl false) H1
def Vh (ta tb:TE):TE:=λσ H Q=>ta σ H λx H1=>∃c,x=.bl c/\if c=true then Q (.bl true) H1 else tb σ H1 Q
theorem Q9 (h:PE X a t):PE X (.BoolOp op [a] pos) t:=λpins s σ H Q I hw=>BoolOp_one (h pins s σ H Q I hw)
theorem QL (ha:PE X a ta)(hb:PE X (.BoolOp .And (b::rest) pos) tb):PE X (.BoolOp .And (a::b::rest) pos) (Tz ta tb):=by
 intro pins s σ H Q I h;refine BoolOp_and (thn (ha pins s σ H _ I h) λv s1 hE=>xq2 hE λx H1 I1 r1 q1=>?_);obtain ⟨c,rfl,q1⟩:=q1;cases r1;refine wpAny_truthy_bool ?_;cases c with
 |true=>exact hb pins s1 σ H1 Q I1 q1
 |false=>exact ⟨.bl false,H1,I1,rfl,q1⟩
theorem R5 (ha:PE X a ta)(hb:PE X (.BoolOp .Or (b::rest) pos) tb):PE X (.BoolOp .Or (a::b::rest) pos) (Vh ta tb):=by
 intro pins s σ H Q I h;refine BoolOp_or (thn (ha pins s σ H _ I h) λv s1 hE=>xq2 hE λx H1 I1 r1 q1=>?_);obtain ⟨c,rfl,q1⟩:=q1;cases r1;refine wpAny_truthy_bool ?_;cases c with
 |false=>exact hb pins s1 σ H1 Q I1 q1
 |true=>exact ⟨.bl true,H1,I1,rfl,q1⟩
def tIf (t:TT)(ta tb:TE):TE:=λσ H Q=>t σ H λc H1=>if c=true then ta σ H1 Q else tb σ H1 Q
theorem Iz (hc:PT X c tA)(ha:PE X a ta)(hb:PE X b tb):PE X (.IfExp c a b pos) (tIf tA ta tb):=by
 intro pins s σ H Q I h;refine wpAny_IfExp (thn (hc pins s σ H _ I h) λd s1 ⟨H1,I1,q1⟩=>?_);cases d with
 |true=>exact ha pins s1 σ H1 Q I1 q1
 |false=>exact hb pins s1 σ H1 Q I1 q1
end
def SqL (K:W.Frag)(H:Hp)(a:Addr)(xs:List V):Prop:=
 Rd H a (.lst xs) ∨
  ∃(o:Obj) (its:Array Value) (n:Nat),K.lookup a=some o/\o.cls=.type "list"/\o.dict=none/\o.data=.seq its n/\its.size<=sizeLine/\Vals xs its.toList
def SqT (K:W.Frag)(H:Hp)(a:Addr)(xs:List V):Prop:=
 Rd H a (.tup xs) ∨
  ∃(o:Obj) (its:Array Value) (n:Nat),K.lookup a=some o/\o.cls=.type "tuple"/\o.data=.seq its n/\its.size<=sizeLine/\Vals xs its.toList
abbrev KTp (K:W.Frag)(a:Addr)(xs:List V):Prop:=
  ∃(o:Obj) (its:Array Value) (n:Nat),K.lookup a=some o/\o.cls=.type "tuple"/\o.data=.seq its n/\its.size<=sizeLine/\Vals xs its.toList
def SqU (K:W.Frag)(H:Hp)(a:Addr)(xs:List V):Prop:=H a=some (.tup xs)\/KTp K a xs
theorem SqU.sq {K:W.Frag}{H:Hp}{a:Addr}{xs:List V}(h:SqU K H a xs):SqT K H a xs:=h.elim (λe=>.inl (.inl e)) .inr
theorem SqU.of {K:W.Frag}{H:Hp}{a:Addr}{xs:List V}(h:H a=some (.tup xs)):SqU K H a xs:=.inl h
def Vi:Value->Option V
 | .none=>some .non
 | .bool b=>some (.bl b)
 | .int i _=>some (.int i)
 | .str x _=>some (.str x)
 | .bytes b _=>some (.byt b)
 | .float b _=>some (.flt b)
 | .ref a=>some (.ref a)
 | .type n=>some (.ty n)
 |_=>none
theorem RelV.abs (r:RelV x u):Vi u=some x:=by
 cases x with
 |non=>cases r;rfl
 |bl _=>cases r;rfl
 |int _=>obtain ⟨t,rfl⟩:=r;rfl
 |str _=>obtain ⟨t,rfl⟩:=r;rfl
 |byt _=>obtain ⟨t,rfl⟩:=r;rfl
 |flt _=>obtain ⟨t,rfl⟩:=r;rfl
 |ref _=>cases r;rfl
 |ty _=>cases r;rfl
theorem RelV.inj (r:RelV x u)(q:RelV y u):x=y:=Option.some.inj (r.abs.symm.trans q.abs)
theorem Vals.inj:∀{xs ys:List V} {us:List Value},Vals xs us->Vals ys us->xs=ys
 |_,_,_,.nil,.nil=>rfl
 |_,_,_,.cons r t,.cons r' t'=>by rw [r.inj r',Vals.inj t t']
section
variable {X:Cx}{pins:Zo}{σ:St}{H:Hp}{s:Shared}{a:Addr}{xs ys:List V}
theorem SqL.of {K:W.Frag}(h:H a=some (.lst xs)):SqL K H a xs:=.inl (.inl h)
theorem Inv.list (I:Inv X pins σ H s)(h:SqL X.K H a xs):∃its:List Value,Vals xs its/\PlainL s.heap a its.toArray/\xs.length<=sizeLine:=by
 rcases h with h | ⟨o,its,n,hk,hc,hd,hs,hz,r⟩
 ·obtain ⟨z,its,n,r,e⟩:=h.ok I.hok;exact ⟨its,r,⟨_,n,e,rfl,rfl,rfl⟩,z⟩
 ·refine ⟨its.toList,r,⟨o,n,I.kIn a o hk,hc,hd,by simpa using hs⟩,?_⟩;have e:=r.length;simp only [Array.length_toList] at e;omega
theorem Inv.tuple (I:Inv X pins σ H s)(h:SqT X.K H a xs):∃its:List Value,Vals xs its/\IsTup s.heap a its.toArray/\xs.length<=sizeLine:=by
 rcases h with h | ⟨o,its,n,hk,hc,hs,hz,r⟩
 ·obtain ⟨z,its,r,p⟩:=h.ok I.hok;exact ⟨its,r,p,z⟩
 ·refine ⟨its.toList,r,⟨o,I.kIn a o hk,hc,n,by simpa using hs⟩,?_⟩;have e:=r.length;simp only [Array.length_toList] at e;omega
theorem Inv.yP (I:Inv X pins σ H s)(h:SqL X.K H a xs)(h':SqL X.K H a ys):xs=ys:=by
 obtain ⟨its,r,⟨o,n,e,_,_,d⟩,_⟩:=I.list h;obtain ⟨its',r',⟨o',n',e',_,_,d'⟩,_⟩:=I.list h';rw [e] at e';cases e';rw [d] at d';injection d' with d1 _
 have:its=its':=by simpa using congrArg Array.toList d1
 subst this;exact r.inj r'
theorem Inv.uV (I:Inv X pins σ H s)(h:SqT X.K H a xs)(h':SqT X.K H a ys):xs=ys:=by
 obtain ⟨its,r,⟨o,e,_,n,d⟩,_⟩:=I.tuple h;obtain ⟨its',r',⟨o',e',_,n',d'⟩,_⟩:=I.tuple h';rw [e] at e';cases e';rw [d] at d';injection d' with d1 _
 have:its=its':=by simpa using congrArg Array.toList d1
 subst this;exact r.inj r'
end
abbrev Cx.wish (X:Cx)(E:Zv):Cx:={ X with xe:=E }
abbrev Cx.nox (X:Cx):Cx:=X.wish λ_ _=>False
theorem Cx.Ok.wish {X:Cx}(ok:X.Ok)(E:Zv):(X.wish E).Ok:=
 ⟨ok.mod,ok.kind,ok.glob,ok.blt,ok.above,ok.inj,ok.has,ok.cab,ok.hd,ok.frames,ok.stk,ok.exf,ok.bs,ok.bsz,ok.noex,ok.exfs,ok.n8,ok.frf⟩
theorem Cx.Ok.wB {X:Cx}(ok:(X.wish E).Ok):X.Ok:=
 ⟨ok.mod,ok.kind,ok.glob,ok.blt,ok.above,ok.inj,ok.has,ok.cab,ok.hd,ok.frames,ok.stk,ok.exf,ok.bs,ok.bsz,ok.noex,ok.exfs,ok.n8,ok.frf⟩
section
variable {X:Cx}{pins:Zo}{σ:St}{H:Hp}{s:Shared}{E:Zv}
theorem Inv.wish (I:Inv X pins σ H s)(E:Zv):Inv (X.wish E) pins σ H s:=⟨I.ok.wish E,I.os,I.bare,I.base,I.loc,I.cell,I.free,I.freeC,I.pin,I.hok,I.len⟩
theorem Inv.wB (I:Inv (X.wish E) pins σ H s):Inv X pins σ H s:=⟨I.ok.wB,I.os,I.bare,I.base,I.loc,I.cell,I.free,I.freeC,I.pin,I.hok,I.len⟩
end
section
variable {X:Cx}{st:Stmt}{rest:List Stmt}{t u:TS}{e:Expr}{te:TE}{pos:Pos}
def Sw:TS:=λD σ H=>D.nx σ H
def S9 (t u:TS):TS:=λD σ H=>t { D with nx:=u D } σ H
theorem Mh:PSs X [] Sw:=λ_ _ σ H _ I h=>wpAny_execs_nil ⟨σ,H,I,h⟩
theorem Hz (h1:PS X st t)(h2:PSs X rest u):PSs X (st::rest) (S9 t u):=by
 intro pins s σ H D I h;refine wpAny_execs_cons (thn (h1 pins s σ H { D with nx:=u D } I h) λf s1 q=>?_);cases f with
 |next=>
  obtain ⟨σ',H',I',q⟩:=q;exact h2 pins s1 σ' H' D I' q
 |ret v=>exact q
 |brk=>exact q
 |cont=>exact q
theorem Nh (h1:PS X st t):PSs X [st] t:=by
 intro pins s σ H D I h;refine wpAny_execs_cons (thn (h1 pins s σ H D I h) λf s1 q=>?_);cases f with
 |next=>exact wpAny_execs_nil q
 |ret v=>exact q
 |brk=>exact q
 |cont=>exact q
theorem Inv.quiet (I:Inv X pins σ H s):interactive X.env=false:=by simp [interactive,I.ok.kind]
def TV (te:TE):TS:=λD σ H=>te σ H λ_ H1=>D.nx σ H1
theorem pq (he:PE X e te)(hs:swapsWith e none pos.line X.env=pure false:=by rfl):PS X (.Expr e pos) (TV te):=by
 intro pins s σ H D I h;exact wpAny_Expr_any (thn (he pins s σ H _ I h) λv s1 hE=>xq2 hE λx H1 I1 r1 q1=>⟨σ,H1,I1,q1⟩) I.quiet hs
def Vw (te:TE):TS:=λD σ H=>te σ H D.rt
theorem yZ (he:PE X e te):PS X (.Return (some e) pos) (Vw te):=by
 intro pins s σ H D I h;exact wpAny_Return_some (thn (he pins s σ H _ I h) λv s1 hE=>xq2 hE λx H1 I1 r1 q1=>⟨x,σ,H1,I1,r1,q1⟩)
def Vd (c:TT)(t u:TS):TS:=λD σ H=>c σ H λb H1=>if b=true then t D σ H1 else u D σ H1
theorem Tp (hc:PT X c tc)(ha:PSs X a t)(hb:PSs X b u):PS X (.If c a b pos) (Vd tc t u):=by
 intro pins s σ H D I h;refine wpAny_If (thn (hc pins s σ H _ I h) λd s1 ⟨H1,I1,q1⟩=>?_);cases d with
 |true=>exact ha pins s1 σ H1 D I1 q1
 |false=>exact hb pins s1 σ H1 D I1 q1
end
abbrev TG:=V->St->Hp->(St->Hp->Prop)->Prop
abbrev TGs:=List V->St->Hp->(St->Hp->Prop)->Prop
def PG (X:Cx)(target:Expr)(t:TG):Prop:=
 ∀(pins:Zo) (s:Shared) (σ:St) (H:Hp) (v:V) (u:Value) (Q:St->Hp->Prop),Inv X pins σ H s->RelV v u->t v σ H Q->
  wpAny (model X.prog X.w) X.A (assign target X.env u) (λ_ s'=>∃σ' H',Inv X pins σ' H' s'/\Q σ' H') X.xe s
def PGs (X:Cx)(ts:List Expr)(t:TGs):Prop:=
 ∀(pins:Zo) (s:Shared) (σ:St) (H:Hp) (vs:List V) (us:List Value) (Q:St->Hp->Prop),Inv X pins σ H s->Vals vs us->t vs σ H Q->
  wpAny (model X.prog X.w) X.A (assignInOrder ((assignEach ts X.env).map (·.2)) us) (λ_ s'=>∃σ' H',Inv X pins σ' H' s'/\Q σ' H') X.xe s
abbrev Ua:=V->V->V->Hp->(Hp->Prop)->Prop
def T5 (X:Cx)(t:Ua):Prop:=
 ∀(pins:Zo) (s:Shared) (σ:St) (H:Hp) (o i v:V) (ov iv u:Value) (Q:Hp->Prop),Inv X pins σ H s->RelV o ov->RelV i iv->RelV v u->t o i v H Q->
  wpAny (model X.prog X.w) X.A (setItem ov iv u) (λ_ s'=>∃H',Inv X pins σ H' s'/\Q H') X.xe s
section
def sO (i:Nat):TG:=λv σ H Q=>Q (σ.set i (some v)) H
theorem M5 (hN:X.N.Nodup)(hi:X.N[i]? = some x)(hx:Loc X.env.scope x)(hf:X.fn x=true\/X.env.scope.names.lookup x=some .local:=by first | exact .inl rfl | exact .inr rfl | assumption):PG X (.Name x pos) (sO i):=by
 intro pins s σ H v u Q I r h;exact wpAny_assign_Name (um I hN hi hx r (λs' I'=>⟨_,H,I',h⟩) hf)
def Vx:TGs:=λvs σ H Q=>vs=[]/\Q σ H
def SM (t:TG)(u:TGs):TGs:=λvs σ H Q=>∃v r,vs=v::r/\t v σ H λσ' H'=>u r σ' H' Q
theorem Np:PGs X [] Vx:=by
 intro pins s σ H vs us Q I r h;obtain ⟨e,h⟩:=h;subst e;cases r;exact assignInOrder_nil ⟨σ,H,I,h⟩
theorem Ig (h1:PG X e t)(h2:PGs X es u)
  (hs:(assignEach (e::es) X.env).map (·.2)=assign e X.env::(assignEach es X.env).map (·.2):=by rfl):PGs X (e::es) (SM t u):=by
 intro pins s σ H vs us Q I r h;obtain ⟨v,vr,e1,h⟩:=h;subst e1;cases r with
 |cons r rr=>
  rw [hs];refine assignInOrder_cons (thn (h1 pins s σ H _ _ _ I r h) λ_ s1 ⟨σ1,H1,I1,q1⟩=>?_);exact h2 pins s1 σ1 H1 _ _ Q I1 rr q1
def Vn (K:W.Frag)(n:Nat)(t:TGs):TG:=λv σ H Q=>∃a xs,v=.ref a/\SqT K H a xs/\xs.length=n/\t xs σ H Q
theorem QK (hc:X.calm=true)(h:PGs X es t)
  (hn:(assignEach es X.env).length=n:=by rfl) (hst:(assignEach es X.env).findIdx? (·.1)=none:=by rfl):PG X (.Tuple es k pos) (Vn X.K n t):=by
 intro pins s σ H v u Q I r hw;obtain ⟨a,xs,e1,hq,hl,hw⟩:=hw;subst e1;cases r;obtain ⟨its,rv,ht,hz⟩:=I.tuple hq;refine assign_Tuple_tuple (I.ok.hd hc) ht (by simp [hn,← hl,rv.length]) hst λh' hx=>?_;have I1:Inv X pins σ H { s with heap:=h' }:=I.kept (t':=s.toks) λb o e=>hx b o (Nat.ne_of_lt (Heap.lt_size e)) e;exact h pins _ σ H xs _ Q I1 (by simpa using rv) hw
def o8 (to ti:TE)(t:Ua):TG:=λv σ H Q=>to σ H λo H1=>ti σ H1 λi H2=>t o i v H2 λH3=>Q σ H3
theorem PX (ho:PE X o to)(hi:PE X i ti)(hs:T5 X t)
  (ha:∀v,assign (.Subscript o i pos) X.env v=(do
   let ov ← holding [v] (eval o X.env)
   let iv ← holding [v,ov] (eval i X.env)
   standAt pos
   holding [v,ov,iv] (setItem ov iv v)
   release [v,ov,iv] []):=by intro _;rfl):PG X (.Subscript o i pos) (o8 to ti t):=by
 intro pins s σ H v u Q I r h;rw [ha];refine wpAny_bind (wpAny_holding (thn (ho pins s σ H _ I h) λov s1 hE=>xq2 hE λx H1 I1 r1 q1=>?_));refine wpAny_bind (wpAny_holding (thn (hi pins s1 σ H1 _ I1 q1) λiv s2 hE=>xq2 hE λy H2 I2 r2 q2=>?_));refine wpAny_bind (wpAny_standAt (wpAny_bind (wpAny_holding (thn (hs pins s2 σ H2 x y v ov iv u _ I2 r1 r2 r q2) λ_ s3 ⟨H3,I3,q3⟩=>?_))));exact wpAny_release ⟨σ,H3,I3,q3⟩
def Hh (te:TE)(g:TG):TS:=λD σ H=>te σ H λx H1=>g x σ H1 D.nx
theorem J4 (he:PE X e te)(hg:PG X tg g)(hs:swapsWithSole [tg] e pos.line X.env=pure false:=by rfl)(hw:swappedStores [tg] e X.env=pure none:=by rfl)
  (h1:(assignEach [tg] X.env).map (·.2)=[assign tg X.env]:=by rfl):PS X (.Assign [tg] e pos) (Hh te g):=by
 intro pins s σ H D I h;refine wpAny_Assign_stores (thn (he pins s σ H _ I h) λv s1 hE=>xq2 hE λx H1 I1 r1 q1=>?_) hs hw;rw [h1];exact thn (hg pins s1 σ H1 x v _ I1 r1 q1) λ_ s2 q=>q
theorem wM (hN:X.N.Nodup)(hi:X.N[i]? = some x)(hx:Loc X.env.scope x)(he:PE X e te)(hs:swapsWith e (some (.Name x pos')) pos.line X.env=pure false:=by rfl)(hf:X.fn x=true\/X.env.scope.names.lookup x=some .local:=by first | exact .inl rfl | exact .inr rfl | assumption):
  PS X (.Assign [.Name x pos'] e pos) (Hh te (sO i)):=by
 intro pins s σ H D I h;refine wpAny_Assign_Name (thn (he pins s σ H _ I h) λv s1 hE=>xq2 hE λy H1 I1 r1 q1=>?_) hs;exact um I1 hN hi hx r1 (λs2 I2=>⟨_,H1,I2,q1⟩) hf
end
section
def Rh (c:TT)(tb:TS):TS:=λD σ H=>∃W:Nat->St->Hp->Prop,(∃m,W m σ H)/\∀m σ H,W m σ H->
 c σ H λb H1=>if b=true then ∃N:St->Hp->Prop,(∀σ' H',N σ' H'->∃m',m'<m/\W m' σ' H')/\tb { D with nx:=N,ct:=N,bk:=D.nx } σ H1 else D.nx σ H1
theorem Jq (hp:PassesOwn (model X.prog X.w) X.A X.env X.xe)(hc:PT X c tc)(hb:PSs X body tb):PS X (.While c body [] pos) (Rh tc tb):=by
 intro pins s σ H D I h;obtain ⟨W,⟨m0,w0⟩,turn⟩:=h;refine wpAny_While (codeAny_whileLoop (λn s'=>∃σ' H',Inv X pins σ' H' s'/\W n σ' H') ?_ m0 ⟨σ,H,I,w0⟩);rintro n s1 ⟨σ1,H1,I1,w1⟩;refine wpAny_passesOwn hp (thn (hc pins s1 σ1 H1 _ I1 (turn n σ1 H1 w1)) λb s2 ⟨H2,I2,q2⟩=>?_);cases b with
 |true=>
  obtain ⟨N,hN,q2⟩:=q2;rw [if_pos rfl];refine wpAny_passesOwn hp (thn (hb pins s2 σ1 H2 _ I2 q2) λf s3 q3=>?_);cases f with
  |next=>
   obtain ⟨σ3,H3,I3,n3⟩:=q3;obtain ⟨m',hm,w3⟩:=hN σ3 H3 n3;exact ⟨m',hm,σ3,H3,I3,w3⟩
  |cont=>
   obtain ⟨σ3,H3,I3,n3⟩:=q3;obtain ⟨m',hm,w3⟩:=hN σ3 H3 n3;exact ⟨m',hm,σ3,H3,I3,w3⟩
  |brk=>exact q3
  |ret v=>exact q3
 |false=>
  rw [if_neg Bool.false_ne_true];exact wpAny_execs_nil ⟨σ1,H2,I2,q2⟩
end
structure It where
 go:Nat->Hp->Prop
 yld:Nat->Hp->V->Hp->Prop
 stop:Nat->Hp->Prop
def o4 (X:Cx)(pins:Zo)(H:Hp)(b:Addr):Prop:=
 H b=none/\b≠X.env.locals/\b∉X.fs/\(b∈X.ex\/X.s₀.heap.objs.size<=b)/\(∀x c,X.env.cells.lookup x=some c->c≠b)/\∀p∈X.pn++pins,p.1≠b
theorem Inv.FJ (I:Inv X pins σ H s)(hb:s.heap.objs.size<=b)(hn:H' b=none):o4 X pins H' b:=by
 refine ⟨hn,Nat.ne_of_gt (Nat.lt_of_lt_of_le I.lt hb),I.VN hb,.inr (Nat.le_trans I.sz hb),λx c e z=>?_,λp hp z=>?_⟩
 ·obtain ⟨v,q⟩:=I.cell x c e;exact absurd (Nat.lt_of_lt_of_le q.lt (by rw [z];exact hb)) (Nat.lt_irrefl _)
 ·exact absurd (Nat.lt_of_lt_of_le (Heap.lt_size (I.pin p hp).1) (by rw [z];exact hb)) (Nat.lt_irrefl _)
structure Turn (P:Program)(w:World)(K:W.Frag)(tg:Expr)(J:It)(fp:List Addr)(it:Addr)(tn:Nat->Heap->Prop):Prop where
 mem:it∈fp
 obj:∀i h,tn i h->∀b∈fp,∃o,h.get? b=some o/\∀v,o.data≠.cell v
 keep:∀i h h',tn i h->(∀b∈fp,∀o,h.get? b=some o->h'.get? b=some o)->tn i h'
 item:∀(X:Cx),X.prog=P->X.w=w->X.K=K->X.calm=true->∀(i:Nat) (pins:Zo) (s:Shared) (σ:St) (H:Hp) (E:Zv),Inv X pins σ H s->(∀b∈fp,o4 X pins H b)->tn i s.heap->J.go i H->
  wpAny (model P w) X.A (pyNext (.ref it)) (λr s1=>∃u,r=some u/\
   wpAny (model P w) X.A (letOwnedTupleGo tg (.ref it) u) (λ_ s2=>∃x H',Inv X pins σ H' s2/\RelV x u/\J.yld i H x H'/\tn (i+1) s2.heap/\∀b∈fp,H' b=none) E s1) E s
 done:∀(X:Cx),X.prog=P->X.w=w->X.K=K->X.calm=true->∀(i:Nat) (pins:Zo) (s:Shared) (σ:St) (H:Hp) (E:Zv),Inv X pins σ H s->(∀b∈fp,o4 X pins H b)->tn i s.heap->J.stop i H->
  wpAny (model P w) X.A (pyNext (.ref it)) (λr s1=>r=none/\Inv X pins σ H s1) E s
 self:∀(A:Around) (i:Nat) (s:Shared) (Q:Zv) (E:Zv),tn i s.heap->Q (.ref it) s->wpAny (model P w) A (pyIter (.ref it)) Q E s
abbrev TI:=St->Hp->(It->Hp->Prop)->Prop
def PIE (X:Cx)(pins:Zo)(σ:St)(tg:Expr)(R:It->Hp->Prop)(itv:Value)(s2:Shared):Prop:=
 ∃(it:Addr) (fp:List Addr) (tn:Nat->Heap->Prop) (J:It) (H':Hp),itv=.ref it/\Inv X pins σ H' s2/\Turn X.prog X.w X.K tg J fp it tn/\tn 0 s2.heap/\(∀b∈fp,o4 X pins H' b)/\R J H'
def PI (X:Cx)(tg iter:Expr)(wi:TI):Prop:=
 ∀(pins:Zo) (s:Shared) (σ:St) (H:Hp) (R:It->Hp->Prop),Inv X pins σ H s->wi σ H R->
  wpAny (model X.prog X.w) X.A (eval iter X.env) (λv s1=>wpAny (model X.prog X.w) X.A (pyIter v) (PIE X pins σ tg R) X.xe s1) X.xe s
theorem Ib (ho : s.heap.get? it = some o) (hc : o.cls = .type n) (hd : o.data = .fields vs)
    (hn : ["enumerate", "zip", "dict_itemiterator", "dict_reverseitemiterator", "odict_iterator", "itertools.zip_longest", "itertools.pairwise"].contains n = false) (hQ : Q () s) : wpAny M A (letOwnedTupleGo tg (.ref it) u) Q E s := by
  unfold letOwnedTupleGo;cases tg<;>first
    | exact wpAny_pure hQ
    | (cases u<;>first
        | exact wpAny_pure hQ
        | (refine wpAny_bind (wpAny_load ho ?_)
           rw [hc, hd];show wpAny M A (if (["enumerate", "zip", "dict_itemiterator", "dict_reverseitemiterator", "odict_iterator", "itertools.zip_longest", "itertools.pairwise"].contains n && vs[0]? == some (rawInt _)) = true then _ else _) Q E s;rw [if_neg (by intro h;rw [hn, Bool.false_and] at h;cases h)];exact wpAny_pure hQ))
def Itl (K:W.Frag)(a:Addr):It:=
 ⟨λi H=>∃xs x,SqL K H a xs/\xs[i]? = some x,λi H x H'=>H'=H/\∀xs,SqL K H a xs->xs[i]? = some x,λi H=>∃xs,SqL K H a xs/\xs.length<=i⟩
def Itt (K:W.Frag)(a:Addr):It:=
 ⟨λi H=>∃xs x,SqT K H a xs/\xs[i]? = some x,λi H x H'=>H'=H/\∀xs,SqT K H a xs->xs[i]? = some x,λi H=>∃xs,SqT K H a xs/\xs.length<=i⟩
def Itr (lo:Int)(n:Nat):It:=⟨λi _=>i<n,λi H x H'=>H'=H/\x=.int (lo+i),λi _=>n<=i⟩
theorem FP {P:Program}{w:World}{K:W.Frag}{tg:Expr}(a it:Addr):Turn P w K tg (Itl K a) [it] it (λi h=>h.IsListIter it a i) where
 mem:=by simp
 obj:=λi h st b hb=>by
  have e:b=it:=by simpa using hb
  subst e;obtain ⟨o,e,c,d⟩:=st;exact ⟨o,e,λv z=>by rw [d] at z;cases z⟩
 keep:=λi h h' st k=>st.at λo e=>k it (by simp) o e
 item:=by
  intro X hP hw hK hc i pins s σ H E I hf st hg;subst hP hw hK;obtain ⟨xs,x,hq,hx⟩:=hg;obtain ⟨its,rv,p,hz⟩:=I.list hq;obtain ⟨u,hu,ru⟩:=rv.get hx;obtain ⟨f0,f1,f2,f3,f4,f5⟩:=hf it (by simp);refine wpAny_pyNext_list_item st p.isList (x:=u) (by simpa using hu) λh' st' sb=>?_;have I1:Inv X pins σ H { s with heap:=h' }:=I.turned (t':=s.toks) (λb o hb e=>(sb.2 b hb).trans e) f0 f1 f3 f4 f5;obtain ⟨o,e,c,d⟩:=id st';exact ⟨u,rfl,Ib (s:={ s with heap:=h' }) e c d (by decide) ⟨x,H,I1,ru,⟨rfl,λys hy=>by rw [I.yP hy hq];exact hx⟩,st',λb hb=>(hf b hb).1⟩⟩
 done:=by
  intro X hP hw hK hc i pins s σ H E I hf st hg;subst hP hw hK;obtain ⟨xs,hq,hx⟩:=hg;obtain ⟨its,rv,p,hz⟩:=I.list hq;obtain ⟨f0,f1,f2,f3,f4,f5⟩:=hf it (by simp);have hl:=rv.length;exact wpAny_pyNext_list_end (I.ok.hd hc) st p.isList (by simp;omega) λh' eb=>⟨rfl,I.turned (t':=s.toks) (λb o hb e=>eb b o hb e) f0 f1 f3 f4 f5⟩
 self:=λ_ _ _ _ _ st h=>wpAny_pyIter_listiter st h
theorem zP {P:Program}{w:World}{K:W.Frag}{tg:Expr}(a it:Addr):Turn P w K tg (Itt K a) [it] it (λi h=>h.IsTupleIter it a i) where
 mem:=by simp
 obj:=λi h st b hb=>by
  have e:b=it:=by simpa using hb
  subst e;obtain ⟨o,e,c,d⟩:=st;exact ⟨o,e,λv z=>by rw [d] at z;cases z⟩
 keep:=λi h h' st k=>st.at λo e=>k it (by simp) o e
 item:=by
  intro X hP hw hK hc i pins s σ H E I hf st hg;subst hP hw hK;obtain ⟨xs,x,hq,hx⟩:=hg;obtain ⟨its,rv,p,hz⟩:=I.tuple hq;obtain ⟨u,hu,ru⟩:=rv.get hx;obtain ⟨f0,f1,f2,f3,f4,f5⟩:=hf it (by simp);refine wpAny_pyNext_tuple_item st (show s.heap.IsTuple a its.toArray from p) (x:=u) (by simpa using hu) λh' st' sb=>?_;have I1:Inv X pins σ H { s with heap:=h' }:=I.turned (t':=s.toks) (λb o hb e=>(sb.2 b hb).trans e) f0 f1 f3 f4 f5;obtain ⟨o,e,c,d⟩:=id st';exact ⟨u,rfl,Ib (s:={ s with heap:=h' }) e c d (by decide) ⟨x,H,I1,ru,⟨rfl,λys hy=>by rw [I.uV hy hq];exact hx⟩,st',λb hb=>(hf b hb).1⟩⟩
 done:=by
  intro X hP hw hK hc i pins s σ H E I hf st hg;subst hP hw hK;obtain ⟨xs,hq,hx⟩:=hg;obtain ⟨its,rv,p,hz⟩:=I.tuple hq;obtain ⟨f0,f1,f2,f3,f4,f5⟩:=hf it (by simp);have hl:=rv.length;exact wpAny_pyNext_tuple_end (I.ok.hd hc) st (show s.heap.IsTuple a its.toArray from p) (by simp;omega) λh' eb=>⟨rfl,I.turned (t':=s.toks) (λb o hb e=>eb b o hb e) f0 f1 f3 f4 f5⟩
 self:=λ_ _ _ _ _ st h=>wpAny_pyIter_tupleiter st h
theorem Ah {P:Program}{w:World}{K:PySem.W.Frag}{tg:Expr}(it:Addr)(lo:Int)(n:Nat):Turn P w K tg (Itr lo n) [it] it (λi h=>IsRangeIter h it (lo+(i:Nat)*1) ((n:Int)-(i:Nat)) 1) where
 mem:=by simp
 obj:=λi h st b hb=>by
  have e:b=it:=by simpa using hb
  subst e;exact ⟨_,st,λv z=>by
   have z':Data.fields _=Data.cell v:=z;cases z'⟩
 keep:=λi h h' st k=>k it (by simp) _ st
 item:=by
  intro X hP hw hK hc i pins s σ H E I hf st hg;subst hP hw hK;obtain ⟨f0,f1,f2,f3,f4,f5⟩:=hf it (by simp);have W:=Walks.range (prog:=X.prog) (w:=X.w) (I.ok.hd hc) it lo 1 n;refine W.item i s _ _ hg st λv h' tk hv st' kk=>?_;obtain ⟨t,rfl⟩:=hv;have I1:Inv X pins σ H { s with heap:=h',toks:=tk }:=I.turned (λb o hb e=>kk b o (by simpa using hb) e) f0 f1 f3 f4 f5;refine ⟨_,rfl,Ib (s:={ s with heap:=h',toks:=tk }) (n:="range_iterator") st' rfl rfl (by decide) ⟨.int (lo+i),H,I1,⟨t,?_⟩,⟨rfl,rfl⟩,st',λb hb=>(hf b hb).1⟩⟩;rw [Int.mul_one]
 done:=by
  intro X hP hw hK hc i pins s σ H E I hf st hg;subst hP hw hK;obtain ⟨f0,f1,f2,f3,f4,f5⟩:=hf it (by simp);exact wpAny_pyNext_range_end (I.ok.hd hc) st (by have:n<=i:=hg;omega) λh' eb=>⟨rfl,I.turned (t':=s.toks) (λb o hb e=>eb b o hb e) f0 f1 f3 f4 f5⟩
 self:=λ_ _ _ _ _ st h=>wpAny_pyIter_rangeiter st h
section
variable {X:Cx}{tg:Expr}
def Sy (K:W.Frag)(tl:TE):TI:=λσ H R=>tl σ H λx H1=>∃a,x=.ref a/\(∃xs,SqL K H1 a xs)/\R (Itl K a) H1
def Vk (K:W.Frag)(tl:TE):TI:=λσ H R=>tl σ H λx H1=>∃a,x=.ref a/\(∃xs,SqT K H1 a xs)/\R (Itt K a) H1
theorem CN {l:Expr}{tl:TE}(hl:PE X l tl):PI X tg l (Sy X.K tl):=by
 intro pins s σ H R I h;refine thn (hl pins s σ H _ I h) λv s1 hE=>xq2 hE λx H1 I1 r1 q1=>?_;obtain ⟨a,e,⟨xs,hq⟩,q⟩:=q1;subst e;cases r1;obtain ⟨its,rv,p,hz⟩:=I1.list hq;refine wpAny_pyIter_list p.isList ?_;refine ⟨s1.heap.objs.size,[s1.heap.objs.size],_,_,H1,rfl,I1.kept (t':=s1.toks) λb o e=>Heap.get?_push_of_some _ e,FP a _,⟨_,Heap.get?_push_size _ rfl,rfl,rfl⟩,λb hb=>?_,q⟩;have e:b=s1.heap.objs.size:=by simpa using hb
 subst e;exact I1.FJ (Nat.le_refl _) (I1.hok.fresh (Nat.le_refl _))
theorem Ri {l:Expr}{tl:TE}(hl:PE X l tl):PI X tg l (Vk X.K tl):=by
 intro pins s σ H R I h;refine thn (hl pins s σ H _ I h) λv s1 hE=>xq2 hE λx H1 I1 r1 q1=>?_;obtain ⟨a,e,⟨xs,hq⟩,q⟩:=q1;subst e;cases r1;obtain ⟨its,rv,p,hz⟩:=I1.tuple hq;refine wpAny_pyIter_tuple (show s1.heap.IsTuple a its.toArray from p) ?_;refine ⟨s1.heap.objs.size,[s1.heap.objs.size],_,_,H1,rfl,I1.kept (t':=s1.toks) λb o e=>Heap.get?_push_of_some _ e,zP a _,⟨_,Heap.get?_push_size _ rfl,rfl,rfl⟩,λb hb=>?_,q⟩;have e:b=s1.heap.objs.size:=by simpa using hb
 subst e;exact I1.FJ (Nat.le_refl _) (I1.hok.fresh (Nat.le_refl _))
theorem GQ {pins:Zo}{σ:St}{H:Hp}{s:Shared}{R:It->Hp->Prop}{E:Zv}{lo hi:Int}{t u v:Tok}{tk:Nat}(I:Inv X pins σ H s)(h1:-(2 ^ 62)<=lo)(h2:lo<2 ^ 62)(h3:-(2 ^ 62)<=hi)(h4:hi<2 ^ 62)
  (q:R (Itr lo (hi-lo).toNat) H):wpAny (model X.prog X.w) X.A (pyIter (.ref s.heap.objs.size)) (PIE X pins σ tg R) E { s with heap:=s.heap.push { cls:=.type "range",data:=.fields #[.int lo t,.int hi u,.int 1 v] },toks:=tk }:=by
 refine wpAny_pyIter_range (IsRange.new ..) (small_one h1 h2 h3 h4) ?_;have I1:Inv X pins σ H { s with heap:=s.heap.push { cls:=.type "range",data:=.fields #[.int lo t,.int hi u,.int 1 v] },toks:=tk }:=I.kept λb o e=>Heap.get?_push_of_some _ e;refine ⟨(s.heap.push { cls:=.type "range",data:=.fields #[.int lo t,.int hi u,.int 1 v] }).objs.size,[(s.heap.push { cls:=.type "range",data:=.fields #[.int lo t,.int hi u,.int 1 v] }).objs.size],_,_,H,rfl,
  I1.kept (t':=tk) λb o e=>Heap.get?_push_of_some _ e,Ah _ lo (hi-lo).toNat,?_,λb hb=>?_,q⟩
 ·have e1:lo+((0:Nat):Int)*1=lo:=by simp
  have e2:(((hi-lo).toNat:Nat):Int)-((0:Nat):Int)=Builtin.Range.rangeSize lo hi 1:=by rw [rangeSize_one];split<;>omega
  show IsRangeIter _ _ (lo+((0:Nat):Int)*1) ((((hi-lo).toNat:Nat):Int)-((0:Nat):Int)) 1;rw [e1,e2];exact Heap.get?_push_size _ rfl
 ·have e:b=(s.heap.push { cls:=.type "range",data:=.fields #[.int lo t,.int hi u,.int 1 v] }).objs.size:=by simpa using hb
  subst e;exact I1.FJ (Nat.le_refl _) (I1.hok.fresh (Nat.le_refl _))
def S5 (ta:TA):TI:=λσ H R=>ta σ H λvs H1=>∃j:Int,vs=[.int j]/\-(2 ^ 62)<=j/\j<2 ^ 62/\R (Itr 0 j.toNat) H1
theorem DQ (hg:Gl X "range")(hm:X.mg "range" = none)(ha:PA X [a] ta)(hs:starEach [a] X.env=[(false,eval a X.env)]:=by rfl):PI X tg (.Call (.Name "range" p) [a] [] pos) (S5 ta):=by
 intro pins s σ H R I h;refine Call_ (mK I hg hm boot_range (PyProof.Rows.callWith_type1 (thn (ha pos pins s σ H _ I h) λus s1 hE=>xq2 hE λvs H1 I1 r1 q1=>?_) hs rfl));obtain ⟨j,e,q1,q2,q⟩:=q1;subst e;cases r1 with
 |cons r rr=>
  cases rr;obtain ⟨t,rfl⟩:=r;exact call_range_1 (GQ I1 (by omega) (by omega) q1 q2 (by simpa using q))
def Vq (wi:TI)(g:TG)(tb:TS):TS:=λD σ H=>wi σ H λJ H1=>∃W:Nat->Nat->St->Hp->Prop,(∃m,W 0 m σ H1)/\∀i m σ H,W i m σ H->
 (J.stop i H/\D.nx σ H)\/(J.go i H/\∃N:St->Hp->Prop,(∀σ' H',N σ' H'->∃m',m'<m/\W (i+1) m' σ' H')/\∀x H',J.yld i H x H'->g x σ H' λσ2 H2=>tb { D with nx:=N,ct:=N,bk:=D.nx } σ2 H2)
def nT (fp:List Addr)(h:Heap):Zo:=fp.filterMap λb=>(h.get? b).map λo=>(b,o)
theorem lC (hb:b∈fp)(e:h.get? b=some o):(b,o)∈nT fp h:=List.mem_filterMap.mpr ⟨b,hb,by rw [e];rfl⟩
theorem Fq (hp:p∈nT fp h):p.1∈fp/\h.get? p.1=some p.2:=by
 obtain ⟨b,hb,e⟩:=List.mem_filterMap.mp hp;cases q:h.get? b with
 |none=>rw [q] at e;cases e
 |some o=>
  rw [q] at e;have e':(b,o)=p:=Option.some.inj e;subst e';exact ⟨hb,q⟩
theorem Inv.pinned (I:Inv X pins σ H s)(hf:∀b∈fp,o4 X pins H b)(ho:∀b∈fp,∃o,s.heap.get? b=some o/\∀v,o.data≠.cell v):Inv X (pins++nT fp s.heap) σ H s:=
 I.Ck λp hp=>(List.mem_append.mp hp).elim (λz=>I.pin p (List.mem_append_right _ z)) λz=>by
  obtain ⟨hb,e⟩:=Fq z;obtain ⟨f0,f1,f2,_⟩:=hf p.1 hb;obtain ⟨o,e',d⟩:=ho p.1 hb;rw [e] at e';cases e';exact ⟨e,f0,f1,f2,d⟩
theorem Inv.oU (I:Inv X (pins++pl) σ H s):Inv X pins σ H s:=I.Ck λp hp=>I.pin p (List.mem_append_right _ (List.mem_append_left _ hp))
theorem Pa (hp:PassesOwn (model X.prog X.w) X.A X.env X.xe)(hc:X.calm=true)(hi:PI X tg iter wi)(hg:PG X tg g)(hb:PSs X body tb)
  (hs:∀x,foldedSetIterable iter X.env x=pure x:=by intro _;rfl):PS X (.For tg iter body [] pos) (Vq wi g tb):=by
 intro pins s σ H D I h;refine wpAny_For (thn (hi pins s σ H _ I h) λv s1 h1=>thn h1 λitv s2 h2=>?_) hs;obtain ⟨it,fp,tn,J,H2,e,I2,T,st2,f2,W,⟨m0,w0⟩,turn⟩:=h2;subst e;have stat:∀{H':Hp},(∀b∈fp,H' b=none)->∀b∈fp,o4 X pins H' b:=λhn b hb=>⟨hn b hb,(f2 b hb).2⟩;refine codeAny_forLoop_any (λn s'=>∃i σ' H',Inv X pins σ' H' s'/\tn i s'.heap/\(∀b∈fp,H' b=none)/\W i n σ' H') ?_ m0 ⟨0,σ,H2,I2,st2,λb hb=>(f2 b hb).1,w0⟩;rintro n s3 ⟨i,σ3,H3,I3,st3,fr3,w3⟩;rcases turn i n σ3 H3 w3 with ⟨stop,qn⟩ | ⟨go,N,hN,step⟩
 ·refine wpAny_passesOwn hp (thn (T.done X rfl rfl rfl hc i pins s3 σ3 H3 X.xe I3 (stat fr3) st3 stop) λr s4 ⟨hr,I4⟩=>?_);subst hr;exact wpAny_execs_nil ⟨σ3,H3,I4,qn⟩
 ·refine wpAny_passesOwn hp (thn (T.item X rfl rfl rfl hc i pins s3 σ3 H3 X.xe I3 (stat fr3) st3 go) λr s4 ⟨u,hr,h4⟩=>?_);subst hr;refine wpAny_passesOwn hp (thn h4 λ_ s5 ⟨x,H5,I5,r5,y5,st5,fr5⟩=>?_);have I5':=I5.pinned (stat fr5) (T.obj _ _ st5);refine wpAny_passesOwn hp (thn (hg _ s5 σ3 H5 x u _ I5' r5 (step x H5 y5)) λ_ s6 ⟨σ6,H6,I6,q6⟩=>?_);refine wpAny_passesOwn hp (thn (hb _ s6 σ6 H6 _ I6 q6) λf s7 q7=>?_);have again:∀{σ7:St} {H7:Hp},Inv X (pins++nT fp s5.heap) σ7 H7 s7->N σ7 H7->∃m,m<n/\∃i σ' H',Inv X pins σ' H' s7/\tn i s7.heap/\(∀b∈fp,H' b=none)/\W i m σ' H':=λ{σ7 H7} I7 n7=>by
   obtain ⟨m',hm,w7⟩:=hN σ7 H7 n7;refine ⟨m',hm,i+1,σ7,H7,I7.oU,T.keep _ _ _ st5 λb hb o e=>(I7.pin (b,o) (List.mem_append_right _ (List.mem_append_right _ (lC hb e)))).1,λb hb=>?_,w7⟩;obtain ⟨o,e,d⟩:=T.obj _ _ st5 b hb;exact (I7.pin (b,o) (List.mem_append_right _ (List.mem_append_right _ (lC hb e)))).2.1
  cases f with
  |next=>obtain ⟨σ7,H7,I7,n7⟩:=q7;exact again I7 n7
  |cont=>obtain ⟨σ7,H7,I7,n7⟩:=q7;exact again I7 n7
  |brk=>obtain ⟨σ7,H7,I7,q7⟩:=q7;exact ⟨σ7,H7,I7.oU,q7⟩
  |ret v=>obtain ⟨x7,σ7,H7,I7,r7,q7⟩:=q7;exact ⟨x7,σ7,H7,I7.oU,r7,q7⟩
end
abbrev R2:=V->V->Hp->VK->Prop
def OpR (X:Cx)(f:Value->Value->Sem Value)(r:R2):Prop:=
 ∀(pins:Zo) (s:Shared) (σ:St) (H:Hp) (x y:V) (v u:Value) (Q:VK),Inv X pins σ H s->RelV x v->RelV y u->r x y H Q->
  wpAny (model X.prog X.w) X.A (f v u) (EP X pins σ Q) X.xe s
def UnR (X:Cx)(f:Value->Sem Value)(r:V->Hp->VK->Prop):Prop:=
 ∀(pins:Zo) (s:Shared) (σ:St) (H:Hp) (x:V) (v:Value) (Q:VK),Inv X pins σ H s->RelV x v->r x H Q->
  wpAny (model X.prog X.w) X.A (f v) (EP X pins σ Q) X.xe s
def fB (X:Cx)(f:Value)(r:List V->Hp->VK->Prop):Prop:=
 ∀(pins:Zo) (s:Shared) (σ:St) (H:Hp) (xs:List V) (us:List Value) (Q:VK),Inv X pins σ H s->Vals xs us->r xs H Q->
  wpAny (model X.prog X.w) X.A (call f us) (EP X pins σ Q) X.xe s
def tOp (r:R2)(ta tb:TE):TE:=λσ H Q=>ta σ H λx H1=>tb σ H1 λy H2=>r x y H2 Q
def tUn (r:V->Hp->VK->Prop)(ta:TE):TE:=λσ H Q=>ta σ H λx H1=>r x H1 Q
def rI (C:Int->Int->Prop)(g:Int->Int->V):R2:=λx y H Q=>∃i j,x=.int i/\y=.int j/\C i j/\Q (g i j) H
def rI0 (g:Int->Int->V):R2:=λx y H Q=>∃i j,x=.int i/\y=.int j/\Q (g i j) H
def rU (g:Int->V):V->Hp->VK->Prop:=λx H Q=>∃i,x=.int i/\Q (g i) H
section
variable {X:Cx}{a b c:Expr}{ta tb tc:TE}{pos:Pos}
theorem Qa (ha:PE X a ta)(hb:PE X b tb){pins:Zo}{s:Shared}{σ:St}{H:Hp}{R:V->V->Hp->Prop}(I:Inv X pins σ H s)
  (h:ta σ H λx H1=>tb σ H1 λy H2=>R x y H2) {Q:Zv} {f:Value->Value->Sem Value}
  (hf:∀v u s2 x y H2,Inv X pins σ H2 s2->RelV x v->RelV y u->R x y H2->wpAny (model X.prog X.w) X.A (f v u) Q X.xe s2):
  wpAny (model X.prog X.w) X.A (eval a X.env) (λv s₁=>wpAny (model X.prog X.w) X.A (eval b X.env) (λu s₂=>wpAny (model X.prog X.w) X.A (f v u) Q X.xe s₂) X.xe s₁) X.xe s:=by
 refine thn (ha pins s σ H _ I h) λv s1 hE=>xq2 hE λx H1 I1 r1 q1=>?_;refine thn (hb pins s1 σ H1 _ I1 q1) λu s2 hE=>xq2 hE λy H2 I2 r2 q2=>?_;exact hf v u s2 x y H2 I2 r1 r2 q2
theorem Uq (ho:OpR X (binaryOp op) r)(ha:PE X a ta)(hb:PE X b tb):PE X (.BinOp a op b pos) (tOp r ta tb):=by
 intro pins s σ H Q I h;exact wpAny_BinOp (Qa ha hb I h λv u s2 x y H2 I2 rx ry q=>ho pins s2 σ H2 x y v u Q I2 rx ry q)
theorem T4 (ho:UnR X (unaryOp op) r)(ha:PE X a ta):PE X (.UnaryOp op a pos) (tUn r ta):=by
 intro pins s σ H Q I h;exact UnaryOp_ (thn (ha pins s σ H _ I h) λv s1 hE=>xq2 hE λx H1 I1 r1 q1=>ho pins s1 σ H1 x v Q I1 r1 q1)
theorem opI {f:Value->Value->Sem Value}{C:Int->Int->Prop}{g:Int->Int->Int}
  (rule:∀(i j:Int) (t u:Tok) (s:Shared) (Q:Zv) (E:Zv),C i j->Q (.int (g i j) s.toks) { s with toks:=s.toks+1 }->wpAny (model X.prog X.w) X.A (f (.int i t) (.int j u)) Q E s):
  OpR X f (rI C λi j=>.int (g i j)):=by
 intro pins s σ H x y v u Q I rx ry h;obtain ⟨i,j,rfl,rfl,hc,q⟩:=h;obtain ⟨t,rfl⟩:=rx;obtain ⟨t',rfl⟩:=ry;exact rule i j t t' s _ _ hc ⟨.int (g i j),H,I.tok _,⟨_,rfl⟩,q⟩
theorem Ub {f:Value->Value->Sem Value}{g:Int->Int->Int}
  (rule:∀(i j:Int) (t u:Tok) (s:Shared) (Q:Zv) (E:Zv),Q (.int (g i j) s.toks) { s with toks:=s.toks+1 }->wpAny (model X.prog X.w) X.A (f (.int i t) (.int j u)) Q E s):
  OpR X f (rI0 λi j=>.int (g i j)):=by
 intro pins s σ H x y v u Q I rx ry h;obtain ⟨i,j,rfl,rfl,q⟩:=h;obtain ⟨t,rfl⟩:=rx;obtain ⟨t',rfl⟩:=ry;exact rule i j t t' s _ _ ⟨.int (g i j),H,I.tok _,⟨_,rfl⟩,q⟩
theorem Ur {f:Value->Value->Sem Value}{g:Int->Int->Bool}
  (rule:∀(i j:Int) (t u:Tok) (s:Shared) (Q:Zv) (E:Zv),Q (.bool (g i j)) s->wpAny (model X.prog X.w) X.A (f (.int i t) (.int j u)) Q E s):
  OpR X f (rI0 λi j=>.bl (g i j)):=by
 intro pins s σ H x y v u Q I rx ry h;obtain ⟨i,j,rfl,rfl,q⟩:=h;obtain ⟨t,rfl⟩:=rx;obtain ⟨t',rfl⟩:=ry;exact rule i j t t' s _ _ ⟨.bl (g i j),H,I,rfl,q⟩
def Vu (i j:Int):Prop:=0<=j/\j<=1000000/\i.natAbs<2 ^ 64
theorem Rq:OpR X (binaryOp .Add) (rI0 λi j=>.int (i+j)):=Ub λ_ _ _ _ _ _ _ q=>add_int q
theorem Qq:OpR X (binaryOp .Sub) (rI0 λi j=>.int (i-j)):=Ub λ_ _ _ _ _ _ _ q=>sub_int q
theorem Mq:OpR X (binaryOp .Mod) (rI (λ_ j=>j≠0) λi j=>.int (i.fmod j)):=opI λ_ _ _ _ _ _ _ hc q=>mod_int' hc q
theorem Qi:OpR X (binaryOp .Pow) (rI Vu λi j=>.int (i ^ j.toNat)):=opI λ_ _ _ _ _ _ _ hc q=>pow_int_small hc.1 hc.2.1 hc.2.2 q
theorem unI {f:Value->Sem Value}{g:Int->Int}
  (rule:∀(i:Int) (t:Tok) (s:Shared) (Q:Zv) (E:Zv),Q (.int (g i) s.toks) { s with toks:=s.toks+1 }->wpAny (model X.prog X.w) X.A (f (.int i t)) Q E s):
  UnR X f (rU λi=>.int (g i)):=by
 intro pins s σ H x v Q I rx h;obtain ⟨i,rfl,q⟩:=h;obtain ⟨t,rfl⟩:=rx;exact rule i t s _ _ ⟨.int (g i),H,I.tok _,⟨_,rfl⟩,q⟩
theorem PJ:UnR X (unaryOp .USub) (rU λi=>.int (-i)):=unI λ_ _ _ _ _ q=>neg_int q
end
def Ti:V->V->Bool
 | .non,.non=>true | .non,.int _=>true | .int _,.non=>true | .non,.bl _=>true | .bl _,.non=>true | .non,.str _=>true | .str _,.non=>true
 | .int _,.int _=>true | .bl _,.bl _=>true | .str _,.str _=>true | .byt _,.byt _=>true
 | .int _,.str _=>true | .str _,.int _=>true | .bl _,.str _=>true | .str _,.bl _=>true
 |_,_=>false
def rEq:R2:=λx y H Q=>Ti x y=true/\Q (.bl (decide (x=y))) H
def rNe:R2:=λx y H Q=>Ti x y=true/\Q (.bl (!decide (x=y))) H
theorem Bo:decide (V.int i=V.int j)=(i == j):=by
 rw [Bool.eq_iff_iff]
 simp
theorem J3:decide (V.bl i=V.bl j)=(i == j):=by
 rw [Bool.eq_iff_iff]
 simp
theorem An:decide (V.str i=V.str j)=(i == j):=by
 rw [Bool.eq_iff_iff]
 simp
theorem Br:decide (V.byt i=V.byt j)=(i.toList == j.toList):=by
 rw [Bool.eq_iff_iff];cases i;cases j
 simp
section
theorem bJ (I:Inv X pins σ H s)(q:Q (.bl k) H)(e:k=k'):EP X pins σ Q (.bool k') s:=by
 subst e;exact ⟨.bl k,H,I,rfl,q⟩
theorem Bm:OpR X (compareOp .Eq) rEq:=by
 intro pins s σ H x y v u Q I rx ry h;obtain ⟨hs,q⟩:=h;cases x with
 |non=>
  cases rx;cases y with
  |non=>cases ry;exact PySem.EqNone.eq_none_none (bJ I q (by simp))
  |bl j=>cases ry;exact PySem.EqNone.eq_none_bool (bJ I q (by simp))
  |int j=>obtain ⟨t',rfl⟩:=ry;exact PySem.EqNone.eq_none_int (bJ I q (by simp))
  |str j=>obtain ⟨t',rfl⟩:=ry;exact PySem.EqNone.eq_none_str (bJ I q (by simp))
  |_=>exact absurd (show false=true from hs) Bool.false_ne_true
 |bl i=>
  cases rx;cases y with
  |non=>cases ry;exact PySem.EqNone.eq_bool_none (bJ I q (by simp))
  |bl j=>cases ry;exact eq_bool (bJ I q J3)
  |str j=>obtain ⟨t',rfl⟩:=ry;exact PySem.EqMixed.eq_bool_str (bJ I q (by simp))
  |_=>exact absurd (show false=true from hs) Bool.false_ne_true
 |int i=>
  obtain ⟨t,rfl⟩:=rx;cases y with
  |non=>cases ry;exact PySem.EqNone.eq_int_none (bJ I q (by simp))
  |int j=>obtain ⟨t',rfl⟩:=ry;exact eq_int (bJ I q Bo)
  |str j=>obtain ⟨t',rfl⟩:=ry;exact PySem.EqMixed.eq_int_str (bJ I q (by simp))
  |_=>exact absurd (show false=true from hs) Bool.false_ne_true
 |str i=>
  obtain ⟨t,rfl⟩:=rx;cases y with
  |non=>cases ry;exact PySem.EqNone.eq_str_none (bJ I q (by simp))
  |bl j=>cases ry;exact PySem.EqMixed.eq_str_bool (bJ I q (by simp))
  |int j=>obtain ⟨t',rfl⟩:=ry;exact PySem.EqMixed.eq_str_int (bJ I q (by simp))
  |str j=>obtain ⟨t',rfl⟩:=ry;exact eq_str (bJ I q An)
  |_=>exact absurd (show false=true from hs) Bool.false_ne_true
 |byt i=>
  obtain ⟨t,rfl⟩:=rx;cases y with
  |byt j=>obtain ⟨t',rfl⟩:=ry;exact W.eq_bytes (bJ I q Br)
  |_=>exact absurd (show false=true from hs) Bool.false_ne_true
 |_=>cases y<;>exact absurd (show false=true from hs) Bool.false_ne_true
theorem Bb:OpR X (compareOp .NotEq) rNe:=by
 intro pins s σ H x y v u Q I rx ry h;obtain ⟨hs,q⟩:=h;cases x with
 |non=>
  cases rx;cases y with
  |non=>cases ry;exact PySem.EqNone.ne_none_none (bJ I q (by simp))
  |bl j=>cases ry;exact PySem.EqNone.ne_none_bool (bJ I q (by simp))
  |int j=>obtain ⟨t',rfl⟩:=ry;exact PySem.EqNone.ne_none_int (bJ I q (by simp))
  |str j=>obtain ⟨t',rfl⟩:=ry;exact PySem.EqNone.ne_none_str (bJ I q (by simp))
  |_=>exact absurd (show false=true from hs) Bool.false_ne_true
 |bl i=>
  cases rx;cases y with
  |non=>cases ry;exact PySem.EqNone.ne_bool_none (bJ I q (by simp))
  |bl j=>cases ry;exact ne_bool (bJ I q (congrArg not J3))
  |str j=>obtain ⟨t',rfl⟩:=ry;exact PySem.EqMixed.ne_bool_str (bJ I q (by simp))
  |_=>exact absurd (show false=true from hs) Bool.false_ne_true
 |int i=>
  obtain ⟨t,rfl⟩:=rx;cases y with
  |non=>cases ry;exact PySem.EqNone.ne_int_none (bJ I q (by simp))
  |int j=>obtain ⟨t',rfl⟩:=ry;exact ne_int (bJ I q (congrArg not Bo))
  |str j=>obtain ⟨t',rfl⟩:=ry;exact PySem.EqMixed.ne_int_str (bJ I q (by simp))
  |_=>exact absurd (show false=true from hs) Bool.false_ne_true
 |str i=>
  obtain ⟨t,rfl⟩:=rx;cases y with
  |non=>cases ry;exact PySem.EqNone.ne_str_none (bJ I q (by simp))
  |bl j=>cases ry;exact PySem.EqMixed.ne_str_bool (bJ I q (by simp))
  |int j=>obtain ⟨t',rfl⟩:=ry;exact PySem.EqMixed.ne_str_int (bJ I q (by simp))
  |str j=>obtain ⟨t',rfl⟩:=ry;exact ne_str (bJ I q (congrArg not An))
  |_=>exact absurd (show false=true from hs) Bool.false_ne_true
 |byt i=>
  obtain ⟨t,rfl⟩:=rx;cases y with
  |byt j=>obtain ⟨t',rfl⟩:=ry;exact W.ne_bytes (bJ I q (congrArg not Br))
  |_=>exact absurd (show false=true from hs) Bool.false_ne_true
 |_=>cases y<;>exact absurd (show false=true from hs) Bool.false_ne_true
theorem Sx:OpR X (compareOp .Lt) (rI0 λi j=>.bl (decide (i<j))):=Ur λ_ _ _ _ _ _ _ q=>lt_int q
theorem T3:OpR X (compareOp .Gt) (rI0 λi j=>.bl (decide (j<i))):=Ur λ_ _ _ _ _ _ _ q=>gt_int q
theorem bN (b:Expr){op:CmpOp}(h:op≠.In:=by decide)(h2:op≠.NotIn:=by decide):behindInMarks op b=false:=by
 have e1:(op == CmpOp.In)=false:=by cases op<;>first | rfl | exact absurd rfl h
 have e2:(op == CmpOp.NotIn)=false:=by cases op<;>first | rfl | exact absurd rfl h2
 cases b<;>simp [behindInMarks,e1,e2]
theorem Ob (ho:OpR X (compareOp op) r)(ha:PE X a ta)(hb:PE X b tb)(hm:behindInMarks op b=false):PE X (.Compare a [op] [b] pos) (tOp r ta tb):=by
 intro pins s σ H Q I h;exact wpAny_Compare1 (Qa ha hb I h λv u s2 x y H2 I2 rx ry q=>ho pins s2 σ H2 x y v u Q I2 rx ry q) hm
def Um (t:TE):TT:=λσ H Q=>t σ H λx H'=>∃k,x=.bl k/\Q k H'
theorem Nz (ho:OpR X (compareOp op) r)(ha:PE X a ta)(hb:PE X b tb)(hm:behindInMarks op b=false):PT X (.Compare a [op] [b] pos) (Um (tOp r ta tb)):=by
 intro pins s σ H Q I h;refine wpAny_isTrue_Compare1 (thn (ha pins s σ H _ I h) λv s1 hE=>xq2 hE λx H1 I1 r1 q1=>thn (hb pins s1 σ H1 _ I1 q1) λu s2 hE=>xq2 hE λy H2 I2 r2 q2=>
  thn (ho pins s2 σ H2 x y v u _ I2 r1 r2 q2) λc s3 ⟨z,H3,I3,r3,k,e,q3⟩=>?_) hm
 subst e;cases r3;exact wpAny_truthy_bool ⟨H3,I3,q3⟩
theorem pW:(sizeLine:Nat)<2 ^ 63:=by rw [sizeLine_eq];decide
theorem zy:OpR X (binaryOp .Add) (λx y H Q=>∃i j,x=.str i/\y=.str j/\i.length+j.length<=sizeLine/\Q (.str (i++j)) H):=by
 intro pins s σ H x y v u Q I rx ry h;obtain ⟨i,j,rfl,rfl,hz,q⟩:=h;obtain ⟨t,rfl⟩:=rx;obtain ⟨t',rfl⟩:=ry;exact add_str (λt' tk=>⟨.str (i++j),H,I.tok _,⟨_,rfl⟩,q⟩) hz
theorem vals1 (r:Vals [x] us):∃u,us=[u]/\RelV x u:=by
 cases r with
 |cons r1 r2=>cases r2;exact ⟨_,rfl,r1⟩
theorem vals2 (r:Vals [x,y] us):∃u w',us=[u,w']/\RelV x u/\RelV y w':=by
 cases r with
 |cons r1 r2=>
  cases r2 with
  |cons r3 r4=>cases r4;exact ⟨_,_,rfl,r1,r3⟩
theorem Gd (hc:X.calm=true):fB X (.builtin "max") (λxs H Q=>∃i j,xs=[.int i,.int j]/\Q (.int (if j > i then j else i)) H):=by
 intro pins s σ H xs us Q I r h;obtain ⟨i,j,rfl,q⟩:=h;obtain ⟨u,w',rfl,⟨t,rfl⟩,⟨t',rfl⟩⟩:=vals2 r;refine max_two_ints (I.ok.hd hc) λh' tk k=>⟨_,H,I.kept k,?_,q⟩;by_cases hj:j > i
 ·rw [if_pos hj,if_pos hj];exact ⟨_,rfl⟩
 ·rw [if_neg hj,if_neg hj];exact ⟨_,rfl⟩
theorem wj:fB X (.type "str") (λxs H Q=>∃i,xs=[.int i]/\i.natAbs.log2<1920/\Q (.str (toString i)) H):=by
 intro pins s σ H xs us Q I r h;obtain ⟨i,rfl,hz,q⟩:=h;obtain ⟨u,rfl,t,rfl⟩:=vals1 r;exact PySem.P.str_of_int hz ⟨.str _,H,I.tok _,⟨_,rfl⟩,q⟩
end
section
variable {prog:Program}{w:World}{A:Around}{E:Zv}{s:Shared}{K:W.Frag}{x dx C f:Addr}{mA:Zs}{name:Str}{v:Value}
end
theorem uG.some_of (r:uG (some v) o):∃u,o=some u/\RelV v u:=by
 cases o with
 |none=>exact (show False from r).elim
 |some u=>exact ⟨u,rfl,r⟩
section
end
section
variable {X:Cx}{pins:Zo}{σ:St}{H:Hp}{s:Shared}{a C dx:Addr}{fs:List (Str×V)}{f:Str}{v:V}{A:Around}{E:Zv}
end
section
end
section
end
structure gW (k:Nat)(A:Around):Prop where
 hd:A.handled=none
 dp:A.depth+3*k+5<recursionLimit
 un:A.units+16*k+200<cLine
 gd:A.guards=some []
theorem gW.mono (r:gW k A)(h:j<=k):gW j A:=⟨r.hd,by have:=r.dp;omega,by have:=r.un;omega,r.gd⟩
theorem gW.deeper (r:gW (k+1) A)(env:Env):gW k (A.deeper env):=
 ⟨r.hd,by have:=r.dp;show A.depth+1+3*k+5<_;omega,by have:=r.un;show A.units+3+16*k+200<_;omega,r.gd⟩
theorem gW.depth (r:gW k A):A.depth<recursionLimit:=by have:=r.dp;omega
theorem gW.units (r:gW k A):A.units+64<cLine:=by have:=r.un;omega
def Ut:TA:=λ_ H Q=>Q [] H
def Jv (ta:TE)(tr:TA):TA:=λσ H Q=>ta σ H λx H1=>tr σ H1 λxs H2=>Q (x::xs) H2
section
theorem jh:PA X [] Ut:=λ_ _ _ _ H Q I h=>Calls.spliced_nil ⟨[],H,I,.nil,h⟩
theorem dg (ha:PE X e te)(hr:PA X es t)(hs:starEach (e::es) X.env=(false,eval e X.env)::starEach es X.env:=by rfl):PA X (e::es) (Jv te t):=by
 intro pos pins s σ H Q I h;rw [hs];show wpAny _ _ (spliced ((false,eval e X.env)::backTo pos (starEach es X.env))) _ _ s;refine Calls.spliced_cons (thn (ha pins s σ H _ I h) λu s1 hE=>xq2 hE λx H1 I1 r1 q1=>?_);exact thn (hr pos pins s1 σ H1 _ I1 q1) λus s2 hE=>xq2 hE λxs H2 I2 r2 q2=>⟨x::xs,H2,I2,.cons r1 r2,q2⟩
def Vp (t:TA):TE:=λσ H Q=>t σ H λxs H1=>xs.length<=sizeLine/\∀p,H1 p=none->Q (.ref p) (upd H1 p (.tup xs))
def Va (t:TA):TE:=λσ H Q=>t σ H λxs H1=>xs.length<=sizeLine/\∀p,H1 p=none->Q (.ref p) (upd H1 p (.lst xs))
theorem JR (h:PA X es t):PE X (.Tuple es x1 pos) (Vp t):=by
 intro pins s σ H Q I hq;refine wpAny_Tuple_spliced (thn (h pos pins s σ H _ I hq) λus s1 ⟨xs,H1,I1,r,z,q⟩=>⟨by rw [← r.length];exact z,?_⟩);have hf:H1 s1.heap.objs.size=none:=I1.hok.fresh (Nat.le_refl _);refine ⟨.ref s1.heap.objs.size,upd H1 s1.heap.objs.size (.tup xs),I1.laid (t':=s1.toks) (λb u e=>Heap.get?_push_of_some _ e) (Nat.le_refl _) ?_,rfl,q _ hf⟩;exact ⟨z,us,r,⟨_,Heap.get?_push_size _ rfl,rfl,_,rfl⟩⟩
theorem Qw (h:PA X es t):PE X (.List es pos) (Va t):=by
 intro pins s σ H Q I hq;refine wpAny_List_spliced (thn (h pos pins s σ H _ I hq) λus s1 ⟨xs,H1,I1,r,z,q⟩=>⟨by rw [← r.length];exact z,?_⟩);have hf:H1 s1.heap.objs.size=none:=I1.hok.fresh (Nat.le_refl _);refine ⟨.ref s1.heap.objs.size,upd H1 s1.heap.objs.size (.lst xs),I1.laid (t':=s1.toks) (λb u e=>Heap.get?_push_of_some _ e) (Nat.le_refl _) ?_,rfl,q _ hf⟩;exact ⟨z,us,0,r,Heap.get?_push_size _ rfl⟩
end
abbrev Sp:=List V->Hp->VK->XK->Prop
abbrev CXT:=List Env->Hp->Shared->XK->Zv
structure Nu (P:Program)(w:World)(K:W.Frag)(mg:Zs)(base:Heap)(A:Around)(outer:List Env)(s:Shared)(H:Hp):Prop where
 frames:A.frames=some outer
 mod:Mod K mg base
 bs:∀b o,base.get? b=some o->s.heap.get? b=some o/\H b=none
 bsz:base.objs.size<=s.heap.objs.size
 n8:s.heap.FunFrames base outer
 frf:∀b∈frs outer,H b=none
 hok:HOk P w H s.heap
 bare:AllBare s.gens
def CE (outer:List Env)(P:Program)(w:World)(H:Hp)(s:Shared)(Q:VK)(u:Value)(s':Shared):Prop:=
 ∃v H',s'.os=s.os/\AllBare s'.gens/\Un (frs outer) [] H H' s.heap s'.heap/\HOk P w H' s'.heap/\RelV v u/\Q v H'
def CR (CX:CXT)(outer:List Env)(P:Program)(w:World)(H:Hp)(s:Shared)(Q:VK)(E:XK)(r:Result)(s':Shared):Prop:=
 match r with
 | .ok (.ret u)=>CE outer P w H s Q u s'
 | .ok _=>False
 | .error e=>CX outer H s E e s'
structure dm (P:Program)(w:World)(K:W.Frag)(mg:Zs)(base:Heap)(CX:CXT)(k:Nat)(f:Addr)(fd:FuncData)(ps:List Str)(sp:Sp):Prop where
 len:∀vs H Q E,sp vs H Q E->vs.length=ps.length
 run:∀(A:Around) (outer:List Env) (s:Shared) (H:Hp) (args:Args) (us:List Value) (vs:List V) (Q:VK) (E:XK),gW k A->Nu P w K mg base A outer s H->BindsTo s fd args (ps.zip us)->Vals vs us->sp vs H Q E->
  codeAny (model P w) A (.call (.ref f) args) (CR CX outer P w H s Q E) s
theorem dm.imp {P:Program}{w:World}{K:W.Frag}{mg:Zs}{base:Heap}{CX:CXT}{k:Nat}{f:Addr}{fd:FuncData}{ps:List Str}{sp sp':Sp}(F:dm P w K mg base CX k f fd ps sp)
  (h:∀vs H Q E,sp' vs H Q E->sp vs H Q E):dm P w K mg base CX k f fd ps sp':=
 ⟨λvs H Q E q=>F.len vs H Q E (h _ _ _ _ q),λA outer s H args us vs Q E hr he hb hv hs=>F.run A outer s H args us vs Q E hr he hb hv (h _ _ _ _ hs)⟩
section
theorem Inv.env0 (I:Inv X pins σ H s):Nu X.prog X.w X.K X.mg X.base X.A X.stack s H:=
 ⟨I.ok.frames,I.ok.mod,I.bs,Nat.le_trans I.ok.bsz I.sz,I.stack,I.xj,I.hok,I.bare⟩
theorem Inv.after (I:Inv X pins σ H s)(h:CE X.stack X.prog X.w H s Q u s'):EP X pins σ Q u s':=by
 obtain ⟨v,H',os,bare,un,hok,r,q⟩:=h;obtain ⟨hh,g,d,t,os'⟩:=s';obtain rfl:os'=s.os:=os;exact ⟨v,H',I.call (h':=hh) (g':=g) (d':=d) (t':=t) (ch:=[]) un hok bare (λb z=>absurd z (by simp)),r,q⟩
end
def Tt (sp:Sp)(dvs:List V)(E:XK)(t:TA):TE:=λσ H Q=>t σ H λvs H1=>sp (vs++dvs) H1 Q E
def Binds (K:W.Frag)(fd:FuncData)(ps:List Str)(ds:List Value):Prop:=
 ∀(s:Shared) (us:List Value),K.In s.heap->(us++ds).length=ps.length->BindsTo s fd ⟨us,[]⟩ (ps.zip (us++ds))
theorem Binds.all {K:W.Frag}{fd:FuncData}{ps:List Str}(h:∀us:List Value,us.length=ps.length->bindArgs fd ⟨us,[]⟩=pure (ps.zip us)):Binds K fd ps []:=λs us _ hl=>by
 rw [List.append_nil] at hl ⊢;exact .of_eq (h us hl)
def Passes (CX:CXT)(X:Cx)(E:XK):Prop:=∀(pins:Zo) (σ:St) (H:Hp) (s:Shared) (e:Value) (s':Shared),Inv X pins σ H s->CX X.stack H s E e s'->X.xe e s'
section
variable {X:Cx}{CX:CXT}{k:Nat}{f C:Addr}{fd:FuncData}{ps:List Str}{sp:Sp}{dvs:List V}{ds:List Value}{E:XK}{x m:Str}{p pos apos:Pos}{e o:Expr}{es:List Expr}{ta:TE}{t:TA}
theorem Rv (F:dm X.prog X.w X.K X.mg X.base CX k f fd ps sp)(hr:gW k X.A)(hb:Binds X.K fd ps ds)(hd:Vals dvs ds)(hx:Passes CX X E)
  (I:Inv X pins σ H s) (r:Vals vs us) (h:sp (vs++dvs) H Q E):wpAny (model X.prog X.w) X.A (call (.ref f) us) (EP X pins σ Q) X.xe s:=by
 have r2:Vals (vs++dvs) (us++ds):=r.append hd;have hl:(us++ds).length=ps.length:=by rw [← r2.length];exact F.len _ _ _ _ h
 refine wpAny_call (codeAny_mono (F.run X.A X.stack s H ⟨us,[]⟩ (us++ds) (vs++dvs) Q E hr I.env0 (hb s us I.kIn hl) r2 h) λr s' hq=>?_);cases r with
 |error e=>exact hx pins σ H s e s' I hq
 |ok fl=>
  cases fl with
  |ret u=>exact I.after hq
  |next=>exact False.elim hq
  |brk=>exact False.elim hq
  |cont=>exact False.elim hq
theorem BR (F:dm X.prog X.w X.K X.mg X.base CX k f fd ps sp)(hr:gW k X.A)(hg:Gl X x)(hm:X.mg x=some (.ref f))(hk:W.keepIn X.K (.ref f)=true)(hb:Binds X.K fd ps ds)(hd:Vals dvs ds)(hx:Passes CX X E)
  (ha:PA X (e::es) t) (hdb:(x == ("__debug__" : Str))=false:=by decide) (he:starEach (e::es) X.env=(false,eval e X.env)::starEach es X.env:=by rfl) (hpl:(backTo pos (starEach es X.env)).any (·.1)=false:=by rfl):
  PE X (.Call (.Name x p) (e::es) [] pos) (Tt sp dvs E t):=by
 intro pins s σ H Q I h;refine wpAny_Call_Name_kw (rK I hg hm ?_ hdb);refine W.callWith_K (h₀:=X.base) I.ok.mod.kin hk (thn (ha pos pins s σ H _ I h) λus s1 hE=>xq2 hE λvs H1 I1 r q=>⟨I1.kIn,?_⟩) he hpl;exact Rv F hr hb hd hx I1 r q
end
section
end
structure bC (N P:List Str)(sc:Scope):Prop where
 kind:sc.kind=.function
 co:sc.isCoroutine=false
 gen:sc.isGenerator=false
 nd:N.Nodup
 pre:N.take P.length=P
 par:∀x∈P,sc.names.lookup x=some .local\/sc.names.lookup x=some .cell
 nofree:∀y∈sc.names,y.2≠.free
theorem uY {kindOf:Str->Option NameKind}{x:Str}:∀{binds:List (Str×Value)} {m:Zs},(∀v,(x,v)∉binds)->bindL kindOf binds m x=m x
 |[],_,_=>rfl
 |(n,v)::r,m,h=>by
  unfold bindL;rw [uY λw hw=>h w (List.mem_cons_of_mem _ hw)];split
  ·have:x≠n:=by rintro rfl;exact h v List.mem_cons_self
   simp [this]
  ·rfl
theorem vd {kindOf:Str->Option NameKind}{x:Str}:∀{binds:List (Str×Value)} {m:Zs},(∀v,(x,v)∉binds)->bindC kindOf binds m x=m x
 |[],_,_=>rfl
 |(n,v)::r,m,h=>by
  unfold bindC;rw [vd λw hw=>h w (List.mem_cons_of_mem _ hw)];split
  ·rfl
  ·have:x≠n:=by rintro rfl;exact h v List.mem_cons_self
   simp [this]
theorem vQ {kindOf:Str->Option NameKind}{x:Str}{v:Value}:∀{P:List Str} {vs:List Value} {i:Nat} {m:Zs},P.Nodup->P[i]? = some x->vs[i]? = some v->kindOf x=some .local->
  bindL kindOf (P.zip vs) m x=some v
 |[],_,_,_,_,h,_,_=>by simp at h
 |_::_,[],_,_,_,_,h,_=>by simp at h
 |p::P,w::vs,0,m,nd,h1,h2,hk=>by
  simp at h1 h2;subst h1;subst h2;show bindL kindOf ((p,w)::P.zip vs) m p=_;unfold bindL;rw [uY λv hv=>(List.nodup_cons.mp nd).1 (List.of_mem_zip hv).1,if_pos hk]
  simp
 |p::P,w::vs,i+1,m,nd,h1,h2,hk=>by
  show bindL kindOf ((p,w)::P.zip vs) m x=_;unfold bindL;exact vQ (i:=i) (List.nodup_cons.mp nd).2 (by simpa using h1) (by simpa using h2) hk
theorem vA {kindOf:Str->Option NameKind}{x:Str}{v:Value}:∀{P:List Str} {vs:List Value} {i:Nat} {m:Zs},P.Nodup->P[i]? = some x->vs[i]? = some v->kindOf x≠some .local->
  bindC kindOf (P.zip vs) m x=some v
 |[],_,_,_,_,h,_,_=>by simp at h
 |_::_,[],_,_,_,_,h,_=>by simp at h
 |p::P,w::vs,0,m,nd,h1,h2,hk=>by
  simp at h1 h2;subst h1;subst h2;show bindC kindOf ((p,w)::P.zip vs) m p=_;unfold bindC;rw [vd λv hv=>(List.nodup_cons.mp nd).1 (List.of_mem_zip hv).1,if_neg hk]
  simp
 |p::P,w::vs,i+1,m,nd,h1,h2,hk=>by
  show bindC kindOf ((p,w)::P.zip vs) m x=_;unfold bindC;exact vA (i:=i) (List.nodup_cons.mp nd).2 (by simpa using h1) (by simpa using h2) hk
def start (N:List Str)(vs:List V):St:=vs.map some++List.replicate (N.length-vs.length) none
def mH (CX:CXT)(P:Program)(w:World)(K:W.Frag)(mg:Zs)(base:Heap)(N:List Str)(qual:Str)(scope:Scope)(f:Addr)(cd:Value)(A:Around)(outer:List Env)(s:Shared)(H:Hp)(E:XK):Cx where
 prog:=P
 w:=w
 K:=K
 mg:=mg
 base:=base
 A:=A.deeper (envOfC qual scope s.heap.objs.size f cd)
 N:=N
 s₀:=s
 H₀:=H
 env:=envOfC qual scope s.heap.objs.size f cd
 outer:=outer
 stack:=envOfC qual scope s.heap.objs.size f cd::outer
 ex:=[]
 calm:=true
 fn:=λ_=>true
 pn:=[]
 xe:=λe s'=>wpAny (model P w) (A.deeper (envOfC qual scope s.heap.objs.size f cd)) (leaving (envOfC qual scope s.heap.objs.size f cd) e) (λ_ s''=>CX outer H s E e s'') (λe' s''=>CX outer H s E e' s'') s'
theorem yj {sc:Scope}(h:sc.names.lookup x=some .cell):∃c,(cellsFrom n sc.names []).lookup x=some c:=by
 have q:=W.cellsFrom_some sc.names n [] (.inl h);exact Option.isSome_iff_exists.mp q
theorem Ff {CX:CXT}{P:Program}{w:World}{K:W.Frag}{mg:Zs}{base:Heap}{N ps:List Str}{qual:Str}{scope:Scope}{f:Addr}{cd:Value}{A:Around}{outer:List Env}{s s1:Shared}{H:Hp}{E:XK}{us:List Value}{vs:List V}
  (S:bC N ps scope) (hd:A.handled=none) (e0:Nu P w K mg base A outer s H) (hl:vs.length=ps.length) (r:Vals vs us)
  (x:InCallC s s.heap.objs.size (bindL (envOfC qual scope s.heap.objs.size f cd).kindOf (ps.zip us) λ_=>none) (cellsFrom (s.heap.objs.size+1) scope.names []) (bindC (envOfC qual scope s.heap.objs.size f cd).kindOf (ps.zip us) λ_=>none) s1):
  Inv (mH CX P w K mg base N qual scope f cd A outer s H E) [] (start N vs) H s1:=by
 have hpl:ps.length<=N.length:=by have:=congrArg List.length S.pre;rw [List.length_take] at this;omega
 obtain ⟨h1,tk,rfl,hk⟩:=x.done;have noA:∀b:Addr,b∉(mH CX P w K mg base N qual scope f cd A outer s H E).ex:=λb z=>absurd (show b∈([]:List Addr) from z) (by simp);refine ⟨⟨e0.mod,S.kind,rfl,rfl,Nat.le_refl _,λy z c h1 h2=>?_,λy hy=>?_,λy c _ h=>?_,λ_=>hd,Around.frames_deeper e0.frames,.inr ⟨rfl,rfl⟩,λb z=>absurd z (noA b),e0.bs,e0.bsz,λb _ _=>noA b,λb z=>absurd z (noA b),e0.n8,e0.frf⟩,
  rfl,e0.bare,Un.kept hk,⟨_,x.toInCall.ns,λi y v h1 h2 h3=>?_⟩,λy c h=>⟨_,x.cell y c h⟩,e0.hok.fresh (Nat.le_refl _),λy c h=>?_,λp hp=>absurd (show p∈([]:Zo) from hp) (by simp),e0.hok.kept hk,?_⟩
 ·exact name_of_addr x.apart (PySem.mem_of_lookup h1) (PySem.mem_of_lookup h2)
 ·have hy:scope.names.lookup y=some .cell\/scope.names.lookup y=some .free:=hy;rcases hy with hy | hy
  ·exact yj hy
  ·exact absurd rfl (S.nofree _ (PySem.mem_of_lookup hy))
 ·exact Nat.le_of_lt (x.above y c (PySem.mem_of_lookup h))
 ·have hi:i<vs.length:=by
   unfold start at h2;by_cases hi:i<vs.length
   ·exact hi
   ·rw [List.getElem?_append_right (by simpa using hi)] at h2;rw [List.getElem?_replicate] at h2;split at h2<;>cases h2
  have ha:vs[i]? = some v:=by
   unfold start at h2;rw [List.getElem?_append_left (by simpa using hi),List.getElem?_map] at h2;cases e:vs[i]? with
   |none=>rw [e] at h2;cases h2
   |some a=>rw [e] at h2;cases h2;rfl
  obtain ⟨u,hu,rv⟩:=r.get ha;have hp:ps[i]? = some y:=by
   rw [← S.pre,List.getElem?_take_of_lt (by omega)];exact h1
  have ndP:ps.Nodup:=by rw [← S.pre];exact S.nd.sublist (List.take_sublist _ _)
  refine ⟨u,rv,?_⟩;rcases S.par y (List.mem_of_getElem? hp) with k | k
  ·exact .inl ⟨k,vQ ndP hp hu k⟩
  ·obtain ⟨c,e⟩:=yj (n:=s.heap.objs.size+1) k;refine .inr ⟨.inl k,c,e,?_⟩;have q:=x.cell y c e;rw [vA ndP hp hu (by show scope.names.lookup y≠_;rw [k];decide)] at q;exact q
 ·exact e0.hok.fresh (Nat.le_of_lt (x.above y c (PySem.mem_of_lookup h)))
 ·unfold start;show _=N.length;rw [List.length_append,List.length_map,List.length_replicate];omega
theorem T9 {CX:CXT}{P:Program}{w:World}{K:W.Frag}{mg:Zs}{base:Heap}{k:Nat}{f:Addr}{name qual:Str}{params:Arguments}{body:List Stmt}{scope:Scope}{dV kV doc pm cdv ct oc:Value}{an od:Option Addr}
  {osl:Array (Option Value)} {N ps:List Str} {sp:Sp} (lk:K.lookup f=some ⟨oc,od,.func (W.fnOf name qual params body scope dV kV doc pm an cdv ct),osl⟩) (hcd:W.codeIn K cdv qual=true) (S:bC N ps scope)
  (len:∀vs H Q E,sp vs H Q E->vs.length=ps.length)
  (hbody:∀(A:Around) (outer:List Env) (s:Shared) (H:Hp) (vs:List V) (Q:VK) (E:XK),gW k (A.deeper (envOfC qual scope s.heap.objs.size f cdv))->sp vs H Q E->
   ∃t,PSs (mH CX P w K mg base N qual scope f cdv A outer s H E) body t/\t { nx:=λ_ H'=>Q .non H',rt:=Q } (start N vs) H):
  dm P w K mg base CX (k+1) f (W.fnOf name qual params body scope dV kV doc pm an cdv ct) ps sp:=by
 refine ⟨len,λA outer s H args us vs Q E hr e0 hb r hsp=>?_⟩;have hl:=len _ _ _ _ hsp;have KX:K.In s.heap:=e0.mod.kin.keeps λb o e=>(e0.bs b o e).1;have lim:s.heap.NoLimit:=e0.mod.nolimit.keeps λb o e=>(e0.bs b o e).1;have hkind:∀y∈ps.zip us,scope.names.lookup y.1=some .local\/(scope.names.lookup y.1=some .cell/\((cellsFrom (s.heap.objs.size+1) scope.names []).lookup y.1).isSome=true):=λ⟨n,v⟩ hy=>by
  rcases S.par n (List.of_mem_zip hy).1 with q | q
  ·exact .inl q
  ·exact .inr ⟨q,W.cellsFrom_some _ _ _ (.inl q)⟩
 refine codeAny_call_function hr.depth (KX _ _ lk) rfl S.co S.gen rfl (W.codeRec_of KX hcd) (hb _ _ _ _ ?_);refine wpAny_newFunctionEnv_cells S.kind hkind λenv he s1 x=>?_;subst he;refine ⟨lim.keeps x.toInCall.keep,codeAny_func ?_⟩;obtain ⟨t,ht,hq⟩:=hbody A outer s H vs Q E (hr.deeper _) hsp;have I:Inv (mH CX P w K mg base N qual scope f cdv A outer s H E) [] (start N vs) H s1:=Ff S hr.hd e0 hl r x;refine wpAny_mono (ht [] s1 (start N vs) H _ I hq) (λfl s' hs=>?_) λe s' hs=>hs;have fin:∀{σ':St} {H':Hp} {v:V} {u:Value},Inv (mH CX P w K mg base N qual scope f cdv A outer s H E) [] σ' H' s'->RelV v u->Q v H'->CE outer P w H s Q u s':=
  λ{σ' H' v u} J rv q=>⟨v,H',J.os,J.bare,J.base,J.hok,rv,q⟩
 cases fl with
 |ret u=>
  obtain ⟨v,σ',H',J,rv,q⟩:=hs;exact fin J rv q
 |next=>
  obtain ⟨σ',H',J,q⟩:=hs;exact fin (v:=V.non) (u:=Value.none) J rfl q
 |brk=>
  obtain ⟨_,_,_,q⟩:=hs;exact False.elim q
 |cont=>
  obtain ⟨_,_,_,q⟩:=hs;exact False.elim q
section
variable {X:Cx}{x:Str}{p pos:Pos}{e:Expr}{es:List Expr}{t:TA}{id T:String}{r:List V->Hp->VK->Prop}
def tCB (r:List V->Hp->VK->Prop)(t:TA):TE:=λσ H Q=>t σ H λvs H1=>r vs H1 Q
theorem oM (hc:fB X (.builtin id) r)(hg:Gl X x)(hm:X.mg x=none)(hv:bootBuiltins x=some (.builtin id))(ha:PA X (e::es) t)(hn:x≠"__name__":=by decide)(hdb:(x == ("__debug__" : Str))=false:=by decide)
  (he:starEach (e::es) X.env=(false,eval e X.env)::starEach es X.env:=by rfl) (hpl:(backTo pos (starEach es X.env)).any (·.1)=false:=by rfl):PE X (.Call (.Name x p) (e::es) [] pos) (tCB r t):=by
 intro pins s σ H Q I h;refine wpAny_Call_Name_kw (mK I hg hm hv ?_ hn hdb);exact PyProof.Rows.callWith_builtin1 (thn (ha pos pins s σ H _ I h) λus s1 hE=>xq2 hE λvs H1 I1 r1 q1=>hc pins s1 σ H1 vs us Q I1 r1 q1) he hpl
theorem pM (hc:fB X (.type T) r)(hg:Gl X x)(hm:X.mg x=none)(hv:bootBuiltins x=some (.type T))(ha:PA X (e::es) t)(hn:x≠"__name__":=by decide)(hdb:(x == ("__debug__" : Str))=false:=by decide)
  (he:starEach (e::es) X.env=(false,eval e X.env)::starEach es X.env:=by rfl) (hpl:(backTo pos (starEach es X.env)).any (·.1)=false:=by rfl):PE X (.Call (.Name x p) (e::es) [] pos) (tCB r t):=by
 intro pins s σ H Q I h;refine wpAny_Call_Name_kw (mK I hg hm hv ?_ hn hdb);exact PyProof.Rows.callWith_type1 (thn (ha pos pins s σ H _ I h) λus s1 hE=>xq2 hE λvs H1 I1 r1 q1=>hc pins s1 σ H1 vs us Q I1 r1 q1) he hpl
end
end L2
namespace HT
open PySem PyProof.Rows
def lexLt:List Int->List Int->Bool
 |[],[]=>false
 |[],_::_=>true
 |_::_,[]=>false
 |x::xs,y::ys=>if x=y then lexLt xs ys else decide (x<y)
theorem zV (x y:Int)(xs ys:List Int):lexLt (x::xs) (y::ys)=if x=y then lexLt xs ys else decide (x<y):=rfl
theorem uH:lexLt [] []=false:=rfl
theorem sI (y:Int)(ys:List Int):lexLt [] (y::ys)=true:=rfl
theorem sY (x:Int)(xs:List Int):lexLt (x::xs) []=false:=rfl
theorem Hr (A:Around)(s:Shared)(a:Int)(t:Tok)(c:Int)(u:Tok):∃e,SeqAt.EqAt A s (.int a t) (.int c u) e/\(e=true↔a=c):=
 ⟨(a == c),SeqAt.EqAt.int_int a t c u,by simp⟩
theorem Ii (A:Around)(s:Shared)(a:Int)(t:Tok)(c:Int)(u:Tok)(prog:Program)(w:World)(E:Zv)(Q:Zv)(h:Q (.bool (decide (a<c))) s):
  wpAny (model prog w) A (richCompare .Lt (.int a t) (.int c u)) Q E s:=
 (PyProof.Rows.lt_int h:wpAny (model prog w) A (compareOp .Lt (.int a t) (.int c u)) Q E s)
section
open PySem.SeqAt
open PySem.AutoSeq1 (wpAny_loadPart')
open PySem.MeetsSeq PySem.MeetsSeq2 PySem.MeetsSeq3
theorem uN (l b:Addr)(items items2:Array Value)(n n2:Nat)(dd dd2:Option Addr)(sl sl2:Array (Option Value))(ns ms:List Int)(hi:IntsAre items.toList ns)(hj:IntsAre items2.toList ms):
  Meets (Builtin.«tuple.__lt__» ⟨[.ref l,.ref b],[]⟩)
   (λ_ R s=>s.heap.get? l=some { cls:=.type "tuple",dict:=dd,data:=.seq items n,slots:=sl }/\s.heap.get? b=some { cls:=.type "tuple",dict:=dd2,data:=.seq items2 n2,slots:=sl2 }/\
    R (.ok (.ret (.bool (lexLt ns ms)))) s):=
 .of_wp λprog w A R s h=>by
  obtain ⟨hp,g,d,tk,os⟩:=s;obtain ⟨hl,hb,h⟩:=h;have f2:=AutoSeq1.sub_tuple_tuple;have z1:items.size=ns.length:=by rw [← hi.length];simp
  have z2:items2.size=ms.length:=by rw [← hj.length];simp
  wp_walk using wpAny_loadPart' hl,wpAny_loadPart' hb,wpAny_forIn_list _ (λrest b s'=>b.1=none/\s'=⟨hp,g,d,tk,os⟩/\∃(vs ws:List Value) (ns' ms':List Int),rest=vs.zip ws/\
   IntsAre vs ns'/\IntsAre ws ms'/\ns'.length+items2.size=ms'.length+items.size/\R (.ok (.ret (.bool (lexLt ns' ms')))) ⟨hp,g,d,tk,os⟩) _
  case turn=>
   rintro ⟨y,x⟩ rest b s' ⟨hb',rfl,vs,ws,ns',ms',hz,hvi,hwi,hlen,hR⟩;cases hvi with
   |nil=>rw [List.zip_nil_left] at hz;cases hz
   |cons a t hvi'=>
    cases hwi with
    |nil=>rw [List.zip_nil_right] at hz;cases hz
    |cons c u hwi'=>
     rw [List.zip_cons_cons] at hz;injection hz with hyx hrest
     injection hyx with hy hx
     subst hy hx;rw [zV] at hR;simp only [List.length_cons] at hlen;obtain ⟨e,he,hiff⟩:=Hr A.in1 ⟨hp,g,d,tk,os⟩ a t c u;refine wpAny_bind (he prog w _ _ ?_);cases e with
     |true=>
      rw [if_pos (hiff.mp rfl)] at hR
      wp_walk
      exact ⟨rfl,rfl,_,_,_,_,hrest,hvi',hwi',by omega,hR⟩
     |false=>
      rw [if_neg (λq=>absurd (hiff.mpr q) Bool.false_ne_true)] at hR;have hri:=Ii A.in1 ⟨hp,g,d,tk,os⟩ a t c u prog w
      wp_walk using hri
      exact ⟨_,rfl,by simpa using hR⟩
  case fin=>
   rintro ⟨b1,b2⟩ s' ⟨hb',rfl,vs,ws,ns',ms',hz,hvi,hwi,hlen,hR⟩;simp only at hb';subst hb';have hv:lexLt ns' ms'=decide (items.size<items2.size):=by
    cases hvi with
    |nil=>
     cases hwi with
     |nil=>
      simp only [List.length_nil] at hlen;rw [uH];exact (decide_eq_false (by omega)).symm
     |cons c u hw=>
      simp only [List.length_nil,List.length_cons] at hlen;rw [sI];exact (decide_eq_true (by omega)).symm
    |cons a t hv=>
     cases hwi with
     |nil=>
      simp only [List.length_nil,List.length_cons] at hlen;rw [sY];exact (decide_eq_false (by omega)).symm
     |cons c u hw=>
      rw [List.zip_cons_cons] at hz;cases hz
   rw [hv] at hR
   wp_walk
   exact ⟨_,rfl,by simpa [Builtin.Tuple.tupleCompareSizes] using hR⟩
  case h=>
   exact ⟨rfl,rfl,items.toList,items2.toList,ns,ms,rfl,hi,hj,by omega,h⟩
end
section
variable {prog:Program}{w:World}{A:Around}{E:Zv}{s:Shared}
theorem Ac (hl:IsTup s.heap l items)(hb:IsTup s.heap b items2)(hi:IntsAre items.toList ns)(hj:IntsAre items2.toList ms)
  (hu:A.units<cLine) (h:Q (.bool (lexLt ns ms)) s):wpAny (model prog w) A (compareOp .Lt (.ref l) (.ref b)) Q E s:=by
 obtain ⟨⟨cls,dd,data,sl⟩,ho,hc,n,hd⟩:=id hl;obtain ⟨⟨cls2,dd2,data2,sl2⟩,ho2,hc2,n2,hd2⟩:=id hb;simp only at hc hd hc2 hd2;subst hc hd hc2 hd2;exact richCompare_meets_room (op:=.Lt) ⟨_,ho,rfl⟩ ⟨_,ho2,rfl⟩ PySem.F.slot_tuple_lt PySem.F.entry_tuple_lt (PySem.F.args_tuple_lt_2 _ _) (uN l b items items2 n n2 dd dd2 sl sl2 ns ms hi hj)
  ⟨ho,ho2,show Value.bool (lexLt ns ms)≠Value.notImplemented/\Q (.bool (lexLt ns ms)) s from ⟨(λx=>nomatch x),h⟩⟩ hu
theorem KZ (ht:IsTup s.heap t vs.toArray)(hb:IsTup s.heap b ws.toArray)(hv:vs≠[])
  (h1:ws=[]->Q (.ref t) s) (h2:ws≠[]->Q (.ref s.heap.objs.size) { s with heap:=s.heap.push { cls:=.type "tuple",data:=.seq (vs++ws).toArray } })
  (hsz:vs.length+ws.length<=sizeLine):wpAny (model prog w) A (binaryOp .Add (.ref t) (.ref b)) Q E s:=by
 obtain ⟨⟨cls,dd,data,sl⟩,ho,hc,n,hd⟩:=id ht;obtain ⟨⟨cls2,dd2,data2,sl2⟩,ho2,hc2,n2,hd2⟩:=id hb;simp only at hc hd hc2 hd2;subst hc hd hc2 hd2;have e:vs.toArray++ws.toArray=(vs++ws).toArray:=by simp
 by_cases hw:ws=[]
 ·exact concat_meets ⟨_,ho,rfl⟩ ⟨_,ho2,rfl⟩ noFill_tuple_add seq_tuple_add PySem.F.slot_tuple_add PySem.F.entry_tuple_add (PySem.F.args_tuple_add_2 _ _)
   (tuple_addW1 t b vs.toArray ws.toArray n n2 dd dd2 sl sl2 (by simpa using hv) (by simp [hw])) ⟨ho,ho2,h1 hw⟩
 ·refine concat_meets ⟨_,ho,rfl⟩ ⟨_,ho2,rfl⟩ noFill_tuple_add seq_tuple_add PySem.F.slot_tuple_add PySem.F.entry_tuple_add (PySem.F.args_tuple_add_2 _ _)
   (tuple_addW2 t b vs.toArray ws.toArray n n2 dd dd2 sl sl2 (by simpa using hv) (by simpa using hw) (by rw [List.size_toArray,List.size_toArray];exact hsz)) ⟨ho,ho2,?_⟩
  rw [e];exact h2 hw
def sIx (n d:Nat):Option Int->Nat
 |none=>d
 |some v=>if v<0 then (v+(n:Int)).toNat else min v.toNat n
theorem Q5 (n d:Nat)(hd:d<=n)(o:Option Int):sIx n d o<=n:=by
 cases o with
 |none=>exact hd
 |some v=>
  show (if v<0 then (v+(n:Int)).toNat else min v.toNat n)<=n;by_cases hv:v<0
  ·rw [if_pos hv];omega
  ·rw [if_neg hv];exact Nat.min_le_right _ _
theorem Av (v:Int)(n d:Nat):(if v<0 then max (v+(n:Int)) 0 else min v (n:Int))=((sIx n d (some v):Nat):Int):=by
 show (if v<0 then max (v+(n:Int)) 0 else min v (n:Int))=(((if v<0 then (v+(n:Int)).toNat else min v.toNat n):Nat):Int);by_cases hv:v<0
 ·simp only [if_pos hv];omega
 ·simp only [if_neg hv];omega
theorem Ad (lo hi:Option Int)(n:Nat):Builtin.Slice.sliceAdjust lo hi 1 (n:Int)=(((sIx n 0 lo:Nat):Int),((sIx n n hi:Nat):Int)):=by
 have h1:¬((1:Int)<0):=by omega
 unfold Builtin.Slice.sliceAdjust;simp only [h1,if_false];refine Prod.ext ?_ ?_
 ·cases lo with
  |none=>rfl
  |some v=>exact Av v n 0
 ·cases hi with
  |none=>rfl
  |some v=>exact Av v n n
theorem zL (i j:Nat):Builtin.Slice.slicePlaces (i:Int) (j:Int) 1=j-i:=by
 unfold Builtin.Slice.slicePlaces;have h1:(1:Int) > 0:=by omega
 simp only [h1,if_true,Int.ediv_one];split<;>omega
theorem uv (p:IsPart v o)(h:Q o s):wpAny (model prog w) A (Builtin.Slice.slicePartIndex v) Q E s:=by
 cases p with
 |none=>exact slicePart_none h
 |int i t=>exact slicePart_int h
theorem p8 {sl:Addr}{vl vu:Value}{lo hi:Option Int}{n:Nat}{Q:Int×Int×Nat->Shared->Prop}(hs:s.heap.IsSliceOf sl vl vu .none)(pl:IsPart vl lo)(pu:IsPart vu hi)
  (h:Q (((sIx n 0 lo:Nat):Int),1,sIx n n hi-sIx n 0 lo) s):wpAny (model prog w) A (Builtin.Slice.sliceApplied (.ref sl) (pure (n:Int))) Q E s:=by
 obtain ⟨os,hos,hcs,hds⟩:=id hs;unfold Builtin.Slice.sliceApplied Builtin.Slice.sliceFields;refine wpAny_bind (wpAny_bind (wpAny_field hos hds (x:=vl) rfl (wpAny_bind (wpAny_field hos hds (x:=vu) rfl (wpAny_bind (wpAny_field hos hds (x:=.none) rfl (wpAny_pure ?_)))))));refine wpAny_bind (slicePart_none ?_);show wpAny _ _ (if ((1:Int) == 0)=true then _ else _) _ _ s;rw [if_neg (by decide)];refine wpAny_bind (uv pl (wpAny_bind (uv pu (wpAny_bind (wpAny_pure ?_)))));show wpAny _ _ (match Builtin.Slice.sliceAdjust lo hi 1 (n:Int) with | (lo,hi)=>pure (lo,(1:Int),Builtin.Slice.slicePlaces lo hi 1)) _ _ s;rw [Ad lo hi n];show wpAny _ _ (pure (((sIx n 0 lo:Nat):Int),(1:Int),Builtin.Slice.slicePlaces ((sIx n 0 lo:Nat):Int) ((sIx n n hi:Nat):Int) 1)) _ _ s;rw [zL];exact wpAny_pure h
theorem Jx (xs:Array Value)(i k:Nat):((List.range k).filterMap λ(m:Nat)=>xs[((i:Int)+(m:Int)*1).toNat]?).toArray=((xs.toList.drop i).take k).toArray:=by
 have e:(λ(m:Nat)=>xs[((i:Int)+(m:Int)*1).toNat]?)=λm=>xs[i+m]?:=by
  funext m
  have:((i:Int)+(m:Int)*1).toNat=i+m:=by omega
  rw [this]
 rw [e]
 have:=pick_run xs i k
 rw [List.filterMap_map] at this;have e2:((λx=>xs[x]?) ∘ λx=>i+x)=λm=>xs[i+m]?:=rfl;rw [e2] at this;rw [this]
theorem pF {t sl:Addr}{items:Array Value}{vl vu:Value}{lo hi:Option Int}{Q:Zv}(ht:IsTup s.heap t items)(hs:s.heap.IsSliceOf sl vl vu .none)(pl:IsPart vl lo)(pu:IsPart vu hi)
  (hw:¬(sIx items.size 0 lo=0/\sIx items.size items.size hi=items.size))
  (h:Q (.ref s.heap.objs.size) { s with heap:=s.heap.push { cls:=.type "tuple",data:=.seq ((items.toList.drop (sIx items.size 0 lo)).take (sIx items.size items.size hi-sIx items.size 0 lo)).toArray } })
  (hsz:items.size<=sizeLine):wpAny (model prog w) A (getItem (.ref t) (.ref sl)) Q E s:=by
 have htake:sizeOk (.seq ((items.toList.drop (sIx items.size 0 lo)).take (sIx items.size items.size hi-sIx items.size 0 lo)).toArray):=by
  show ((items.toList.drop (sIx items.size 0 lo)).take (sIx items.size items.size hi-sIx items.size 0 lo)).toArray.size<=sizeLine;rw [List.size_toArray,List.length_take,List.length_drop,Array.length_toList];omega
 have hj:sIx items.size items.size hi<=items.size:=Q5 _ _ (Nat.le_refl _) hi;obtain ⟨os,hos,hcs,hds⟩:=id hs;have hTs:s.TypeIs (.ref sl) "slice":=⟨os,hos,hcs⟩;unfold getItem
 try with_reducible refine wpAny_holding ?_
 first | refine wpAny_bind (wpAny_pure ?_) | skip
 refine wpAny_bind (wpAny_sequenceKey ht.typeIs (by decide) ?_);refine wpAny_bind (wpAny_callSpecial?_slot (name:=Str.ofString "__getitem__") ht.typeIs PyProof.Rows.slot_tuple_getitem
  (wpAny_call_entry PyProof.Rows.slot_tuple_getitem ht.typeIs entry_tuple_getitem ?_ (args_tuple_getitem _ _)))
 show wpAny _ _ (Builtin.Tuple.tupleItemsOf (.ref t) >>= _) _ _ s;refine wpAny_bind (tupleItemsOf_ ht ?_);refine wpAny_bind (wpAny_typeOf hTs ?_);rw [if_pos (by decide)];refine wpAny_bind (p8 hs pl pu ?_);have hno:¬((((sIx items.size 0 lo:Nat):Int) == 0 && (1:Int) == 1 && (sIx items.size items.size hi-sIx items.size 0 lo) == items.size)=true):=by
  intro q;rw [Bool.and_eq_true,Bool.and_eq_true] at q;have q1:((sIx items.size 0 lo:Nat):Int)=0:=eq_of_beq q.1.1;have q2:sIx items.size items.size hi-sIx items.size 0 lo=items.size:=eq_of_beq q.2;exact hw ⟨by omega,by omega⟩
 show wpAny _ _ (if (((sIx items.size 0 lo:Nat):Int) == 0 && (1:Int) == 1 && (sIx items.size items.size hi-sIx items.size 0 lo) == items.size)=true then _ else _) _ _ s;rw [if_neg hno,Jx]
 first
  |exact wpAny_bind (m:=Builtin.Tuple.tupleExact _) (wpAny_newObj_type (wpAny_pure ⟨_,rfl,wpAny_pure h⟩) htake)
  |exact wpAny_bind (m:=Builtin.Tuple.tupleExact _) (wpAny_newObj_type (wpAny_bind (wpAny_pure (wpAny_pure ⟨_,rfl,wpAny_pure h⟩))) htake)
  |exact wpAny_bind (wpAny_bind (m:=Builtin.Tuple.tupleExact _) (wpAny_newObj_type (wpAny_pure (wpAny_pure ⟨_,rfl,wpAny_pure h⟩)) htake))
  |exact wpAny_bind (wpAny_bind (m:=Builtin.Tuple.tupleExact _) (wpAny_newObj_type (wpAny_pure ⟨_,rfl,wpAny_pure h⟩) htake))
end
end HT
namespace L2
open PySem PySem.Spec PyProof.Rows
abbrev TO:=St->Hp->(Option Int->Hp->Prop)->Prop
def PO (X:Cx)(e:Option Expr)(t:TO):Prop:=
 ∀(pins:Zo) (s:Shared) (σ:St) (H:Hp) (Q:Option Int->Hp->Prop),Inv X pins σ H s->t σ H Q->
  wpAny (model X.prog X.w) X.A (evalPart e X.env) (λu s'=>∃o H',Inv X pins σ H' s'/\IsPart u o/\Q o H') X.xe s
def K7:TO:=λ_ H Q=>Q none H
def Ud (t:TE):TO:=λσ H Q=>t σ H λx H1=>∃i,x=.int i/\Q (some i) H1
theorem intsAre_of:∀{us:List Value},Vals (ns.map V.int) us->IntsAre us ns:=by
 induction ns with
 |nil=>intro us r;rw [List.map_nil] at r;cases r;exact .nil
 |cons n ns ih=>
  intro us r;rw [List.map_cons] at r;cases r with
  |cons r1 r2=>
   obtain ⟨t,e⟩:=r1;subst e;exact .cons n t (ih r2)
section
variable {X:Cx}{e:Expr}{te:TE}{lo hi:Option Expr}{tl th:TO}{pos p2:Pos}
theorem Li:PO X none K7:=by
 intro pins s σ H Q I h;rw [evalPart_none];exact wpAny_pure ⟨none,H,I,.none,h⟩
theorem Kl (h:PE X e te):PO X (some e) (Ud te):=by
 intro pins s σ H Q I hw;rw [evalPart_some];refine thn (h pins s σ H _ I hw) λu s1 hE=>xq2 hE λx H1 I1 r1 q1=>?_;obtain ⟨i,rfl,q⟩:=q1;obtain ⟨t,rfl⟩:=r1;exact ⟨some i,H1,I1,.int i t,q⟩
def SlR (X:Cx)(r:V->Option Int->Option Int->Hp->VK->Prop):Prop:=
 ∀(pins:Zo) (s:Shared) (σ:St) (H:Hp) (x:V) (v vl vu:Value) (lo hi:Option Int) (sl:Addr) (Q:VK),Inv X pins σ H s->RelV x v->s.heap.IsSliceOf sl vl vu .none->IsPart vl lo->IsPart vu hi->r x lo hi H Q->
  ∃T id,typeLookup (.type T) "__getitem__" = pure (some (.builtin id))/\s.TypeIs v T/\wpAny (model X.prog X.w) X.A (getItem v (.ref sl)) (EP X pins σ Q) X.xe s
def tSl (r:V->Option Int->Option Int->Hp->VK->Prop)(te:TE)(tl th:TO):TE:=λσ H Q=>te σ H λx H1=>tl σ H1 λl H2=>th σ H2 λu H3=>r x l u H3 Q
theorem Jd (hr:SlR X r)(he:PE X e te)(hl:PO X lo tl)(hu:PO X hi th):PE X (.Subscript e (.Slice lo hi none p2) pos) (tSl r te tl th):=by
 intro pins s σ H Q I h;refine Subscript_ (thn (he pins s σ H _ I h) λv s1 hE=>xq2 hE λx H1 I1 r1 q1=>?_);refine wpAny_Slice (thn (hl pins s1 σ H1 _ I1 q1) λvl s2 ⟨l,H2,I2,pl,q2⟩=>thn (hu pins s2 σ H2 _ I2 q2) λvu s3 ⟨u,H3,I3,pu,q3⟩=>?_);rw [evalPart_none];refine wpAny_pure ?_;have I4:Inv X pins σ H3 { s3 with heap:=s3.heap.push { cls:=.type "slice",data:=.fields #[vl,vu,.none] } }:=I3.kept (t':=s3.toks) λb ob q=>Heap.get?_push_of_some _ q;obtain ⟨T,id,hT,ht,hg⟩:=hr pins { s3 with heap:=s3.heap.push { cls:=.type "slice",data:=.fields #[vl,vu,.none] } } σ H3 x v vl vu l u s3.heap.objs.size Q I4 r1 (Heap.IsSliceOf.new ..) pl pu q3;show wpAny (model X.prog X.w) X.A (subscriptTail e (.Slice lo hi none p2) v (.ref s3.heap.objs.size)) (EP X pins σ Q) X.xe { s3 with heap:=s3.heap.push { cls:=.type "slice",data:=.fields #[vl,vu,.none] } };exact tail_any (ops:=[.ref s3.heap.objs.size,v]) ht hT hg (by with_unfolding_all rfl)
def yh (xs:List V)(lo hi:Option Int):List V:=(xs.drop (HT.sIx xs.length 0 lo)).take (HT.sIx xs.length xs.length hi-HT.sIx xs.length 0 lo)
theorem qy (xs:List V)(lo hi:Option Int):(yh xs lo hi).length<=xs.length:=by
 unfold yh;rw [List.length_take,List.length_drop];omega
def VM (K:W.Frag):V->Option Int->Option Int->Hp->VK->Prop:=λx lo hi H Q=>∃a xs,x=.ref a/\SqT K H a xs/\
 ¬(HT.sIx xs.length 0 lo=0/\HT.sIx xs.length xs.length hi=xs.length)/\∀p,H p=none->Q (.ref p) (upd H p (.tup (yh xs lo hi)))
theorem Qv:SlR X (VM X.K):=by
 intro pins s σ H x v vl vu lo hi sl Q I rx hs pl pu h;obtain ⟨a,xs,rfl,hx,hw,q⟩:=h;cases rx;obtain ⟨its,r,ht,hz⟩:=I.tuple hx;have hlen:its.toArray.size=xs.length:=by rw [List.size_toArray];exact r.length.symm
 refine ⟨"tuple",_,PyProof.Rows.slot_tuple_getitem.lookup,ht.typeIs,?_⟩;refine HT.pF ht hs pl pu (by rw [hlen];exact hw) ?_ (by rw [hlen];exact hz);rw [hlen];refine ⟨.ref s.heap.objs.size,_,I.laid (t':=s.toks) (o:=.tup (yh xs lo hi)) (λb ob q=>Heap.get?_push_of_some _ q) (Nat.le_refl _) ?_,rfl,q _ (I.hok.fresh (Nat.le_refl _))⟩;exact ⟨Nat.le_trans (qy xs lo hi) hz,_,(r.drop (HT.sIx xs.length 0 lo)).take (HT.sIx xs.length xs.length hi-HT.sIx xs.length 0 lo),IsTup.new _ _⟩
def Ve (K:W.Frag):R2:=λx y H Q=>∃a b ns ms,x=.ref a/\y=.ref b/\SqT K H a (ns.map V.int)/\SqT K H b (ms.map V.int)/\Q (.bl (HT.lexLt ns ms)) H
theorem PN (hu:X.A.units<cLine):OpR X (compareOp .Lt) (Ve X.K):=by
 intro pins s σ H x y v u Q I rx ry h;obtain ⟨a,b,ns,ms,rfl,rfl,ha,hb,q⟩:=h;cases rx;cases ry;obtain ⟨its,r1,p1,_⟩:=I.tuple ha;obtain ⟨its2,r2,p2,_⟩:=I.tuple hb;have i1:IntsAre its.toArray.toList ns:=intsAre_of r1;have i2:IntsAre its2.toArray.toList ms:=intsAre_of r2;exact HT.Ac p1 p2 i1 i2 hu ⟨.bl (HT.lexLt ns ms),H,I,rfl,q⟩
def R9 (K:W.Frag):R2:=λx y H Q=>∃a b xs ys,x=.ref a/\y=.ref b/\SqT K H a xs/\SqT K H b ys/\xs≠[]/\xs.length+ys.length<=sizeLine/\
 (ys=[]->Q (.ref a) H)/\(ys≠[]->∀p,H p=none->Q (.ref p) (upd H p (.tup (xs++ys))))
theorem Vals.vZ (r:Vals xs us):us=[]↔xs=[]:=by
 cases r with
 |nil=>simp
 |cons _ _=>simp
theorem LK:OpR X (binaryOp .Add) (R9 X.K):=by
 intro pins s σ H x y v u Q I rx ry h;obtain ⟨a,b,xs,ys,rfl,rfl,ha,hb,hx,hz,q1,q2⟩:=h;cases rx;cases ry;obtain ⟨its,r1,p1,_⟩:=I.tuple ha;obtain ⟨its2,r2,p2,_⟩:=I.tuple hb;refine HT.KZ p1 p2 (λz=>hx (r1.vZ.mp z)) (λz=>⟨.ref a,H,I,rfl,q1 (r2.vZ.mp z)⟩) (λz=>?_) (by rw [← r1.length,← r2.length];exact hz);refine ⟨.ref s.heap.objs.size,_,I.laid (t':=s.toks) (o:=.tup (xs++ys)) (λb ob q=>Heap.get?_push_of_some _ q) (Nat.le_refl _) ?_,rfl,q2 (λw=>z (r2.vZ.mpr w)) _ (I.hok.fresh (Nat.le_refl _))⟩;exact ⟨by rw [List.length_append];exact hz,_,r1.append r2,IsTup.new _ _⟩
end
def ixN (n:Nat)(i:Int):Option Nat:=if 0<=i then (if i<n then some i.toNat else none) else if -(n:Int)<=i then some (i+n).toNat else none
def atI {α:Type}(xs:List α)(i:Int):Option α:=(ixN xs.length i).bind λj=>xs[j]?
theorem Az (h:ixN n i=some j):seqIndex? i n=some j/\j<n/\-(n:Int)<=i/\i<n:=by
 unfold ixN at h;by_cases h0:0<=i
 ·rw [if_pos h0] at h;by_cases h1:i<n
  ·rw [if_pos h1] at h;have e:i.toNat=j:=Option.some.inj h;exact ⟨by rw [seqIndex_of h0 h1,e],by omega,by omega,h1⟩
  ·rw [if_neg h1] at h;cases h
 ·rw [if_neg h0] at h;by_cases h1:-(n:Int)<=i
  ·rw [if_pos h1] at h;have e:(i+n).toNat=j:=Option.some.inj h;exact ⟨by rw [seqIndex_neg (by omega) h1,e],by omega,h1,by omega⟩
  ·rw [if_neg h1] at h;cases h
theorem vR (h:atI xs i=some v):∃j,seqIndex? i xs.length=some j/\xs[j]? = some v/\j<xs.length/\-(xs.length:Int)<=i/\i<xs.length:=by
 unfold atI at h;cases e:ixN xs.length i with
 |none=>rw [e] at h;cases h
 |some j=>
  rw [e] at h;obtain ⟨h1,h2,h3,h4⟩:=Az e;exact ⟨j,h1,h,h2,h3,h4⟩
theorem Bc {α:Type}{xs:List α}{j:Nat}{v:α}(h:xs[j]? = some v):atI xs (j:Int)=some v:=by
 have hj:j<xs.length:=(List.getElem?_eq_some_iff.mp h).1;have e:ixN xs.length (j:Int)=some j:=by
  unfold ixN;rw [if_pos (by omega),if_pos (by omega)];simp
 unfold atI;rw [e];exact h
def Cz (b:Expr):Prop:=∀o i,subscripted b false o i=operate [o,i] (getItem o i)
def IxR (X:Cx)(r:R2):Prop:=
 ∀(value slice:Expr) (pins:Zo) (s:Shared) (σ:St) (H:Hp) (x y:V) (v u:Value) (Q:VK),Inv X pins σ H s->RelV x v->RelV y u->r x y H Q->
  subscripted slice false v u=operate [v,u] (getItem v u)->wpAny (model X.prog X.w) X.A (subscriptTail value slice v u) (EP X pins σ Q) X.xe s
def MtR (X:Cx)(id:String)(r:V->List V->Hp->VK->Prop):Prop:=
 ∀(pins:Zo) (s:Shared) (σ:St) (H:Hp) (x:V) (xs:List V) (v:Value) (us:List Value) (Q:VK),Inv X pins σ H s->RelV x v->Vals xs us->r x xs H Q->
  wpAny (model X.prog X.w) X.A (call (.builtin id) (v::us)) (EP X pins σ Q) X.xe s
section
variable {X:Cx}{a b:Expr}{ta tb:TE}{pos:Pos}
theorem Uk (hr:IxR X r)(ha:PE X a ta)(hb:PE X b tb)(hs:Cz b):PE X (.Subscript a b pos) (tOp r ta tb):=by
 intro pins s σ H Q I h;exact Subscript_ (Qa ha hb I h λv u s2 x y H2 I2 rx ry q=>hr a b pins s2 σ H2 x y v u Q I2 rx ry q (hs _ _))
def UW (K:W.Frag):R2:=λx y H Q=>∃p xs i v,x=.ref p/\y=.int i/\SqL K H p xs/\atI xs i=some v/\Q v H
def VF (K:W.Frag):R2:=λx y H Q=>∃p xs i v,x=.ref p/\y=.int i/\SqT K H p xs/\atI xs i=some v/\Q v H
def VG:R2:=λx y H Q=>∃z i c,x=.str z/\y=.int i/\z.length<=sizeLine/\atI z.cps.toList i=some c/\Q (.str ⟨#[c]⟩) H
theorem NK:IxR X (UW X.K):=by
 intro value slice pins s σ H x y v u Q I rx ry h hs;obtain ⟨p,xs,i,z,rfl,rfl,hq,he,q⟩:=h;cases rx;obtain ⟨t,rfl⟩:=ry;obtain ⟨its,r,pl,hz⟩:=I.list hq;obtain ⟨j,h1,h2,h3,h4,h5⟩:=vR he;obtain ⟨w,ew,rw'⟩:=r.get h2;have hl:=r.length;have hn:=pW;have fin:EP X pins σ Q w s:=⟨z,H,I,rw',q⟩;by_cases h0:0<=i
 ·have hj:i.toNat=j:=by
   rw [seqIndex_of h0 h5] at h1;exact Option.some.inj h1
  exact item_listR pl.isList h0 (by omega) (by rw [hj];simpa using ew) fin hs
 ·have hj:(i+(its.toArray.size:Int)).toNat=j:=by
   rw [seqIndex_neg (by omega) h4] at h1;rw [List.size_toArray,← hl];exact Option.some.inj h1
  exact subscriptTail_builtinR (x:=w) pl.isList.typeIs slot_list_getitem.lookup
   (wpAny_getItem_list_neg (Q:=λr s'=>r=w/\EP X pins σ Q r s') pl.isList (by omega) (by rw [List.size_toArray]<;>omega) (by omega) (by rw [hj];simpa using ew) ⟨rfl,fin⟩) hs
theorem Ro:IxR X (VF X.K):=by
 intro value slice pins s σ H x y v u Q I rx ry h hs;obtain ⟨p,xs,i,z,rfl,rfl,hq,he,q⟩:=h;cases rx;obtain ⟨t,rfl⟩:=ry;obtain ⟨its,r,pl,hz⟩:=I.tuple hq;obtain ⟨j,h1,h2,h3,h4,h5⟩:=vR he;obtain ⟨w,ew,rw'⟩:=r.get h2;have hl:=r.length;have hn:=pW;have fin:EP X pins σ Q w s:=⟨z,H,I,rw',q⟩;exact subscriptTail_builtinR (x:=w) pl.typeIs slot_tuple_getitem.lookup
  (getItem_tuple (j:=j) (Q:=λr s'=>r=w/\EP X pins σ Q r s') pl (by omega) (by omega) (by rw [List.size_toArray,← hl];exact h1) (by simpa using ew) ⟨rfl,fin⟩) hs
theorem Rg:IxR X VG:=by
 intro value slice pins s σ H x y v u Q I rx ry h hs;obtain ⟨z,i,c,rfl,rfl,hz,he,q⟩:=h;obtain ⟨t,rfl⟩:=rx;obtain ⟨t',rfl⟩:=ry;obtain ⟨j,h1,h2,h3,h4,h5⟩:=vR he;have hl:z.cps.toList.length=z.length:=by simp [Str.length]
 rw [hl] at h1 h4 h5;have hn:=pW;exact tail_any (typeIs_str s z t) slot_str_getitem.lookup (getItem_str (c:=c) (by
  have e1:decide (i < -(2 ^ 63:Int))=false:=decide_eq_false (by omega);have e2:decide (i ≥ 2 ^ 63)=false:=decide_eq_false (by omega);rw [e1,e2,Bool.or_false]) (by rw [h1];simpa using h2) ⟨.str ⟨#[c]⟩,H,I.tok _,⟨_,rfl⟩,q⟩) hs
theorem Ab (its:List Value)(n j:Nat)(u:Value):Obj.mapSeq (·.setIfInBounds j u) { cls:=.type "list",data:=.seq its.toArray n }={ cls:=.type "list",data:=.seq (its.set j u).toArray n }:=by
 simp [Obj.mapSeq]
theorem Inv.lst (I:Inv X pins σ H s)(h:H p=some (.lst xs)):
  ∃(its:List Value) (n:Nat),Vals xs its/\s.heap.get? p=some { cls:=.type "list",data:=.seq its.toArray n }/\xs.length<=sizeLine:=by
 obtain ⟨z,its,n,r,e⟩:=I.hok p _ h;exact ⟨its,n,r,e,z⟩
theorem Inv.QF {s:Shared}{xs ys:List V}{its its':List Value}(I:Inv X pins σ H s)(h:H p=some (.lst xs))
  (ho:s.heap.get? p=some { cls:=.type "list",data:=.seq its.toArray n }) (hf:f { cls:=.type "list",data:=.seq its.toArray n }={ cls:=.type "list",data:=.seq its'.toArray n' }) (r:Vals ys its') (hz:ys.length<=sizeLine) (t:Nat):
  Inv X pins σ (upd H p (.lst ys)) { s with heap:=s.heap.update p f,toks:=t }:=by
 have e:(s.heap.update p f).get? p=some { cls:=.type "list",data:=.seq its'.toArray n' }:=by
  rw [Heap.get?_update_self f ho (by rw [hf]<;>rfl),hf]
 refine I.write (x:=p) (e:=p) (by rw [h];trivial) (.inl rfl) (λb u hb q=>(Heap.get?_update_other _ _ (Ne.symm hb)).trans q) ⟨_,e⟩ ?_;exact ⟨hz,its',n',r,e⟩
def Tu:V->V->V->Hp->(Hp->Prop)->Prop:=λo i v H Q=>∃p xs k j,o=.ref p/\i=.int k/\H p=some (.lst xs)/\ixN xs.length k=some j/\Q (upd H p (.lst (xs.set j v)))
theorem set_list:T5 X Tu:=by
 intro pins s σ H o i v ov iv u Q I ro ri rv h;obtain ⟨p,xs,k,j,rfl,rfl,hp,hj,q⟩:=h;cases ro;obtain ⟨t,rfl⟩:=ri;obtain ⟨its,n,r,ho,hz⟩:=I.lst hp;obtain ⟨h1,h2,h3,h4⟩:=Az hj;have hl:=r.length;have hn:=pW;have I':Inv X pins σ (upd H p (.lst (xs.set j v))) { s with heap:=s.heap.update p (Obj.mapSeq (·.setIfInBounds j u)) }:=
  I.QF hp ho (Ab its n j u) (r.set rv j) (by rw [List.length_set];exact hz) s.toks
 by_cases h0:0<=k
 ·have hk:k.toNat=j:=by
   rw [seqIndex_of h0 h4] at h1;exact Option.some.inj h1
  exact W.ki_setAt ho h0 (by omega) (by rw [List.size_toArray,← hl];exact h4) (by rw [hk];exact ⟨_,I',q⟩)
 ·have hk:(k+(its.toArray.size:Int)).toNat=j:=by
   rw [seqIndex_neg (by omega) h3] at h1;rw [List.size_toArray,← hl];exact Option.some.inj h1
  exact W.ki_setBack ho (by omega) (by rw [List.size_toArray,← hl];exact h3) (by omega) (by rw [hk];exact ⟨_,I',q⟩)
theorem xH (lo hi:Option Int)(n:Nat):(sliceBounds lo hi none n).1=((HT.sIx n 0 lo:Nat):Int)/\(sliceBounds lo hi none n).2.1=((HT.sIx n n hi:Nat):Int)/\(sliceBounds lo hi none n).2.2=1:=by
 refine ⟨?_,?_,rfl⟩
 ·cases lo with
  |none=>simp [sliceBounds,HT.sIx]
  |some i=>
   simp only [sliceBounds,HT.sIx,Option.getD_none,show (1:Int) > 0 by decide,if_true];by_cases h:i<0
   ·simp only [h,if_true]<;>omega
   ·simp only [h,if_false]<;>omega
 ·cases hi with
  |none=>simp [sliceBounds,HT.sIx]
  |some i=>
   simp only [sliceBounds,HT.sIx,Option.getD_none,show (1:Int) > 0 by decide,if_true];by_cases h:i<0
   ·simp only [h,if_true]<;>omega
   ·simp only [h,if_false]<;>omega
theorem uO (its:List Value)(lo hi:Option Int):slicePick its.toArray lo hi none=((its.drop (HT.sIx its.length 0 lo)).take (HT.sIx its.length its.length hi-HT.sIx its.length 0 lo)).toArray:=by
 obtain ⟨h1,h2,h3⟩:=xH lo hi its.toArray.size;unfold slicePick;rw [h1,h2,h3];simp only [sliceRange_one,pick_run,List.size_toArray]<;>rfl
def U6 (K:W.Frag):V->Option Int->Option Int->Hp->VK->Prop:=λx lo hi H Q=>∃a xs,x=.ref a/\SqL K H a xs/\∀p,H p=none->Q (.ref p) (upd H p (.lst (yh xs lo hi)))
theorem KC:SlR X (U6 X.K):=by
 intro pins s σ H x v vl vu lo hi sl Q I rx hs pl pu h;obtain ⟨a,xs,rfl,hx,q⟩:=h;cases rx;obtain ⟨its,r,ht,hz⟩:=I.list hx;have hlen:=r.length;refine ⟨"list",_,slot_list_getitem.lookup,ht.isList.typeIs,?_⟩;refine wpAny_getItem_list_slice ht.isList hs pl pu .none (by simp) ?_ (by rw [List.size_toArray]<;>omega);rw [uO,← hlen];refine ⟨.ref s.heap.objs.size,_,I.laid (t':=s.toks) (o:=.lst (yh xs lo hi)) (λb ob q=>Heap.get?_push_of_some _ q) (Nat.le_refl _) ?_,rfl,q _ (I.hok.fresh (Nat.le_refl _))⟩;exact ⟨Nat.le_trans (qy xs lo hi) hz,_,0,(r.drop (HT.sIx xs.length 0 lo)).take (HT.sIx xs.length xs.length hi-HT.sIx xs.length 0 lo),Heap.get?_push_size _ rfl⟩
theorem pG:fB X (.builtin "len") (λxs H Q=>∃p ys,xs=[.ref p]/\(SqL X.K H p ys\/SqT X.K H p ys)/\Q (.int ys.length) H):=by
 intro pins s σ H xs us Q I r h;obtain ⟨p,ys,rfl,hq,q⟩:=h;obtain ⟨u,rfl,rx⟩:=vals1 r;cases rx;have hn:=pW;rcases hq with hq | hq
 ·obtain ⟨its,r',pl,hz⟩:=I.list hq;have hlen:=r'.length;exact Calls.call_len_list pl.isList (by simp only [List.size_toArray]<;>omega) ⟨.int ys.length,H,I.tok _,⟨s.toks+1,by rw [List.size_toArray,hlen]⟩,q⟩
 ·obtain ⟨its,r',pl,hz⟩:=I.tuple hq;have hlen:=r'.length;exact len_tuple pl (by simp only [List.size_toArray]<;>omega) ⟨.int ys.length,H,I.tok _,⟨s.toks+1,by rw [List.size_toArray,hlen]⟩,q⟩
theorem wO:fB X (.builtin "len") (λxs H Q=>∃z,xs=[.str z]/\z.length<=sizeLine/\Q (.int z.length) H):=by
 intro pins s σ H xs us Q I r h;obtain ⟨z,rfl,hz,q⟩:=h;obtain ⟨u,rfl,t,rfl⟩:=vals1 r;have hn:=pW;exact len_str (by omega) ⟨.int z.length,H,I.tok _,⟨_,rfl⟩,q⟩
theorem nM:fB X (.type "tuple") (λxs H Q=>∃p ys,xs=[.ref p]/\((SqL X.K H p ys/\∀l,H l=none->Q (.ref l) (upd H l (.tup ys)))\/(SqT X.K H p ys/\Q (.ref p) H))):=by
 intro pins s σ H xs us Q I r h;obtain ⟨p,ys,rfl,h⟩:=h;obtain ⟨u,rfl,rx⟩:=vals1 r;cases rx;rcases h with ⟨hq,q⟩ | ⟨hq,q⟩
 ·obtain ⟨its,r',pl,hz⟩:=I.list hq;have hlen:=r'.length;refine call_tuple_list pl.isList (λh' kp=>?_) (by simp only [List.size_toArray]<;>omega);have I1:Inv X pins σ H { s with heap:=h' }:=I.kept (t':=s.toks) kp;have I2:Inv X pins σ (upd H h'.objs.size (.tup ys)) { s with heap:=h'.push { cls:=.type "tuple",data:=.seq its.toArray } }:=
   I1.laid (t':=s.toks) (λb o e=>Heap.get?_push_of_some _ e) (Nat.le_refl _) (show cI X.prog X.w _ _ _ (.tup ys) from ⟨hz,its,r',IsTup.new _ _⟩)
  exact ⟨.ref h'.objs.size,_,I2,rfl,q _ (I1.hok.fresh (Nat.le_refl _))⟩
 ·obtain ⟨its,r',pl,hz⟩:=I.tuple hq;exact call_tuple_same pl ⟨.ref p,H,I,rfl,q⟩
def tyV (K:W.Frag)(T:String)(x:V)(H:Hp):Prop:=match x with
 | .str _=>T = "str"
 | .int _=>T = "int"
 | .ref p=>(T = "list"/\∃xs,SqL K H p xs)\/(T = "tuple"/\∃o,K.lookup p=some o/\o.cls=.type "tuple"/\o.dict=none) ∨
   (T = "dict"/\((∃kvs,H p=some (.dK kvs))\/∃T kvs,Rd H p (.dT T kvs)))\/(T = "set"/\∃S n,H p=some (.set S n))
 |_=>False
theorem GP (I:Inv X pins σ H s)(r:RelV x v)(ty:tyV X.K T x H):
  s.TypeIs v T/\∀a,v=.ref a->∃ob,s.heap.get? a=some ob/\ob.dict=none:=by
 cases x with
 |str z=>
  obtain ⟨t,rfl⟩:=r;cases (show T = "str" from ty);exact ⟨typeIs_str s z t,λ_ e=>nomatch e⟩
 |int i=>
  obtain ⟨t,rfl⟩:=r;cases (show T = "int" from ty);exact ⟨typeIs_int s i t,λ_ e=>nomatch e⟩
 |ref p=>
  cases r;rcases ty with ⟨rfl,xs,hq⟩ | ⟨rfl,o,hk,hc,hd⟩ | ⟨rfl,hk⟩ | ⟨rfl,S,n,hk⟩
  ·obtain ⟨its,_,pl,_⟩:=I.list hq;refine ⟨pl.isList.typeIs,λa e=>?_⟩;cases e;obtain ⟨o,n,e,c,hd,_⟩:=pl;exact ⟨o,e,hd⟩
  ·refine ⟨⟨o,I.kIn p o hk,hc⟩,λa e=>?_⟩;cases e;exact ⟨o,I.kIn _ o hk,hd⟩
  ·have z:∃o,s.heap.get? p=some o/\o.ExactDict:=by
    rcases hk with ⟨kvs,hk⟩ | ⟨_,kvs,hk⟩
    ·obtain ⟨_,_,_,_,o,_,_,e,ex,_⟩:=I.hok p _ hk;exact ⟨o,e,ex⟩
    ·obtain ⟨_,_,_,_,o,_,_,e,ex,_⟩:=(show cI X.prog X.w H s.heap p (.dT _ kvs) from hk.ok I.hok);exact ⟨o,e,ex⟩
   obtain ⟨o,e,ex⟩:=z;refine ⟨⟨o,e,ex.1⟩,λa e2=>?_⟩;cases e2;exact ⟨o,e,ex.2.1⟩
  ·obtain ⟨o,_,_,_,e,ex,_⟩:=I.hok p _ hk;refine ⟨⟨o,e,ex.1⟩,λa e2=>?_⟩;cases e2;exact ⟨o,e,ex.2.1⟩
 |_=>exact False.elim ty
def VR (K:W.Frag)(T:String)(r:V->List V->Hp->VK->Prop)(to:TE):TE:=λσ H Q=>to σ H λx H1=>tyV K T x H1/\r x [] H1 Q
def tBM (K:W.Frag)(T:String)(r:V->List V->Hp->VK->Prop)(to:TE)(t:TA):TE:=λσ H Q=>to σ H λx H1=>tyV K T x H1/\t σ H1 λxs H2=>r x xs H2 Q
variable {o e:Expr}{es:List Expr}{to:TE}{t:TA}{name:Str}{apos cpos:Pos}{T id:String}{r:V->List V->Hp->VK->Prop}
theorem zF (pa:PlainAttrs T)(slot:Slot T name id)(hty:typeOf (.builtin id)=pure (.type "method_descriptor"))(hm:MtR X id r)(ho:PE X o to)
  (hbase:attributeBase o name X.env (eval o X.env)=eval o X.env:=by rfl) (hline:(apos.endLine == cpos.line)=true:=by rfl):PE X (.Call (.Attribute o name apos) [] [] cpos) (VR X.K T r to):=by
 intro pins s σ H Q I h;refine wpAny_Call_method0_late hbase hline (thn (ho pins s σ H _ I h) λv s1 ⟨x,H1,I1,r1,ty,q1⟩=>?_);obtain ⟨h1,h2⟩:=GP I1 r1 ty;exact ⟨T,id,pa,slot,hty,h1,h2,Calls.callWith_builtin rfl (PySem.evalArgs_none (hm pins s1 σ H1 x [] v [] Q I1 r1 .nil q1))⟩
theorem Jp (pa:PlainAttrs T)(slot:Slot T name id)(hty:typeOf (.builtin id)=pure (.type "method_descriptor"))(hm:MtR X id r)(ho:PE X o to)(ha:PA X (e::es) t)
  (hbase:attributeBase o name X.env (eval o X.env)=eval o X.env:=by rfl)
  (hfew:((backTo cpos (starEach (e::es) X.env)).all (λx=>!x.1) && (backToKw cpos (keywordEach [] X.env)).all (λx=>x.1.isSome)
   && decide ((e::es).length+([]:List Keyword).length+(if ([]:List Keyword).isEmpty then 0 else 1)<30))=true:=by rfl)
  (hline:(apos.endLine == cpos.line)=true:=by rfl) (hs:starEach (e::es) X.env=(false,eval e X.env)::starEach es X.env:=by rfl) (hplain:(backTo cpos (starEach es X.env)).any (·.1)=false:=by rfl):
  PE X (.Call (.Attribute o name apos) (e::es) [] cpos) (tBM X.K T r to t):=by
 intro pins s σ H Q I h;refine wpAny_Call_method_late hbase hfew hline rfl (thn (ho pins s σ H _ I h) λv s1 ⟨x,H1,I1,r1,ty,q1⟩=>?_);obtain ⟨h1,h2⟩:=GP I1 r1 ty;refine ⟨T,id,pa,slot,hty,h1,h2,?_⟩;have hA:=ha cpos pins s1 σ H1 _ I1 q1;rw [hs] at hA ⊢;refine Calls.callWith_builtin (by show (false || (backTo cpos (starEach es X.env)).any (·.1))=false;rw [hplain]<;>rfl) (Calls.evalArgs_plain ?_);exact thn hA λus s2 hE=>xq2 hE λvs H2 I2 r2 q2=>hm pins s2 σ H2 x vs v us Q I2 r1 r2 q2
end
def MtM (X:Cx)(id:String)(r:V->List V->Hp->VK->Prop):Prop:=
 ∀(pins:Zo) (s:Shared) (σ:St) (H:Hp) (x:V) (xs:List V) (v:Value) (us:List Value) (Q:VK),Inv X pins σ H s->RelV x v->Vals xs us->r x xs H Q->
  wpAny (model X.prog X.w) X.A (call (.builtin id) (v::us)) (EP X pins σ Q) X.xe s
theorem Vals.one:∀{x:V} {us:List Value},Vals [x] us->∃u,us=[u]/\RelV x u
 |_,_,.cons r .nil=>⟨_,rfl,r⟩
theorem Vals.zero:∀{us:List Value},Vals [] us->us=[]
 |_,.nil=>rfl
theorem Vals.dropLast (h:Vals xs us):Vals xs.dropLast us.dropLast:=by
 induction h with
 |nil=>exact .nil
 |cons r t ih=>
  cases t with
  |nil=>exact .nil
  |cons q t'=>exact .cons r ih
theorem Vals.reverse (h:Vals xs us):Vals xs.reverse us.reverse:=by
 induction h with
 |nil=>exact .nil
 |cons r t ih=>rw [List.reverse_cons,List.reverse_cons];exact Vals.append ih (.cons r .nil)
theorem zz (l:List α):l.eraseIdx (l.length - 1)=l.dropLast:=by
 induction l with
 |nil=>rfl
 |cons a r ih=>
  cases r with
  |nil=>rfl
  |cons b r=>
   have e:(a::b::r).length - 1=((b::r).length - 1)+1:=by
    have h1:(a::b::r).length=r.length+2:=rfl;have h2:(b::r).length=r.length+1:=rfl;omega
   rw [e,List.eraseIdx_cons_succ,ih]
   all_goals rfl
section
variable {X:Cx}{pins:Zo}{σ:St}{H:Hp}{s:Shared}{l b:Addr}{xs ys zs:List V}
theorem Inv.R0 {its its':List Value}(I:Inv X pins σ H s)(hH:H l=some (.lst xs))
  (e:s.heap.get? l=some { cls:=.type "list",data:=.seq its.toArray n }) (hf:f its.toArray=its'.toArray) (hv:Vals ys its') (hz:ys.length<=sizeLine):
  Inv X pins σ (upd H l (.lst ys)) { s with heap:=s.heap.update l (Obj.mapSeq f),toks:=t' }:=by
 have q:=PySem.IsL.update e f;rw [hf] at q;refine I.write (x:=l) (e:=l) (by rw [hH];exact trivial) (.inl rfl) (λb' u hb hu=>(Heap.get?_update_other s.heap (Obj.mapSeq f) (Ne.symm hb)).trans hu) ⟨_,q⟩ ?_;exact ⟨hz,its',_,hv,q⟩
theorem Inv.Lg (I:Inv X pins σ H s)(hH:H l=some (.lst xs)):xs.length<=sizeLine/\∃(its:List Value) (n:Nat),Vals xs its/\xs.length=its.length/\s.heap.get? l=some { cls:=.type "list",data:=.seq its.toArray n }:=by
 obtain ⟨z,its,n,r,e⟩:=I.hok l _ hH;exact ⟨z,its,n,r,r.length,e⟩
theorem Jf (h:n<=sizeLine):Builtin.List.listTooLong n=false:=by
 unfold Builtin.List.listTooLong;exact decide_eq_false (by omega)
end
section
variable {X:Cx}
def K6:V->List V->Hp->VK->Prop:=λx vs H Q=>∃l xs y,x=.ref l/\vs=[y]/\H l=some (.lst xs)/\xs.length<sizeLine/\Q .non (upd H l (.lst (xs++[y])))
theorem qu:MtM X "list.append" K6:=by
 intro pins s σ H x vs v us Q I rx rv h;obtain ⟨l,xs,y,rfl,rfl,hH,hz,q⟩:=h;cases rx;obtain ⟨u,rfl,ru⟩:=rv.one;obtain ⟨z,its,n,r,hl,e⟩:=I.Lg hH;refine call_meets F.slot_list_append ⟨_,e,rfl⟩ F.entry_list_append (F.args_list_append_2 _ _) (PySem.list_append l its.toArray n u (by rw [List.size_toArray];omega)) ⟨e,?_⟩;refine ⟨.non,_,I.R0 (its':=its++[u]) hH e (by simp) (r.append (.cons ru .nil)) ?_,rfl,q⟩;rw [List.length_append,List.length_singleton];omega
def KY:V->List V->Hp->VK->Prop:=λx vs H Q=>∃l b xs zs,x=.ref l/\vs=[.ref b]/\H l=some (.lst xs)/\H b=some (.lst zs)/\xs.length+zs.length<=sizeLine/\Q .non (upd H l (.lst (xs++zs)))
theorem Ed:MtM X "list.extend" KY:=by
 intro pins s σ H x vs v us Q I rx rv h;obtain ⟨l,b,xs,zs,rfl,rfl,hH,hB,hz,q⟩:=h;cases rx;obtain ⟨u,rfl,ru⟩:=rv.one;cases ru;obtain ⟨z,its,n,r,hl,e⟩:=I.Lg hH;obtain ⟨z2,its2,n2,r2,hl2,e2⟩:=I.Lg hB;have hsz:its.toArray.size+its2.toArray.size<=sizeLine:=by rw [List.size_toArray,List.size_toArray];omega
 have hlong:¬(!its.toArray.isEmpty && Builtin.List.listTooLong (its.toArray.size+its2.toArray.size))=true:=by
  rw [Jf hsz,Bool.and_false];exact Bool.false_ne_true
 refine call_meets F.slot_list_extend ⟨_,e,rfl⟩ F.entry_list_extend (F.args_list_extend_2 _ _)
  (AutoSeq1.list_extend_list_list_0 l its.toArray n b its2.toArray n2 hlong (by rw [List.size_toArray];omega) (by omega)) ⟨e,e2,?_⟩
 refine ⟨.non,_,I.R0 (its':=its++its2) hH e (by simp) (r.append r2) ?_,rfl,q⟩;rw [List.length_append];omega
def Vz:V->List V->Hp->VK->Prop:=λx vs H Q=>∃l xs y,x=.ref l/\vs=[]/\H l=some (.lst xs)/\xs[xs.length - 1]? = some y/\Q y (upd H l (.lst xs.dropLast))
theorem Rk:MtM X "list.pop" Vz:=by
 intro pins s σ H x vs v us Q I rx rv h;obtain ⟨l,xs,y,rfl,rfl,hH,hy,q⟩:=h;cases rx;have hus:=rv.zero;subst hus;obtain ⟨z,its,n,r,hl,e⟩:=I.Lg hH;obtain ⟨u,hu,ru⟩:=r.get hy;have hy':its.toArray[its.toArray.size - 1]? = some u:=by
  show its.toArray[its.length - 1]? = some u;rw [← Array.getElem?_toList,← hl];exact hu
 refine call_meets F.slot_list_pop ⟨_,e,rfl⟩ F.entry_list_pop (F.args_list_pop_1 _) (MeetsSeq.list_pop_last l its.toArray n u hy' (by rw [List.size_toArray];omega)) ⟨e,?_⟩;refine ⟨y,_,I.R0 (its':=its.dropLast) hH e ?_ r.dropLast ?_,ru,q⟩
 ·show its.toArray.eraseIdxIfInBounds (its.toArray.size - 1)=its.dropLast.toArray;rw [List.size_toArray,List.eraseIdxIfInBounds_toArray,zz]
 ·rw [List.length_dropLast];omega
end
section
variable {prog:Program}{w:World}{A:Around}{E:Zv}{s:Shared}
end
section
end
end L2
namespace Att
open PySem PySem.W PySem.Calls PyProof.Rows
theorem qU:∀(ns:List Int) (vs:List Value),WellAll P h vs (ns.map WData.int)->IntsAre vs ns:=by
 intro ns;induction ns with
 |nil=>
  intro vs w;rw [List.map_nil] at w;cases w;exact .nil
 |cons n ns ih=>
  intro vs w;rw [List.map_cons] at w;cases w with
  |cons a b=>
   cases a;exact .cons _ _ (ih _ b)
theorem Du {l:OpenLaw}(hn:l.most=some n){P:Params}{h:Heap}{args:List WData}{vals:List Value}
  (hpre:l.row.toRowW.claim.pre args=true) (hwl:WellAll P h vals args):
  ∃a vs ns,vals=[Value.ref a]/\args=[WData.list (ns.map WData.int)]/\h.get? a=some { cls:=.type "list",data:=.seq vs.toArray }/\IntsAre vs ns/\ns.length<=n:=by
 have hsh:WShape.hasAll [] args [.list .int]=true:=(pre_splitW hpre).1;have hc:l.pre.holds [] { args:=args }=true:=(pre_splitW hpre).2;obtain ⟨d,r,rfl,h1,h2⟩:=hasAllW_cons hsh;obtain rfl:=hasAllW_nil h2;obtain ⟨xs,rfl,h3⟩:=hasW_list h1;obtain ⟨ns,rfl⟩:=items_int h3;have hlen:ns.length<=n:=by
  unfold OpenLaw.pre at hc;have h4:(WTm.not (.lt (.lit (.int (n:Int))) (.len (.arg 0)))).holds [] { args:=[.list (ns.map .int)] }=true:=by
   have h4:=(holds_andW hc).1;rw [hn] at h4;exact h4
  have h5:=condW_of h4 (w_not (w_lt w_lit (w_len_list (w_arg rfl))));rw [List.length_map] at h5;refine Nat.le_of_not_lt λq=>?_;have q':(n:Int)<((ns.length:Nat):Int):=by omega
  first
   |(rw [decide_eq_true q'] at h5;exact absurd h5 (by decide))
   |(simp at h5;omega)
 cases hwl with
 |cons w1 w2=>
  cases w2;cases w1 with
  |list ho hall=>exact ⟨_,_,ns,rfl,rfl,ho,qU ns _ hall,hlen⟩
theorem Fj (l:OpenLaw)(args:List WData):l.row.toRowW.claim.post args (.bool true) args=true:=
 postW_of (r:=l.row.toRowW) (X:=(true == true))
  (show WShape.has [] (.bool true) .bool=true by first | rfl | decide | simp [WShape.has,WShape.arms,WShape.armsAll])
  (show (WTm.eq .res (.lit (.bool true))).value [] { args:=args,res:=some (.bool true),after:=args }=some (.bool (true == true)) from w_eq_bool (w_res rfl) w_lit) rfl
theorem yL {l:OpenLaw}{d:DefRec}
  (hn:l.most=some n) (hdf:d.params.defaults=[])
  (call:∀(w:World) (s₀ s₁:Shared) (mg mb:Zs) (fa:Addr) (o:Obj) (pm cd doc:Value) (a:Addr) (vs:List Value) (ns:List Int),
   Ground q loose [] XP w s₀ mg mb s₁.heap->YP w s₁.heap->
   s₁.heap.get? fa=some o->o.data=.func (docDef d.name d.params d.body d.scope pm cd doc)->s₁.heap.CodeRec cd d.name->mg d.name=some (.ref fa)->
   s₁.heap.get? a=some { cls:=.type "list",data:=.seq vs.toArray }->IntsAre vs ns->ns.length<=n->s₁.gens=#[]->
   codeAny (model l.prog w) callerA (.call (.ref fa) ⟨[.ref a],[]⟩) (λr s'=>r=.ok (.ret (.bool true))/\OldK s₁.heap s'.heap/\s'.os=s₁.os/\AllBare s'.gens) s₁):
  WalkO q loose XP YP l.row.toRowW d [] (λf vs=>PySem.call f vs):=by
 intro w s₀ s₁ mg mb G Y fa o pm cd doc dV kV ho hd hcd hD hmg hg args vals as hpre hlay hrd hwl hlo;obtain rfl:dV=.none:=Dflts.none hD hdf;obtain rfl:kV=.none:=Dflts.noKw hD;obtain ⟨a,vs,ns,rfl,rfl,hobj,hints,hlen⟩:=Du hn hpre hwl;refine enter_call (codeAny_mono (call w s₀ s₁ mg mb fa o pm cd doc a vs ns G Y ho (fd_plain hd) hcd hmg hobj hints hlen hg) λr s' hq=>?_);obtain ⟨rfl,h2,h3,h4⟩:=hq;exact ⟨.inl ⟨.bool true,.bool true,[],rfl,λ_=>rfl,.bool true,Fj l _,λ_=>⟨List.Pairwise.nil,λ_ hm=>(nomatch hm)⟩⟩,h2,h3,h4⟩
section
variable {prog:Program}{w:World}{A:Around}{E:Zv}{s:Shared}{K:Frag}
end
end Att
namespace L2
open PySem PySem.Spec PyProof.Rows
theorem vG:∀{vs:List Value} {ns:List Int},IntsAre vs ns->Vals (ns.map V.int) vs
 |_,_,.nil=>.nil
 |_,_,.cons n t h=>.cons ⟨t,rfl⟩ (vG h)
def Only (H:Hp):Prop:=∀b,H b=none\/∃o xs,H b=some (.frz o (.lst xs))
theorem GK {K:W.Frag}{s₁:Shared}{vs:List Value}{ns:List Int}
  (KX:K.In s₁.heap) (hns:s₁.heap.Ns mainGlobals mg) (hb:s₁.heap.Ns builtinsNs mb) (hbb:∀x:Str,x≠"__name__"->mb x=bootBuiltins x) (hlim:s₁.heap.NoLimit) (hg:s₁.gens=#[])
  (ha:s₁.heap.get? a=some { cls:=.type "list",data:=.seq vs.toArray }) (hi:IntsAre vs ns) (hl:ns.length<=sizeLine) (hr:gW k callerA)
  (F:∀base:Heap,K.In base->base.Ns mainGlobals mg->dm P w K mg base CX k fa fd [x] sp) (hbind:∀(s:Shared) (u:Value),BindsTo s fd ⟨[u],[]⟩ [(x,u)])
  (hsp:∀H:Hp,Only H->SqL K H a (ns.map V.int)->sp [.ref a] H (λv _=>v=.bl true) λ_ _ _=>False)
  (hCX:∀H e s',CX [] H s₁ (λ_ _ _=>False) e s'->False):
  codeAny (model P w) callerA (.call (.ref fa) ⟨[.ref a],[]⟩) (λr s'=>r=.ok (.ret (.bool true))/\OldK s₁.heap s'.heap/\s'.os=s₁.os/\AllBare s'.gens) s₁:=by
 have rv:=vG hi;have lenV:=hi.length;have core:∀H:Hp,Only H->SqL K H a (ns.map V.int)->HOk P w H s₁.heap->(∀b,H b≠none->b=a)->(H a≠none->K.lookup a=none)->
   codeAny (model P w) callerA (.call (.ref fa) ⟨[.ref a],[]⟩) (λr s'=>r=.ok (.ret (.bool true))/\OldK s₁.heap s'.heap/\s'.os=s₁.os/\AllBare s'.gens) s₁:=by
  intro H hO hS hok hA hK;have base_of:∀{b:Addr} {o:Obj},s₁.heap.get? b=some o->H b=none->(v7 s₁.heap H).get? b=some o:=λe n=>J2 e n;have noA:∀{b:Addr} {o:Obj} {es:Array DictEntry} {ep:Nat},s₁.heap.get? b=some o->o.data=.dict es ep->H b=none:=λ{b o es ep} e d=>by
   cases q:H b with
   |none=>rfl
   |some u=>
    have e':b=a:=hA b (by rw [q];simp);subst e';rw [ha] at e;cases e;have d':Data.seq vs.toArray _=Data.dict es ep:=d;cases d'
  have nsK:∀{b:Addr} {m:Zs},s₁.heap.Ns b m->(v7 s₁.heap H).Ns b m:=λ{b m} ⟨o,es,ep,e,d,r⟩=>⟨o,es,ep,base_of e (noA e d),d,r⟩;have hKb:K.In (v7 s₁.heap H):=λb o e=>base_of (KX b o e) (by
   cases q:H b with
   |none=>rfl
   |some u=>
    have e':b=a:=hA b (by rw [q];simp);subst e';rw [hK (by rw [q];simp)] at e;cases e)
  have hM:Mod K mg (v7 s₁.heap H):=⟨hKb,nsK hns,⟨mb,nsK hb,hbb⟩,let ⟨mc,h1,h2⟩:=hlim;⟨mc,nsK h1,h2⟩⟩;have e0:Nu P w K mg (v7 s₁.heap H) callerA [] s₁ H:=⟨rfl,hM,λb o e=>NP e,Nat.le_of_eq (Ej _ _),trivial,λb hb=>absurd (show b∈([]:List Addr) from hb) (by simp),hok,.of_eq hg⟩;refine codeAny_mono ((F _ hKb (nsK hns)).run callerA [] s₁ H ⟨[.ref a],[]⟩ [.ref a] [.ref a] _ _ hr e0 (hbind s₁ (.ref a)) (.cons rfl .nil) (hsp H hO hS)) λr s' h=>?_;cases r with
  |error e=>exact (hCX H e s' h).elim
  |ok fl=>
   cases fl with
   |next=>exact False.elim h
   |brk=>exact False.elim h
   |cont=>exact False.elim h
   |ret u=>
    obtain ⟨v,H',os,bare,un,hok',r',q⟩:=h;have q':v=.bl true:=q;subst q';obtain rfl:u=Value.bool true:=r';refine ⟨rfl,OldK.of_keep λb o e=>?_,os,bare⟩;cases q:H b with
    |none=>exact un.keep b o e q (by intro z;exact absurd (show b∈([]:List Addr) from z) (by simp)) (by simp)
    |some u=>
     rcases hO b with z | ⟨ob,xs,z⟩
     ·rw [q] at z;cases z
     ·have z2:=un.frzs b ob _ z;obtain ⟨e1,_⟩:=hok b _ z;obtain ⟨e2,_⟩:=hok' b _ z2;rw [e] at e1;cases e1;exact e2
 cases hk:K.lookup a with
 |some o=>
  have e:=KX a o hk;rw [ha] at e;cases e;refine core (λ_=>none) (λ_=>.inl rfl) (.inr ⟨_,vs.toArray,_,hk,rfl,rfl,rfl,by rw [List.size_toArray,lenV];exact hl,by simpa using rv⟩) (λb u z=>by have z':(none:Option HO)=some u:=z;cases z') (λb z=>absurd rfl z) λz=>absurd rfl z
 |none=>
  refine core (λb=>if b=a then some (.frz { cls:=.type "list",data:=.seq vs.toArray } (.lst (ns.map V.int))) else none) (λb=>?_) (.inl (.inr ⟨{ cls:=.type "list",data:=.seq vs.toArray },if_pos rfl⟩)) (λb u z=>?_) (λb z=>?_) λ_=>hk
  ·by_cases hb:b=a
   ·exact .inr ⟨_,_,if_pos hb⟩
   ·exact .inl (if_neg hb)
  ·by_cases hb:b=a
   ·have z':=(if_pos hb).symm.trans z;cases z';subst hb;exact ⟨ha,by rw [List.length_map];exact hl,vs,_,rv,ha⟩
   ·have z':=(if_neg hb).symm.trans z;cases z'
  ·by_cases hb:b=a
   ·exact hb
   ·exact absurd (if_neg hb) z
theorem Nt {l:W.OpenLaw}{n k:Nat}{q:Program}{loose:List Str}{XP:(Zs)->Heap->Prop}{YP:World->Heap->Prop}{d:DefRec}{K:Params->W.Frag}{CX:World->CXT}{sp:World->Sp}{x:Str}
  (hn:l.most=some n) (hn2:n<=sizeLine) (hdf:d.params.defaults=[]) (hr:gW k callerA)
  (hY:∀(w:World) (h:Heap),YP w h->(K w.params).In h)
  (F:∀(w:World) (mg:Zs) (fa:Addr) (h:Heap),(K w.params).In h->h.Ns mainGlobals mg->mg d.name=some (.ref fa)->
   ∃fd:FuncData,(∀(s:Shared) (u:Value),BindsTo s fd ⟨[u],[]⟩ [(x,u)])/\
    ∀base:Heap,(K w.params).In base->base.Ns mainGlobals mg->dm l.prog w (K w.params) mg base (CX w) k fa fd [x] (sp w))
  (hsp:∀(w:World) (H:Hp) (a:Addr) (ns:List Int),ns.length<=n->Only H->SqL (K w.params) H a (ns.map V.int)->sp w [.ref a] H (λv _=>v=.bl true) λ_ _ _=>False)
  (hCX:∀(w:World) (H:Hp) (s:Shared) (e:Value) (s':Shared),CX w [] H s (λ_ _ _=>False) e s'->False):
  W.WalkO q loose XP YP l.row.toRowW d [] (λf vs=>PySem.call f vs):=by
 refine Att.yL hn hdf λw s₀ s₁ mg mb fa o pm cd doc a vs ns G Y ho hd hcd hmg hobj hints hlen hg=>?_;have KX:=hY w _ Y;obtain ⟨fd,hb,hF⟩:=F w mg fa _ KX G.T.g hmg;exact GK KX G.T.g G.T.b G.T.builtins G.T.nolimit hg hobj hints (Nat.le_trans hlen hn2) hr hF hb (λH hO hS=>hsp w H a ns hlen hO hS) λH e s'=>hCX w H s₁ e s'
def lM (s:Stmt):Arguments:=match s with
 | .FunctionDef _ a _ _ _ _ _ _ _ _=>a
 |_=>{ posonlyargs:=[],args:=[],vararg:=none,kwonlyargs:=[],kw_defaults:=[],kwarg:=none,defaults:=[] }
def iD (s:Stmt):List Stmt:=match s with
 | .FunctionDef _ _ b _ _ _ _ _ _ _=>b
 |_=>[]
def aJ (s:Stmt):Scope:=match s with
 | .FunctionDef _ _ _ _ _ _ sc _ _ _=>sc
 |_=>{ kind:=.function,names:=[],isGenerator:=false,isCoroutine:=false }
abbrev E0:XK:=λ_ _ _=>False
structure Fun (K:W.Frag)(x qual:Str)(st:Stmt)(f:Addr)(fd:FuncData):Prop where
 ex:∃(oc:Value) (od:Option Addr) (kV doc pm:Value) (an:Option Addr) (cdv ct:Value) (osl:Array (Option Value)),
  fd=W.fnOf x qual (lM st) (iD st) (aJ st) .none kV doc pm an cdv ct/\K.lookup f=some ⟨oc,od,.func fd,osl⟩/\W.codeIn K cdv qual=true
 kp:W.keepIn K (.ref f)=true
section
variable {P:Program}{w:World}{K:W.Frag}{mg:Zs}{base:Heap}
theorem Fun.binds {x qual:Str}{st:Stmt}{f:Addr}{fd:FuncData}{ps:List Str}(F:Fun K x qual st f fd)
  (h:∀(kV doc pm:Value) (an:Option Addr) (cdv ct:Value) (us:List Value),us.length=ps.length->bindArgs (W.fnOf x qual (lM st) (iD st) (aJ st) .none kV doc pm an cdv ct) ⟨us,[]⟩=pure (ps.zip us)):Binds K fd ps []:=by
 obtain ⟨oc,od,kV,doc,pm,an,cdv,ct,osl,rfl,lk,hcd⟩:=F.ex;exact .all (h kV doc pm an cdv ct)
theorem O9 {x qual:Str}{st:Stmt}{f:Addr}{oc:Value}{od an:Option Addr}{osl:Array (Option Value)}{kV doc pm cdv ct:Value}(l:K.lookup f=some ⟨oc,od,.func (W.fnOf x qual (lM st) (iD st) (aJ st) .none kV doc pm an cdv ct),osl⟩)
  (c:W.codeIn K cdv qual=true) (k:W.keepIn K (.ref f)=true):Fun K x qual st f (W.fnOf x qual (lM st) (iD st) (aJ st) .none kV doc pm an cdv ct):=⟨⟨oc,od,kV,doc,pm,an,cdv,ct,osl,rfl,l,c⟩,k⟩
end
section
end
def aH (H H':Hp):Prop:=∀b o,H b=some o->H' b=some o
theorem aH.refl (H:Hp):aH H H:=λ_ _ h=>h
theorem aH.trans (a:aH H H1)(b:aH H1 H2):aH H H2:=λc o h=>b c o (a c o h)
theorem aH.free (e:aH H H'){l:Addr}(h:H' l=Option.none):H l=Option.none:=by
 cases q:H l with
 |none=>rfl
 |some o=>
  rw [e l o q] at h;cases h
end L2
set_option maxHeartbeats 4000000
namespace Hd
open PySem PySem.Spec PyProof.Rows L2
abbrev St:=L2.St
theorem Gw (h:n<2 ^ k)(hk:0<k):n.log2<k:=by
 by_cases z:n=0
 ·rw [z];exact hk
 ·exact (Nat.log2_lt z).mpr h
@[irreducible] def lmM:Nat:=2 ^ 60000
@[irreducible] def lmD:Nat:=2 ^ 8900
theorem Kg:lmM=2 ^ 60000:=by unfold lmM;rfl
theorem yV:lmD=2 ^ 8900:=by unfold lmD;rfl
theorem bits_le (h:i.natAbs<lmM):Builtin.Int.intBits i<=60000:=by
 unfold Builtin.Int.intBits;split
 ·exact Nat.zero_le _
 ·rw [Kg] at h;exact Gw (k:=60000) h (by decide)
def Tn (_ j:Int):Prop:=j≠0/\j.natAbs<lmD
def Hk (i j:Int):Prop:=i.natAbs<lmM/\j.natAbs<lmM
theorem Hk.ok (h:Hk i j):IntMulOk i j:=by
 have h1:=bits_le h.1;have h2:=bits_le h.2;have hb:bitsLine=134217728:=rfl;have z:Builtin.Int.intTooBig (Builtin.Int.intBits i+Builtin.Int.intBits j)=false:=by
  unfold Builtin.Int.intTooBig;refine decide_eq_false ?_;omega
 unfold IntMulOk;rw [z]
 simp
section
theorem Iw:OpR X (binaryOp .FloorDiv) (rI Tn λi j=>.int (i.fdiv j)):=
 opI λ_ _ _ _ _ _ _ hc q=>floordiv_int hc.1 q (.inl (PyProof.noPylong_of_log2 (Nat.lt_of_lt_of_le (Gw (k:=8900) (yV ▸ hc.2) (by decide)) (by decide))))
theorem Oc:OpR X (binaryOp .Mult) (rI Hk λi j=>.int (i*j)):=opI λ_ _ _ _ _ _ _ hc q=>mul_int q hc.ok
end
mutual
inductive DV (K:W.Frag)(H:Hp):V->PyData->Prop where
 |non:DV K H .non .none
 |bl (b:Bool):DV K H (.bl b) (.bool b)
 |int (i:Int):DV K H (.int i) (.int i)
 |str (x:Str):DV K H (.str x) (.str x)
 |tup {a:Addr} {xs:List V} {ds:List PyData}:SqT K H a xs->DVs K H xs ds->DV K H (.ref a) (.tuple ds)
 |lst {a:Addr} {xs:List V} {ds:List PyData}:SqL K H a xs->DVs K H xs ds->DV K H (.ref a) (.list ds)
inductive DVs (K:W.Frag)(H:Hp):List V->List PyData->Prop where
 |nil:DVs K H [] []
 |cons {v:V} {vs:List V} {d:PyData} {ds:List PyData}:DV K H v d->DVs K H vs ds->DVs K H (v::vs) (d::ds)
end
section
mutual
theorem DV.reads (I:Inv X pins σ H s):∀{v:V} {d:PyData} {u:Value},DV X.K H v d->RelV v u->∃as,Reads s.heap u d as
 |_,_,u,.non,r=>by cases (show u=Value.none from r);exact ⟨_,.none⟩
 |_,_,u,.bl b,r=>by cases (show u=Value.bool b from r);exact ⟨_,.bool b⟩
 |_,_,u,.int i,r=>by obtain ⟨t,e⟩:=(show ∃t,u=Value.int i t from r);subst e;exact ⟨_,.int i t⟩
 |_,_,u,.str x,r=>by obtain ⟨t,e⟩:=(show ∃t,u=Value.str x t from r);subst e;exact ⟨_,.str x t⟩
 |_,_,u,.tup (a:=a) h hs,r=>by
  cases (show u=Value.ref a from r);obtain ⟨its,rv,⟨o,ho,hc,n,hd⟩,_⟩:=I.tuple h;obtain ⟨as,ra⟩:=DVs.reads I hs rv;exact ⟨as,.tuple ho hc hd (by simpa using ra)⟩
 |_,_,u,.lst (a:=a) h hs,r=>by
  cases (show u=Value.ref a from r);obtain ⟨its,rv,⟨o,n,ho,hc,_,hd⟩,_⟩:=I.list h;obtain ⟨as,ra⟩:=DVs.reads I hs rv;exact ⟨a::as,.list ho hc hd (by simpa using ra)⟩
theorem DVs.reads (I:Inv X pins σ H s):∀{vs:List V} {ds:List PyData} {us:List Value},DVs X.K H vs ds->Vals vs us->∃as,ReadsAll s.heap us ds as
 |_,_,_,.nil,.nil=>⟨[],.nil⟩
 |_,_,_,.cons h hs,.cons r rs=>by
  obtain ⟨as,ra⟩:=DV.reads I h r;obtain ⟨bs,rb⟩:=DVs.reads I hs rs;exact ⟨as++bs,.cons ra rb⟩
end
end
section
def Vo (K:W.Frag):R2:=λx y H Q=>∃d e,DV K H x d/\DV K H y e/\SeqAt.shaped d=true/\SeqAt.shaped e=true/\Q (.bl (PyData.eqv d e)) H
def U7 (K:W.Frag):R2:=λx y H Q=>∃d e,DV K H x d/\DV K H y e/\SeqAt.shaped d=true/\SeqAt.shaped e=true/\Q (.bl (!PyData.eqv d e)) H
theorem O2 (hu:X.A.units+64<cLine):OpR X (compareOp .Eq) (Vo X.K):=by
 intro pins s σ H x y v u Q I rx ry h;obtain ⟨d,e,hd,he,sd,se,q⟩:=h;obtain ⟨as,ra⟩:=hd.reads I rx;obtain ⟨bs,rb⟩:=he.reads I ry;exact eq_dataH ra rb sd se hu (bJ I q rfl)
theorem Q7 (hu:X.A.units+64<cLine):OpR X (compareOp .NotEq) (U7 X.K):=by
 intro pins s σ H x y v u Q I rx ry h;obtain ⟨d,e,hd,he,sd,se,q⟩:=h;obtain ⟨as,ra⟩:=hd.reads I rx;obtain ⟨bs,rb⟩:=he.reads I ry;exact ne_dataH ra rb sd se hu (bJ I q rfl)
end
section
def PK:V->Option Value
 | .ty n=>some (.type n)
 | .ref a=>some (.ref a)
 |_=>none
theorem Ho (e:PK c=some cv)(r:RelV c u):u=cv:=by
 cases c with
 |ty n=>cases e;exact r
 |ref a=>cases e;exact r
 |_=>cases e
end
section
end
theorem cI.at' (x:cI P w H h a o):∃u,h.get? a=some u:=by
 cases o with
 |lst xs=>obtain ⟨_,_,_,_,e⟩:=x;exact ⟨_,e⟩
 |tup xs=>obtain ⟨_,_,_,o,e,_⟩:=x;exact ⟨_,e⟩
 |dK kvs=>obtain ⟨_,_,_,_,o,_,_,e,_⟩:=x;exact ⟨_,e⟩
 |dT kvs=>obtain ⟨_,_,_,_,o,_,_,e,_⟩:=x;exact ⟨_,e⟩
 |set S n=>obtain ⟨o,_,_,_,e,_⟩:=x;exact ⟨_,e⟩
 |ins C dx fs=>obtain ⟨_,_,_,e,_⟩:=x;exact ⟨_,e⟩
 |own y=>exact x
 |xd fs=>obtain ⟨_,⟨_,_,_,e,_⟩,_⟩:=x;exact ⟨_,e⟩
 |rng lo hi=>obtain ⟨_,_,_,e⟩:=x;exact ⟨_,e⟩
 |frz ob u=>obtain ⟨e,_⟩:=x;exact ⟨_,e⟩
 |tbl ps=>exact ⟨_,(show h.get? a=some _ from x)⟩
 |met f y=>exact ⟨_,(show h.get? a=some _ from x)⟩
 |ext φ=>obtain ⟨_,e,_⟩:=x;exact e
structure Fly (P:Program)(w:World)(outer:List Env)(H:Hp)(s:Shared)(e:Value)(s':Shared)(ea t:Addr)(cls:Value)(B:Heap)(H':Hp):Prop where
 is:e=.ref ea
 os:s'.os=s.os
 bare:AllBare s'.gens
 fly:Heap.FlyingW B outer ea cls (.ref t) s'.heap
 keep:∀b o,s.heap.get? b=some o->H b=none->b∉frs outer->B.get? b=some o
 slot:∀b o,s.heap.get? b=some o->b∈frs outer->∃sl,s'.heap.get? b=some { o with slots:=sl }
 free:∀b o,s.heap.get? b=some o->H b=none->H' b=none
 there:∀b o,s.heap.get? b=some o->b∉frs outer->∃o',B.get? b=some o'
 tups:∀b xs,H b=some (.tup xs)->H' b=some (.tup xs)
 frzs:∀b o u,H b=some (.frz o u)->H' b=some (.frz o u)
 tbls:∀b ps,H b=some (.tbl ps)->∃more,H' b=some (.tbl (ps++more))
 hok:HOk P w H' B
 new:s.heap.get? ea=none
 nin:H' ea=none
def CX1 (P:Program)(w:World):CXT:=λouter H s E e s'=>∃ea t cls B H',Fly P w outer H s e s' ea t cls B H'/\E cls none H'
theorem yz (hf:env.frame=some L)(h:b∈frs (env::l)):b=L\/b∈frs l:=by simp_all [List.filterMap_cons,frs]
theorem Hx (h:b∈frs l):b∈frs (env::l):=by simp_all [frs]
section
variable {P:Program}{w:World}{K:W.Frag}{mg:Zs}{base:Heap}{N:List Str}{qual:Str}{scope:Scope}{f:Addr}{cd:Value}{A:Around}{outer:List Env}{s:Shared}{H:Hp}{E:XK}
theorem o9
  (I:Inv (mH (CX1 P w) P w K mg base N qual scope f cd A outer s H E) pins σ H1 s1) (hx:Heap.MadeExcOf s1.heap h' ea cls vs) (hw:E cls none H1):
  (mH (CX1 P w) P w K mg base N qual scope f cd A outer s H E).xe (.ref ea) { s1 with heap:=h' }:=by
 have hin:∀env∈(mH (CX1 P w) P w K mg base N qual scope f cd A outer s H E).stack,∀b,env.frame=some b->b∈(mH (CX1 P w) P w K mg base N qual scope f cd A outer s H E).stack.filterMap (·.frame):=
  λenv he b hb=>List.mem_filterMap.mpr ⟨env,he,hb⟩
 have nfr:∀b o,s.heap.get? b=some o->b∉frs outer->b∉(mH (CX1 P w) P w K mg base N qual scope f cd A outer s H E).stack.filterMap (·.frame):=λb o q nb hb=>by
  rcases yz (L:=s.heap.objs.size) rfl hb with z | z
  ·exact absurd (Heap.lt_size q) (by rw [z];exact Nat.lt_irrefl _)
  ·exact nb z
 have nx:∀b:Addr,b∉(mH (CX1 P w) P w K mg base N qual scope f cd A outer s H E).ex:=λb z=>absurd (show b∈([]:List Addr) from z) (by simp);refine wpAny_leaves_madeW (L:=s.heap.objs.size) (outer:=outer) I.ok.frames rfl (λb o q=>W.of_hideAll _ q) (W.funFrames_hide I.stack hin) hx λh2 t x1 x2 x3 x4=>?_;refine ⟨ea,t,cls,_,H1,⟨rfl,I.os,I.bare,x1,λb o q n nb=>?_,λb o q hb=>?_,λb o q n=>I.base.free b o q n (nx b),λb o q nb=>?_,I.base.tups,I.base.frzs,I.base.tbls,λb u e=>?_,?_,?_⟩,hw⟩
 ·exact W.hideAll_get _ (I.base.keep b o q n nb (nx b)) (nfr b o q nb)
 ·obtain ⟨sl,e1⟩:=I.base.slot b o q (I.ok.frf b hb) hb (nx b);obtain ⟨_,o',ho',hnf⟩:=I.ok.n8.mem hb;have eo:o=o':=Option.some.inj (q.symm.trans ho');obtain ⟨sl2,e2⟩:=x4 b _ (hx.keeps _ _ e1) (λv z=>hnf v (by rw [← eo];exact z));exact ⟨sl2,e2⟩
 ·obtain ⟨o',e1⟩:=I.base.there b o q (nx b);exact ⟨o',W.hideAll_get _ e1 (nfr b o q nb)⟩
 ·refine (I.hok b u e).stay (λc v hc q=>W.hideAll_get _ q λhm=>?_) (λ_ q=>q) λ_ _ q=>q;have z:=I.xj c hm;rcases hc with hc | hc
  ·rw [hc,e] at z;cases z
  ·rw [hc] at z;cases z
 ·cases q:s.heap.get? ea with
  |none=>rfl
  |some o=>
   obtain ⟨o',e1⟩:=I.base.there ea o q (nx ea);rw [hx.new] at e1;cases e1
 ·cases q:H1 ea with
  |none=>rfl
  |some o=>
   obtain ⟨o',e1⟩:=cI.at' (I.hok ea o q);rw [hx.new] at e1;cases e1
theorem bf:Passes (CX1 P w) (mH (CX1 P w) P w K mg base N qual scope f cd A outer s H E) E:=by
 intro pins σ H1 s1 e s' I h;obtain ⟨ea,t,cls,B,H',F,hw⟩:=h;obtain rfl:=F.is;have nfr:∀b o,s.heap.get? b=some o->b∉frs outer->b∉frs (mH (CX1 P w) P w K mg base N qual scope f cd A outer s H E).stack:=λb o q nb hb=>by
  rcases yz (L:=s.heap.objs.size) rfl hb with z | z
  ·exact absurd (Heap.lt_size q) (by rw [z];exact Nat.lt_irrefl _)
  ·exact nb z
 have nx:∀b:Addr,b∉(mH (CX1 P w) P w K mg base N qual scope f cd A outer s H E).ex:=λb z=>absurd (show b∈([]:List Addr) from z) (by simp);refine wpAny_leaves_onW (base:=B) (outer:=outer) (L:=s.heap.objs.size) I.ok.frames rfl F.fly λh2 x1 x2=>?_;refine ⟨ea,t,cls,B,H',⟨rfl,F.os.trans I.os,F.bare,x1,λb o q n nb=>?_,λb o q hb=>?_,λb o q n=>?_,λb o q nb=>?_,λb xs q=>F.tups b xs (I.base.tups b xs q),λb o u q=>F.frzs b o u (I.base.frzs b o u q),λb ps q=>?_,F.hok,?_,F.nin⟩,hw⟩
 ·exact F.keep b o (I.base.keep b o q n nb (nx b)) (I.base.free b o q n (nx b)) (nfr b o q nb)
 ·obtain ⟨sl,e1⟩:=I.base.slot b o q (I.ok.frf b hb) hb (nx b);obtain ⟨_,o',ho',hnf⟩:=I.ok.n8.mem hb;have eo:o=o':=Option.some.inj (q.symm.trans ho');obtain ⟨sl1,e2⟩:=F.slot b _ e1 (Hx hb);obtain ⟨sl2,e3⟩:=x2 b _ e2 (λv z=>hnf v (by rw [← eo];exact z));exact ⟨sl2,e3⟩
 ·obtain ⟨o',e1⟩:=I.base.there b o q (nx b);exact F.free b o' e1 (I.base.free b o q n (nx b))
 ·obtain ⟨o',e1⟩:=I.base.there b o q (nx b);exact F.there b o' e1 (nfr b o q nb)
 ·obtain ⟨m1,e1⟩:=I.base.tbls b ps q;obtain ⟨m2,e2⟩:=F.tbls b _ e1;exact ⟨m1++m2,by rw [e2,Array.append_assoc]⟩
 ·cases q:s.heap.get? ea with
  |none=>rfl
  |some o=>
   obtain ⟨o',e1⟩:=I.base.there ea o q (nx ea);rw [F.new] at e1;cases e1
end
theorem HX:Passes (CX1 P w) X E0:=λ_ _ _ _ _ _ _ ⟨_,_,_,_,_,_,z⟩=>z.elim
def lA (ea:Addr)(cls:Value)(h:Heap):Prop:=∃o,h.get? ea=some o/\o.cls=cls/\∃vs,o.data=.fields vs
section
theorem Fly.inv (F:Fly X.prog X.w X.stack H s e s' ea t cls B H')(I:Inv X pins σ H s){h2:Heap}{tk:Nat}(k1:B.StaysIn h2)(k2:s'.heap.UpToSlots h2):Inv X pins σ H' { s' with heap:=h2,toks:=tk }:=by
 have nf:∀b∈frs X.stack,∀o,s.heap.get? b=some o->∀vs,o.data≠.fields vs:=λb hb o q=>by
  obtain ⟨_,o',ho',hnf⟩:=I.stack.mem hb;have eo:o=o':=Option.some.inj (q.symm.trans ho');rw [eo];exact hnf
 refine I.call' (s':={ s' with heap:=h2,toks:=tk }) (ch:=[]) F.os ⟨λb o q n hb _=>k1 b o (F.keep b o q n hb),λb o q n hb _=>?_,λb o q n _=>F.free b o q n,λb o q _=>?_,F.tups,F.frzs,F.tbls⟩ (F.hok.kept k1) F.bare (λb z=>nomatch z)
 ·obtain ⟨sl,e1⟩:=F.slot b o q hb;obtain ⟨sl2,e2⟩:=k2 b _ e1 (nf b hb o q);exact ⟨sl2,e2⟩
 ·by_cases hb:b∈frs X.stack
  ·obtain ⟨sl,e1⟩:=F.slot b o q hb;obtain ⟨sl2,e2⟩:=k2 b _ e1 (nf b hb o q);exact ⟨_,e2⟩
  ·obtain ⟨o',e1⟩:=F.there b o q hb;exact ⟨o',k1 b o' e1⟩
end
section
theorem Fly.Vv (F:Fly X.prog X.w X.stack H s e s' ea t cls B H')(I:Inv X pins σ H s){h2:Heap}{tk:Nat}(k1:B.StaysIn h2)(k2:s'.heap.UpToSlots h2)(kx:lA ea cls h2):
  Inv X pins σ (upd H' ea (.ext (lA ea cls))) { s' with heap:=h2,toks:=tk }:=by
 have J:=F.inv I (tk:=tk) k1 k2;have nf:∀b∈frs X.stack,∀o,s.heap.get? b=some o->∀vs,o.data≠.fields vs:=λb hb o q=>by
  obtain ⟨_,o',ho',hnf⟩:=I.stack.mem hb;have eo:o=o':=Option.some.inj (q.symm.trans ho');rw [eo];exact hnf
 have ne:∀b o,s.heap.get? b=some o->b≠ea:=λb o q z=>by rw [z,F.new] at q;cases q
 have ne':∀b u,H' b=some u->b≠ea:=λb u q z=>by rw [z,F.nin] at q;cases q
 refine I.call' (s':={ s' with heap:=h2,toks:=tk }) (ch:=[]) F.os ⟨λb o q n hb _=>k1 b o (F.keep b o q n hb),λb o q n hb _=>?_,λb o q n _=>?_,λb o q _=>?_,λb xs q=>?_,λb o u q=>?_,λb ps q=>?_⟩ (λb u q=>?_) F.bare (λb z=>nomatch z)
 ·obtain ⟨sl,e1⟩:=F.slot b o q hb;obtain ⟨sl2,e2⟩:=k2 b _ e1 (nf b hb o q);exact ⟨sl2,e2⟩
 ·rw [aV (ne b o q)];exact F.free b o q n
 ·by_cases hb:b∈frs X.stack
  ·obtain ⟨sl,e1⟩:=F.slot b o q hb;obtain ⟨sl2,e2⟩:=k2 b _ e1 (nf b hb o q);exact ⟨_,e2⟩
  ·obtain ⟨o',e1⟩:=F.there b o q hb;exact ⟨o',k1 b o' e1⟩
 ·have z:=F.tups b xs q;rw [aV (ne' b _ z)];exact z
 ·have z:=F.frzs b o u q;rw [aV (ne' b _ z)];exact z
 ·obtain ⟨m,z⟩:=F.tbls b ps q;exact ⟨m,by rw [aV (ne' b _ z)];exact z⟩
 ·by_cases hb:b=ea
  ·subst hb;rw [aU] at q;cases q;obtain ⟨o,ho,r⟩:=id kx;refine ⟨kx,⟨o,ho⟩,λh1 h3 ⟨o1,ho1,r1⟩ k=>⟨o1,k o1 ho1,r1⟩⟩
  ·rw [aV hb] at q;refine (F.hok.kept k1 b u q).stay (λ_ _ _ z=>z) (λc z=>?_) λc xs z=>?_
   ·rw [aV (ne' c _ z)];exact z
   ·rw [aV (ne' c _ z)];exact z
theorem zu (I:Inv X pins σ H s)(hN:X.N.Nodup)(hi:X.N[i]? = some n)
  (hl:∀(j:Nat) (y:Str) (v:V),X.N[j]? = some y->σ[j]? = some (some v)->Vis X.env.scope y->∃u,RelV v u/\Look X.env s.heap m y u)
  (hn:h2.Ns X.env.locals (λy=>if y=n then v else m y)) (hs:Heap.SameBut X.env.locals s.heap h2):Inv X pins (σ.set i none) H { s with heap:=h2,toks:=tk }:=by
 have hiσ:i<σ.length:=by rw [I.len];exact (List.getElem?_eq_some_iff.mp hi).1
 have neL:∀b o,X.s₀.heap.get? b=some o->b≠X.env.locals:=λb o q=>Nat.ne_of_lt (Nat.lt_of_lt_of_le (Heap.lt_size q) I.ok.above);have neT:∀b u,H b=some u->b≠X.env.locals:=λb u q z=>by rw [z,I.free] at q;cases q
 refine ⟨I.ok,I.os,I.bare,⟨λb o q n' hb hx=>?_,λb o q n' hb hx=>?_,I.base.free,λb o q hx=>?_,I.base.tups,I.base.frzs,I.base.tbls⟩,⟨_,hn,λj y w' e1 e2 e3=>?_⟩,λy c q=>?_,I.free,I.freeC,λp hp=>?_,λb u q=>?_,by simpa using I.len⟩
 ·exact (hs.2 b (neL b o q)).trans (I.base.keep b o q n' hb hx)
 ·obtain ⟨sl,e1⟩:=I.base.slot b o q n' hb hx;exact ⟨sl,(hs.2 b (neL b o q)).trans e1⟩
 ·obtain ⟨o',e1⟩:=I.base.there b o q hx;exact ⟨o',(hs.2 b (neL b o q)).trans e1⟩
 ·by_cases hj:j=i
  ·subst hj;rw [List.getElem?_set_self hiσ] at e2;cases e2
  ·rw [List.getElem?_set_ne (Ne.symm hj)] at e2;obtain ⟨u,r,l⟩:=hl j y w' e1 e2 e3;refine ⟨u,r,?_⟩;rcases l with ⟨k,z⟩ | ⟨k,c,z,z2⟩
   ·refine .inl ⟨k,?_⟩;have ny:y≠n:=λq=>hj (uE hN e1 (q ▸ hi));show (if y=n then v else m y)=some u;rw [if_neg ny];exact z
   ·exact .inr ⟨k,c,z,z2.sameBut hs (I.cne y c z)⟩
 ·obtain ⟨w',z⟩:=I.cell y c q;exact ⟨w',z.sameBut hs (I.cne y c q)⟩
 ·obtain ⟨e1,n1,ne1,nf1,d1⟩:=I.pin p hp;exact ⟨(hs.2 p.1 ne1).trans e1,n1,ne1,nf1,d1⟩
 ·refine (I.hok b u q).stay (λc w' hc z=>(hs.2 c ?_).trans z) (λ_ z=>z) λ_ _ z=>z;rcases hc with hc | hc
  ·rw [hc];exact neT b u q
  ·exact neT c _ hc
def inh (X:Cx)(ea:Addr):Cx:={ X with A:=X.A.mark (some (.ref ea)),calm:=false,xe:=λ_ _=>False }
theorem Rt (ok:X.Ok)(ea:Addr):(inh X ea).Ok:=
 ⟨ok.mod,ok.kind,ok.glob,ok.blt,ok.above,ok.inj,ok.has,ok.cab,λz=>(by cases (show false=true from z)),ok.frames,ok.stk,ok.exf,ok.bs,ok.bsz,ok.noex,ok.exfs,ok.n8,ok.frf⟩
theorem Dq (I:Inv X pins σ H s)(ea:Addr):Inv (inh X ea) pins σ H s:=⟨Rt I.ok ea,I.os,I.bare,I.base,I.loc,I.cell,I.free,I.freeC,I.pin,I.hok,I.len⟩
theorem Ec (I:Inv (inh X ea) pins σ H s)(ok:X.Ok):Inv X pins σ H s:=⟨ok,I.os,I.bare,I.base,I.loc,I.cell,I.free,I.freeC,I.pin,I.hok,I.len⟩
end
def PEx (X:Cx)(e:Expr)(t:St->Hp->VK->XK->Prop):Prop:=
 ∀(pins:Zo) (s:Shared) (σ:St) (H:Hp) (Q:VK) (E:XK),Inv X pins σ H s->t σ H Q E->
  wpAny (model X.prog X.w) X.A (eval e X.env) (EP X pins σ Q) (λx s'=>∃H1 s1,Inv X pins σ H1 s1/\CX1 X.prog X.w X.stack H1 s1 E x s') s
def PSx (X:Cx)(sts:List Stmt)(t:Ends->(St->XK)->St->Hp->Prop):Prop:=
 ∀(pins:Zo) (s:Shared) (σ:St) (H:Hp) (D:Ends) (E:St->XK),Inv X pins σ H s->t D E σ H->
  wpAny (model X.prog X.w) X.A (execs sts X.env) (SP X pins D) (λx s'=>∃σ1 H1 s1,Inv X pins σ1 H1 s1/\CX1 X.prog X.w X.stack H1 s1 (E σ1) x s') s
section
variable {X:Cx}{k:Nat}{f:Addr}{fd:FuncData}{ps:List Str}{sp:Sp}{x:Str}{p pos pos':Pos}{e:Expr}{es:List Expr}{t:TA}
theorem Qy {st:Stmt}{t:Ends->(St->XK)->St->Hp->Prop}
  (h:∀(pins:Zo) (s:Shared) (σ:St) (H:Hp) (D:Ends) (E:St->XK),Inv X pins σ H s->t D E σ H->
   wpAny (model X.prog X.w) X.A (exec st X.env) (SP X pins D) (λx s'=>∃σ1 H1 s1,Inv X pins σ1 H1 s1/\CX1 X.prog X.w X.stack H1 s1 (E σ1) x s') s):PSx X [st] t:=by
 intro pins s σ H D E I hq;refine wpAny_execs_cons (thn (h pins s σ H D E I hq) λfl s1 q=>?_);cases fl with
 |next=>exact wpAny_execs_nil q
 |ret v=>exact q
 |brk=>exact q
 |cont=>exact q
theorem KD {te:St->Hp->VK->XK->Prop}(he:PEx X e te)(hs:swapsWith e none pos.line X.env=pure false:=by rfl):PSx X [.Expr e pos] (λD E σ H=>te σ H (λ_ H1=>D.nx σ H1) (E σ)):=
 Qy λpins s σ H D E I h=>
  wpAny_Expr_any (wpAny_mono (he pins s σ H _ _ I h) (λ_ _ ⟨_,H1,I1,_,q1⟩=>⟨σ,H1,I1,q1⟩) λ_ _ ⟨H1,s1,J,c⟩=>⟨σ,H1,s1,J,c⟩) I.quiet hs
end
def Oz (i:Nat)(D:Ends):Ends:={ nx:=λσ H=>D.nx (σ.set i none) H,rt:=D.rt,bk:=λσ H=>D.bk (σ.set i none) H,ct:=λσ H=>D.ct (σ.set i none) H }
def U9 (K:W.Frag)(DC:Addr)(i:Nat)(tb:Ends->(St->XK)->St->Hp->Prop)(ts:TS):TS:=λD σ H=>
 tb D (λσ1 cls _ H'=>W.exmOne K cls (.ref DC)=some true/\∀ea,H' ea=none->ts (Oz i D) (σ1.set i (some (.ref ea))) (upd H' ea (.ext (lA ea cls)))) σ H
theorem Rf
  (hst:X.stack=X.env::X.outer) (hfr:X.env.frame=some X.env.locals) (hb:PSx X body tb) (hN:X.N.Nodup) (hi:X.N[i]? = some n) (hn:X.env.scope.names.lookup n=some .local)
  (hg:Gl X x) (hm:X.mg x=some (.ref DC)) (hs:∀ea,PSs (inh X ea) (b₀::suite) ts) (hd:(x == ("__debug__" : Str))=false:=by decide):
  PS X (.Try body [.ExceptHandler (some (.Name x np)) (some n) (b₀::suite) hpos] [] [] pos) (U9 X.K DC i tb ts):=by
 intro pins s σ H D I h;refine wpAny_Try_except (wpAny_mono (hb pins s σ H D _ I h) (λfl s1 q=>?_) λx' s' ⟨σ1,H1,s1,J,c⟩=>?_)
 ·cases fl with
  |next=>exact wpAny_execs_nil q
  |ret v=>exact q
  |brk=>exact q
  |cont=>exact q
 ·obtain ⟨ea,t,cls,B,H',F,hx,hw⟩:=c;obtain rfl:=F.is;have hcls:(X.env.scope.kind == .class || (X.env.scope.kind == .module && X.env.locals != X.env.globals))=false:=by rw [J.ok.kind];rfl
  have hfly:=F.fly;rw [hst] at hfly;have hA:=J.ok.frames;rw [hst] at hA;refine wpAny_looks_onW hA hfr hfly λh4 g4 u4=>?_;refine wpAny_landsW g4 λh5 g5 u5=>?_;have J5:=F.inv J (tk:=s'.toks) g5.1 (u4.trans u5);have JI5:=Dq J5 ea;have x5:∀{hh:Heap},Heap.FlyingW B (X.env::X.outer) ea cls (.ref t) hh->∃o,hh.get? ea=some o/\o.cls=cls:=λg=>g.there;refine wpAny_handleBy_cons (codeAny_handlers_test (rK (X:=inh X ea) JI5 hg hm ?_ hd)) (by intro q;cases q);obtain ⟨o5,e5,c5⟩:=x5 g5;have LT:W.Looks (model X.prog X.w) h5 (typeOf (.ref ea)) cls:=c5 ▸ (W.Looks.ld e5).andThen .now;refine (W.exm_one (M:=model X.prog X.w) J5.kIn LT hx).here ?_;refine codeAny_handlers_suite_as ?_;refine lands_againW g5 λh6 g6 u6=>?_;have kx:lA ea cls h6:=by
   obtain ⟨oe,vs,T,oT,ts',he,hc,hdt,_⟩:=g6.2.2.2;exact ⟨oe,he,hc.1,vs,hdt⟩
  have J6:=F.Vv J (tk:=s'.toks) g6.1 ((u4.trans u5).trans u6) kx;refine um (X:=inh X ea) (Dq J6 ea) hN hi (.inl hn) (show RelV (.ref ea) (.ref ea) from rfl) (λs7 J7=>?_) (.inr hn);refine wpAny_mono (hs ea pins s7 _ _ (Oz i D) J7 (hw ea F.nin)) (λfl s8 q=>?_) λ_ _ z=>False.elim z;have go:∀{σ8:St} {H8:Hp},Inv (inh X ea) pins σ8 H8 s8->(∀{s9:Shared},Inv X pins (σ8.set i none) H8 s9->SP X pins D fl s9)->
    wpAny (model X.prog X.w) X.A (do bindName X.env n .none;unbindBehindTheSuite X.env n hpos) (λ_ s9=>SP X pins D fl s9) X.xe s8:=λJ8 k=>by
   have J9:=Ec J8 J.ok;obtain ⟨m,hm',hl⟩:=J9.loc;exact wpAny_nameGoes_keeps (m:=m) hn hm' hcls λh9 v hn9 hs9=>k (zu J9 hN hi hl hn9 hs9)
  cases fl with
  |next=>obtain ⟨σ8,H8,J8,q⟩:=q;exact go J8 λJ9=>⟨_,H8,J9,q⟩
  |brk=>obtain ⟨σ8,H8,J8,q⟩:=q;exact go J8 λJ9=>⟨_,H8,J9,q⟩
  |cont=>obtain ⟨σ8,H8,J8,q⟩:=q;exact go J8 λJ9=>⟨_,H8,J9,q⟩
  |ret u=>obtain ⟨v,σ8,H8,J8,r,q⟩:=q;exact go J8 λJ9=>⟨v,_,H8,J9,r,q⟩
theorem Mw {K:W.Frag}{h:Heap}(X:K.In h)(q:W.excIn K C bmB newId=true):
  ∃bm N nm qn bs hdct sn sub ab col dd k0 k1 k2 k3 k5 mN,h.get? C=some (excClassObj nm qn C N bs bm hdct sn sub ab col dd k0 k1 k2 k3 k5 newId)/\h.Ns N mN/\mN "__init__" = none/\OwnTail h bmB bm:=by
 unfold W.excIn at q;split at q
 case h_2=>cases q
 case h_1 dd cd sl ho=>
  split at q
  case h_2=>cases q
  case h_1 C' bm k0 k1 k2 k3 n k5 hm hs=>
   simp only [beq_iff_eq,Bool.and_eq_true,Bool.not_eq_true'] at q;obtain ⟨⟨⟨⟨⟨z1,z2⟩,hdel⟩,ht⟩,hok⟩,hni⟩:=q;subst z1;subst z2;obtain ⟨nm,bs,mro,ns,qn,hd,sn,sub,ab,col,del⟩:=cd;have hm':mro=.ref C'::bm:=hm;have hdel':del=false:=hdel;subst hm';subst hdel';obtain ⟨l⟩:=sl;have hs':l=[k0,k1,k2,k3,some (.builtin n),k5]:=hs;subst hs';exact ⟨bm,ns,nm,qn,bs,hd,sn,sub,ab,col,dd,k0,k1,k2,k3,k5,_,X _ _ ho,.of_isNs (W.isNs_of_in X hok),W.nsMap_none_of_in X hok hni,W.tail_of_in X ht⟩
section
variable {X:Cx}{x:Str}{e₀:Expr}{np cpos pos:Pos}{te:TE}{C:Addr}{bmB:List Value}{B newId initId:String}
theorem JG {W:XK}(FB:ExcBaseFacts B newId initId bmB)(hq:PySem.W.excIn X.K C bmB newId=true)(hg:Gl X x)(hm:X.mg x=some (.ref C))(hh:X.A.handled=none)(he:PE X e₀ te)
  (hx:∀(pins:Zo) (σ:St) (H:Hp) (s:Shared) (h':Heap) (ea:Addr) (vs:List Value),Inv X pins σ H s->Heap.MadeExcOf s.heap h' ea (.ref C) vs->W (.ref C) none H->X.xe (.ref ea) { s with heap:=h' })
  (hd:(x == ("__debug__" : Str))=false:=by decide) (hs:starEach [e₀] X.env=(false,eval e₀ X.env)::starEach [] X.env:=by rfl):
  PS X (.Raise (some (.Call (.Name x np) [e₀] [] cpos)) none pos) (λ_ σ H=>te σ H λv H1=>[v].length=1/\W (.ref C) none H1):=by
 intro pins s σ H D I h;obtain ⟨bm,N,nm,qn,bs,hdct,sn,sub,ab,col,dd,k0,k1,k2,k3,k5,mN,hC,hN,hni,T⟩:=Mw I.ok.mod.kin hq;refine wpAny_Raise_call_subT (C:=C) (N:=N) (nm:=nm) (q:=qn) (bs:=bs) (bm:=bm) (hdct:=hdct) (sn:=sn) (sub:=sub) (ab:=ab) (col:=col) (dd:=dd) (k0:=k0) (k1:=k1) (k2:=k2) (k3:=k3) (k5:=k5) FB (T.hasType FB.hasBase) hh (by rw [hs];rfl) hni (rK I hg hm ⟨rfl,?_⟩ hd);have pa:=dg he jh hs cpos pins s σ H (λvs H1=>vs.length=1/\W (.ref C) none H1) I h;rw [hs] at pa ⊢;refine Calls.evalArgs_plain (thn pa λus s2 hE=>xq2 hE λvs H2 I2 r q=>⟨rfl,?_,I2.bk _ _ hC,hN.keeps I2.bk,T.keeps I2.bk,λh' ea mk=>hx pins σ H2 s2 h' ea us I2 mk q.2⟩);rw [← r.length,q.1];decide
end
structure Fn (P:Program)(w:World)(K:W.Frag)(mg:Zs)(base:Heap)(k:Nat)(x:Str)(ps:List Str)(sp:Sp):Prop where
 ex:∃f fd,dm P w K mg base (CX1 P w) k f fd ps sp/\Binds K fd ps []/\W.keepIn K (.ref f)=true/\mg x=some (.ref f)
section
end
section
variable {P:Program}{w:World}{K:W.Frag}{mg:Zs}{base:Heap}
theorem CQ {x qual:Str}{st:Stmt}{f:Addr}{fd:FuncData}{N ps:List Str}{k:Nat}{sp:Sp}(F:Fun K x qual st f fd)(S:bC N ps (aJ st))(len:∀vs H Q E,sp vs H Q E->vs.length=ps.length)
  (hbody:∀(cdv:Value) (A:Around) (outer:List Env) (s:Shared) (H:Hp) (vs:List V) (Q:VK) (E:XK),gW k (A.deeper (envOfC qual (aJ st) s.heap.objs.size f cdv))->sp vs H Q E->
   ∃t,PSs (mH (CX1 P w) P w K mg base N qual (aJ st) f cdv A outer s H E) (iD st) t/\t { nx:=λ_ H'=>Q .non H',rt:=Q } (start N vs) H):dm P w K mg base (CX1 P w) (k+1) f fd ps sp:=by
 obtain ⟨oc,od,kV,doc,pm,an,cdv,ct,osl,rfl,lk,hcd⟩:=F.ex;refine T9 lk hcd S len λA outer s H vs Q E hr hsp=>?_;obtain ⟨t,h,q⟩:=hbody cdv A outer s H vs Q E hr hsp;exact ⟨t,h,q⟩
end
structure Df (K:W.Frag)(mg:Zs)(x:Str)(st:Stmt)(ps:List Str):Prop where
 ex:∃f fd,Fun K x x st f fd/\Binds K fd ps []/\mg x=some (.ref f)
theorem Df.fn {P:Program}{w:World}{K:W.Frag}{mg:Zs}{base:Heap}{x:Str}{st:Stmt}{ps:List Str}{k:Nat}{sp:Sp}(D:Df K mg x st ps)
  (h:∀f fd,Fun K x x st f fd->dm P w K mg base (CX1 P w) k f fd ps sp):Fn P w K mg base k x ps sp:=by
 obtain ⟨f,fd,F,b,m⟩:=D.ex;exact ⟨f,fd,h f fd F,b,F.kp,m⟩
structure XC (K:W.Frag)(C:Addr):Prop where
 ga:W.findIn K (.ref C) "__getattribute__" = some (some (.builtin "BaseException.__getattribute__"))
 no:W.findIn K (.ref C) "__getattr__" = some none
 cl:W.findIn K (.ref C) "__class__" = some (some (.builtin "object.__class__"))
 bs:W.subIn K (.ref C) (.type "BaseException")=some true
 ob:W.subIn K (.ref C) (.type "object")=some true
 is:(W.clsIn K C).isSome=true
section
variable {prog:Program}{w:World}{A:Around}{E:Zv}{h:Heap}{g:Array GenState}{d:Drawn}{t:Nat}{os:OsState}{a C:Addr}{o:Obj}{K:W.Frag}
theorem Rx (X:K.In h)(Z:XC K C)(hx:h.get? a=some o)(hc:o.cls=.ref C)(hq:R (.ok (.ret (.ref C))) ⟨h,g,d,t,os⟩):
  codeAny (model prog w) A (.call (.builtin "getset_descriptor.__get__") ⟨[.builtin "object.__class__",.ref a,.ref C],[]⟩) R ⟨h,g,d,t,os⟩:=by
 have hT5:(⟨h,g,d,t,os⟩:Shared).TypeIs (.builtin "object.__class__") "getset_descriptor":=F.typeOf_object_class;have L8:W.Looks (model prog w) h (isSubtype (.ref C) (.type (".".intercalate ("object.__class__".cutAt '.').dropLast))) true:=by
  rw [F.owner_object_class];exact W.looks_subIn X Z.ob
 refine codeAny_call_builtin F.slot_gs_get.plain F.entry_gs_get (F.slot_gs_get.check _ _ _ _ _ _ _ _ hT5 (F.args_gs_get _ _ _) ?_)
 repeat (any_goals (first | assumption | (with_reducible refine wpAny_loadPart_at hx ?_;rw [hc]) | with_reducible refine L8.at ?_ | wp_step))
 refine ⟨Code.quiet_builtin _ (by decide +kernel),codeAny_builtin F.entry_object_class ?_⟩
 repeat (any_goals (first | assumption | (with_reducible refine wpAny_loadPart_at hx ?_;rw [hc]) | wp_step))
theorem Io (X:K.In h)(Z:XC K C)(hx:h.get? a=some o)(hc:o.cls=.ref C)(hq:Q (.done (.ret (.ref C))) ⟨h,g,d,t,os⟩):
  wpAny (model prog w) A (Builtin.«object.__getattribute__» ⟨[.ref a,.str "__class__" tk],[]⟩) Q E ⟨h,g,d,t,os⟩:=by
 have hT5:(⟨h,g,d,t,os⟩:Shared).TypeIs (.builtin "object.__class__") "getset_descriptor":=F.typeOf_object_class;have f5:=F.typeOf_object_class;have f6:=F.slot_gs_get.lookup;have f7:=F.slot_gs_set.lookup;have L4:=W.looks_findIn (M:=model prog w) X Z.cl
 repeat (any_goals (first | assumption | (with_reducible refine wpAny_loadPart_at hx ?_;rw [hc]) | with_reducible refine L4.at ?_ | wp_step))
 refine Rx X Z hx hc ?_
 repeat (any_goals (first | assumption | wp_step))
theorem JK (X:K.In h)(Z:XC K C)(hx:h.get? a=some o)(hc:o.cls=.ref C)(hq:Q () ⟨h,g,d,t,os⟩):
  wpAny (model prog w) A (checkBuiltinCall "BaseException.__getattribute__" ⟨[.ref a,nameV],[]⟩) Q E ⟨h,g,d,t,os⟩:=by
 have hk:builtinKind "BaseException.__getattribute__" = some .slot:=by decide +kernel
 have hsp:splitId "BaseException.__getattribute__" = some ("BaseException", "__getattribute__"):=by decide +kernel
 have ha:=F.args_bexc_ga (.ref a) nameV;have L8:=W.looks_subIn (M:=model prog w) X Z.bs;simp only [checkBuiltinCall,hk,hsp];refine wpAny_bind ?_;unfold isInstance
 repeat (first | (with_reducible refine wpAny_loadPart_at hx ?_;rw [hc]) | with_reducible refine L8.at ?_ | wp_step)
 exact hq
theorem Tg (X:K.In h)(Z:XC K C)(hx:h.get? a=some o)(hc:o.cls=.ref C)(hq:Q (.ref C) ⟨h,g,d,t,os⟩):
  wpAny (model prog w) A (getAttrBy (.ref a) (.str "__class__" tk) false) Q E ⟨h,g,d,t,os⟩:=by
 have f3:=F.excAttr_ValueError.ga.bind (.ref a);have L1:=W.looks_findIn (M:=model prog w) X Z.ga;have L2:=W.looks_findIn (M:=model prog w) X Z.no;have n1:(Value.builtin "BaseException.__getattribute__" == Value.builtin "object.__getattribute__")=false:=by decide +kernel
 have n2:(onTheHeap (Value.ref C) && Value.builtin "BaseException.__getattribute__" == Value.builtin "object.__getattribute__")=false:=by rw [n1];rfl
 repeat (any_goals (first | assumption | (with_reducible refine wpAny_loadPart_at hx ?_;rw [hc]) | with_reducible refine L1.at ?_ | with_reducible refine L2.at ?_ | wp_step))
 refine codeAny_call_builtin F.excAttr_ValueError.ga.plain F.entry_bexc_ga (JK X Z hx hc (Io X Z hx hc ?_))
 repeat (any_goals (first | assumption | wp_step))
theorem Ku (X:K.In h)(Z:XC K C)(hx:h.get? a=some o)(hc:o.cls=.ref C)(hq:Q (some (.ref C)) ⟨h,g,d,t+1,os⟩):
  wpAny (model prog w) A (getAttr? (.ref a) "__class__") Q E ⟨h,g,d,t,os⟩:=by
 unfold getAttr? getAttrBy?
 repeat (any_goals (first | assumption | with_reducible apply Tg X Z hx hc | wp_step))
def XAt (a C:Addr)(h:Heap):Prop:=∃o,h.get? a=some o/\o.cls=.ref C
theorem tH (Z:XC K C):W.KitX K (.ref a) (.ref C) (XAt a C) where
 ty:=λ_ _ _ ⟨_,hx,hc⟩=>hc ▸ (W.Looks.ld hx).andThen .now
 it:=λ_ _ X _=>by
  have z:=Z.is;unfold W.clsIn at z;split at z
  ·rename_i ho;intro A' Q' E' s' k q;unfold isType loadHead;exact wpAny_bind (wpAny_loadPart (k _ _ (X _ _ ho)) (wpAny_pure q))
  ·cases z
 ne:=λh tp dd its n sl X htp=>by
  have z:=Z.is;refine Bool.eq_false_iff.mpr λq=>?_;have e:C=tp:=Value.ref.inj (beq_iff_eq.mp q);subst e;unfold W.clsIn at z;split at z
  ·rename_i ho;have z2:=(X _ _ ho).symm.trans htp;cases z2
  ·cases z
 ca:=λ{_ _ _ _ _ s} X ⟨_,hx,hc⟩ k=>by
  obtain ⟨h,g,d,t,os⟩:=s;exact Ku X Z hx hc k
end
section
def OJ (K:W.Frag):List V->Hp->VK->Prop:=λxs H Q=>∃ea C c cv b,xs=[.ref ea,c]/\PK c=some cv/\H ea=some (.ext (lA ea (.ref C)))/\XC K C/\W.kitOne K (.ref C) cv=some b/\Q (.bl b) H
theorem Eh:fB X (.builtin "isinstance") (OJ X.K):=by
 intro pins s σ H xs us Q I r h;obtain ⟨ea,C,c,cv,b,rfl,rc,he,Z,e,q⟩:=h;obtain ⟨u,w',rfl,ru,rw'⟩:=vals2 r;have z:=Ho rc rw';subst z;cases (show u=Value.ref ea from ru);obtain ⟨⟨o,ho,hc,_⟩,_⟩:=(show cI X.prog X.w H s.heap ea (.ext (lA ea (.ref C))) from I.hok ea _ he);exact W.kia_one (tH Z) I.kIn ⟨o,ho,hc⟩ e (λz=>nomatch z) λtk=>⟨.bl b,H,I.tok _,rfl,q⟩
end
end Hd
namespace L2
open PySem PySem.Spec PyProof.Rows
section
variable {κ:Type}[DecidableEq κ]
def kZ (kvs:List (κ×V))(k:κ):Option V:=(kvs.find? λkv=>decide (kv.1=k)).map (·.2)
def putK (kvs:List (κ×V))(k:κ)(v:V):List (κ×V):=
 if (kvs.any λkv=>decide (kv.1=k))=true then kvs.map (λkv=>if kv.1=k then (kv.1,v) else kv) else kvs++[(k,v)]
theorem mz {p:κ×V}(e:p.1=k):kZ (p::r) k=some p.2:=by simp [kZ,List.find?_cons,e]
theorem mO {p:κ×V}(e:¬p.1=k):kZ (p::r) k=kZ r k:=by simp [kZ,List.find?_cons,e]
theorem uy (k:κ):∀kvs:List (κ×V),(kvs.any λkv=>decide (kv.1=k))=(kZ kvs k).isSome
 |[]=>rfl
 |p::r=>by
  rw [List.any_cons];by_cases e:p.1=k
  ·simp only [mz e,decide_eq_true e,Bool.true_or,Option.isSome_some]
  ·rw [mO e,decide_eq_false e,Bool.false_or];exact uy k r
theorem mG (kvs:List (κ×V))(k:κ)(v:V):(putK kvs k v).length<=kvs.length+1:=by grind [List.length_map,List.length_append,List.length_cons,List.length_nil,putK]
theorem Jo {kvs:List (κ×V)}{k:κ}(v:V)(h:kZ kvs k=none):putK kvs k v=kvs++[(k,v)]:=by simp_all [uy,putK]
theorem uG.Ft (r:uG o u):o.isSome=u.isSome:=by
 cases o with
 |none=>cases u with
  |none=>rfl
  |some _=>exact (show False from r).elim
 |some _=>cases u with
  |none=>exact (show False from r).elim
  |some _=>rfl
theorem KV.val (r:KV kvs vs)(k:κ):uG (kZ kvs k) (valueAt vs k):=by
 unfold KV at r;induction r with
 |nil=>exact True.intro
 | @cons p q ps qs h t ih=>
  obtain ⟨h1,h2⟩:=h;by_cases e:p.1=k
  ·have e':q.1=k:=h1.symm.trans e;have b:valueAt (q::qs) k=some q.2:=by simp [valueAt,List.find?_cons,e']
   rw [mz e,b];exact h2
  ·have e':¬q.1=k:=λz=>e (h1.trans z);have b:valueAt (q::qs) k=valueAt qs k:=by simp [valueAt,List.find?_cons,e']
   rw [mO e,b];exact ih
theorem KV.any (r:KV kvs vs)(k:κ):(kvs.any λkv=>decide (kv.1=k))=vs.any λkv=>decide (kv.1=k):=by
 unfold KV at r;induction r with
 |nil=>rfl
 |cons h t ih=>rw [List.any_cons,List.any_cons,ih,h.1]
theorem KV.repl (r:KV kvs vs)(k:κ){y:V}{u:Value}(ry:RelV y u):
  KV (kvs.map λkv=>if kv.1=k then (kv.1,y) else kv) (vs.map λkv=>if kv.1=k then (kv.1,u) else kv):=by
 unfold KV at r ⊢;induction r with
 |nil=>exact .nil
 | @cons p q ps qs h t ih=>
  rw [List.map_cons,List.map_cons];refine .cons ?_ ih;obtain ⟨h1,h2⟩:=h;by_cases e:p.1=k
  ·rw [if_pos e,if_pos (h1.symm.trans e)];exact ⟨h1,ry⟩
  ·rw [if_neg e,if_neg (λz=>e (h1.trans z))];exact ⟨h1,h2⟩
theorem KV.put (r:KV kvs vs)(k:κ){y:V}{u:Value}(ry:RelV y u):KV (putK kvs k y) (stored vs k u):=by
 unfold putK stored;rw [r.any k];by_cases e:(vs.any λkv=>decide (kv.1=k))=true
 ·rw [if_pos e,if_pos e];exact r.repl k ry
 ·rw [if_neg e,if_neg e];exact Paired.snoc r ⟨rfl,ry⟩
theorem KV.length (r:KV kvs vs):kvs.length=vs.length:=Paired.length r
end
theorem Bf (r:RelV (kV k) u):(gC P w).is k u=true:=by
 cases k with
 |inl i=>obtain ⟨t,e⟩:=(show ∃t,u=Value.int i t from r);subst e;exact yM P w i t
 |inr x=>obtain ⟨t,e⟩:=(show ∃t,u=Value.str x t from r);subst e;exact yK P w x t
theorem RW (e:kV a=kV b):a=b:=by
 cases a with
 |inl i=>cases b with
  |inl j=>have e':V.int i=V.int j:=e;injection e' with e';rw [e']
  |inr y=>exact nomatch (show V.int i=V.str y from e)
 |inr x=>cases b with
  |inl j=>exact nomatch (show V.str x=V.int j from e)
  |inr y=>have e':V.str x=V.str y:=e;injection e' with e';rw [e']
abbrev KT (T:Addr->List V->Prop)(H:Hp):List (List Kt×V)->List (List Kt×Addr×Value)->Prop:=Paired λp q=>p.1=q.1/\TrT T H q.2.1 p.1/\RelV p.2 q.2.2
theorem KT.val (r:KT T H kvs xs)(k:List Kt):uG (kZ kvs k) ((atKey xs k).map (·.2)):=by
 induction r with
 |nil=>exact True.intro
 | @cons p q ps qs h t ih=>
  obtain ⟨h1,_,h2⟩:=h;by_cases e:p.1=k
  ·have e':q.1=k:=h1.symm.trans e;have b:atKey (q::qs) k=some q.2:=by simp [atKey,List.find?_cons,e']
   rw [mz e,b];exact h2
  ·have e':¬q.1=k:=λz=>e (h1.trans z);have b:atKey (q::qs) k=atKey qs k:=by simp [atKey,List.find?_cons,e']
   rw [mO e,b];exact ih
theorem KT.repl (r:KT T H kvs xs)(k:List Kt){y:V}{u:Value}(ry:RelV y u):
  KT T H (kvs.map λkv=>if kv.1=k then (kv.1,y) else kv) (xs.map (putAt k u)):=by
 induction r with
 |nil=>exact .nil
 | @cons p q ps qs h t ih=>
  rw [List.map_cons,List.map_cons];refine .cons ?_ ih;obtain ⟨h1,h2,h3⟩:=h;unfold putAt;by_cases e:p.1=k
  ·rw [if_pos e,if_pos (h1.symm.trans e)];exact ⟨h1,h2,ry⟩
  ·rw [if_neg e,if_neg (λz=>e (h1.trans z))];exact ⟨h1,h2,h3⟩
theorem KT.put (r:KT T H kvs xs)(k:List Kt){b:Addr}{y:V}{u:Value}(hb:TrT T H b k)(ry:RelV y u):
  KT T H (putK kvs k y) (storedH xs k b u):=by
 have e:(kvs.any λkv=>decide (kv.1=k))=(atKey xs k).isSome:=by
  rw [uy,(r.val k).Ft,Option.isSome_map]
 unfold putK storedH;rw [e];by_cases q:(atKey xs k).isSome=true
 ·rw [if_pos q,if_pos q];exact r.repl k ry
 ·rw [if_neg q,if_neg q];exact Paired.snoc r ⟨rfl,hb,ry⟩
theorem KT.keeps (r:KT T H kvs xs)(ht:∀b ys,H b=some (.tup ys)->H' b=some (.tup ys)):KT T H' kvs xs:=
 Paired.QV r λ_ _ z=>⟨z.1,z.2.1.imp ht,z.2.2⟩
section
theorem Ou (ok:HOk P w H h)(e:Rd H a u):cI P w H h a u:=e.ok ok
theorem xN (ok:HOk P w H h)(e:Rd H a (.dK kvs)):kvs.length<=sizeLine/\(a == sysModules)=false/\∃vs,KV kvs vs/\h.DictOf (gC P w) a vs:=
 show cI P w H h a (.dK kvs) from Ou ok e
theorem TJ (ok:HOk P w H h)(e:H a=some (.dK kvs)):kvs.length<=sizeLine/\(a == sysModules)=false/\∃vs,KV kvs vs/\h.DictOf (gC P w) a vs:=xN ok (.inl e)
theorem Bk (hT:∀b ks,TrT T H b ks->(gq P w).is h ks b)(ok:HOk P w H h)(e:Rd H a (.dT T kvs)):kvs.length<=sizeLine/\(a == sysModules)=false/\
  ∃xs,KT T H kvs xs/\h.DictOfH (gq P w) a xs:=by
 obtain ⟨z,y,xs,r,o,es,ep,h1,h2,h3,h4,h5⟩:=(show cI P w H h a (.dT T kvs) from Ou ok e);refine ⟨z,y,xs,r,o,es,ep,h1,h2,h3,h4,λx hx=>?_,h5⟩;have all:∀{l:List (List Kt×V)} {m:List (List Kt×Addr×Value)},KT T H l m->∀x∈m,(gq P w).is h x.1 x.2.1:=by
  intro l m q;induction q with
  |nil=>intro x hx;exact nomatch hx
  | @cons p q ps qs hq t ih=>
   intro x hx;rcases List.mem_cons.mp hx with e | hx
   ·subst e;rw [← hq.1];exact hT _ _ hq.2.1
   ·exact ih x hx
 exact all r x hx
theorem G7 (hT:∀b ks,TrT T H b ks->(gq P w).is h ks b)(ok:HOk P w H h)(e:H a=some (.dT T kvs)):kvs.length<=sizeLine/\(a == sysModules)=false/\
  ∃xs,KT T H kvs xs/\h.DictOfH (gq P w) a xs:=Bk hT ok (.inl e)
end
def KR (K:W.Frag)(H:Hp)(a:Addr)(y:V)(r:Option V):Prop:=
 (∃kvs k,Rd H a (.dK kvs)/\y=kV k/\r=kZ kvs k)\/∃kvs k b,Rd H a (.dT (KTp K) kvs)/\y=.ref b/\TrT (KTp K) H b k/\r=kZ kvs k
def Ij (K:W.Frag)(H:Hp)(a:Addr)(y v:V)(H':Hp):Prop:=
 (∃kvs k,H a=some (.dK kvs)/\y=kV k/\kvs.length<sizeLine/\H'=upd H a (.dK (putK kvs k v))) ∨
 ∃kvs k b,H a=some (.dT (KTp K) kvs)/\y=.ref b/\TrT (KTp K) H b k/\kvs.length<sizeLine/\H'=upd H a (.dT (KTp K) (putK kvs k v))
theorem Ij.t {K:W.Frag}{H:Hp}{a b:Addr}{kvs:List (List Kt×V)}{k:List Kt}{v:V}(e:H a=some (.dT (KTp K) kvs))(eb:TrT (KTp K) H b k)(hl:kvs.length<sizeLine):
  Ij K H a (.ref b) v (upd H a (.dT (KTp K) (putK kvs k v))):=.inr ⟨kvs,k,b,e,rfl,eb,hl,rfl⟩
section
variable {X:Cx}{pins:Zo}{σ:St}{H:Hp}{s:Shared}{a:Addr}{y v:V}{u r:Value}{o:Option V}{A:Around}{E:Zv}
theorem Inv.big (I:Inv X pins σ H s):sysModules<s.heap.objs.size:=by
 have h:mainGlobals<s.heap.objs.size:=(I.mod.glob.keeps I.bk).lt;exact Nat.lt_trans (by decide) h
mutual
theorem Cm (I:Inv X pins σ H s):∀{n:Nat} {v:V} {k:Kt} {u:Value},qb (KTp X.K) H n v k->RelV v u->jc s.heap n k u
 |n,_,_,u,.k (x:=x),r=>by rw [jZ];exact Bf (P:=X.prog) (w:=X.w) r
 |_,_,_,u,.t (b:=b) h hs,r=>by
  cases (show u=Value.ref b from r);obtain ⟨its,rv,⟨o,ho,hc,m,hd⟩,_⟩:=I.tuple (SqU.sq h);exact iw.mpr ⟨b,o,its.toArray,m,rfl,ho,hc,hd,by simpa using yU I hs rv⟩
theorem yU (I:Inv X pins σ H s):∀{n:Nat} {vs:List V} {ks:List Kt} {us:List Value},kY (KTp X.K) H n vs ks->Vals vs us->Paired (jc s.heap n) ks us
 |_,_,_,_,.nil,.nil=>.nil
 |_,_,_,_,.cons h hs,.cons r rs=>.cons (Cm I h r) (yU I hs rs)
end
theorem sy (I:Inv X pins σ H s)(e:TrT (KTp X.K) H b ks):(gq X.prog X.w).is s.heap ks b:=by
 obtain ⟨vs,h,hs⟩:=e;exact Cm I (.t h hs) rfl
theorem vH (I:Inv X pins σ H s):∀b ks,TrT (KTp X.K) H b ks->(gq X.prog X.w).is s.heap ks b:=λb ks e=>sy I e
theorem qw (hu:A.units+16<cLine):(gq X.prog X.w).room A.in1:=by
 show A.units+1+8<cLine;omega
theorem FQ (hu:A.units+16<cLine)(I:Inv X pins σ H s)(g:KR X.K H a y (some v))(ry:RelV y u)(h:∀w' s',Inv X pins σ H s'->RelV v w'->Q w' s'):
  wpAny (model X.prog X.w) A (getItem (.ref a) u) Q E s:=by
 rcases g with ⟨kvs,k,e,ey,l⟩ | ⟨kvs,k,b,e,ey,eb,l⟩
 ·subst ey;obtain ⟨z,hd,vs,rel,dd⟩:=xN I.hok e;obtain ⟨w',hw,rw'⟩:=uG.some_of (v:=v) (o:=valueAt vs k) (by rw [l];exact rel.val k);exact wpAny_getItem_of (Bf ry) dd.mapOf hw (h w' _ (I.tok _) rw')
 ·subst ey;cases (show u=Value.ref b from ry);obtain ⟨z,hd,xs,rel,dd⟩:=Bk (vH I) I.hok e;obtain ⟨w',hw,rw'⟩:=uG.some_of (v:=v) (o:=(atKey xs k).map (·.2)) (by rw [l];exact rel.val k);obtain ⟨p,hp,hp2⟩:=Option.map_eq_some_iff.mp hw;refine wpAny_getItem_heap (qw hu) (sy I eb) dd hp ?_;rw [hp2];exact h w' _ (I.tok _) rw'
theorem rn (I:Inv X pins σ H s)(mu:Mut (H a))(hs:Heap.SameBut a s.heap h')(he:∃q,h'.get? a=some q)(new:cI X.prog X.w (upd H a ob) h' a ob):
  Inv X pins σ (upd H a ob) { s with heap:=h',toks:=t' }:=
 I.write (x:=a) (e:=a) mu (.inl rfl) (λb q hb z=>(hs.2 b hb).trans z) he new
theorem O4 (z:kvs.length<=sizeLine)(hd:(a == sysModules)=false)(rel:KV kvs vs)(dd:h'.DictOf (gC P w) a vs):
  cI P w H' h' a (.dK kvs):=⟨z,hd,vs,rel,dd⟩
theorem Eo (hu:A.units+16<cLine)(I:Inv X pins σ H s)(g:Ij X.K H a y v H')(ry:RelV y u)(rv:RelV v r)(h:∀s',Inv X pins σ H' s'->Q () s'):
  wpAny (model X.prog X.w) A (setItem (.ref a) u r) Q E s:=by
 rcases g with ⟨kvs,k,e,ey,l,eH⟩ | ⟨kvs,k,b,e,ey,eb,l,eH⟩
 ·subst ey eH;obtain ⟨z,hd,vs,rel,dd⟩:=TJ I.hok e;have hz:vs.length<=sizeLine:=by rw [← rel.length];exact z
  have hl:(putK kvs k v).length<=sizeLine:=by have:=mG kvs k v;omega
  refine wpAny_setItem_pairs (hsz:=hz) (Bf ry) dd λh' dd' hs=>h _ ?_;have he:∃q,h'.get? a=some q:=let ⟨q,_,_,hq,_⟩:=dd';⟨q,hq⟩
  exact rn I (by rw [e];exact True.intro) hs he (O4 hl hd (rel.put k rv) dd')
 ·subst ey eH;cases (show u=Value.ref b from ry);obtain ⟨z,hd,xs,rel,dd⟩:=G7 (vH I) I.hok e;have hz:xs.length<=sizeLine:=by rw [← Paired.length rel];exact z
  have hl:(putK kvs k v).length<=sizeLine:=by have:=mG kvs k v;omega
  refine wpAny_setItem_heap (hsz:=hz) (qw hu) (sy I eb) dd λh' dd' hs=>h _ ?_;obtain ⟨q,es,ep,hq,h2,h3,h4,_,h5⟩:=dd';refine rn I (by rw [e];exact True.intro) hs ⟨q,hq⟩ ⟨hl,hd,_,(rel.put k eb rv).keeps λc ys ec=>?_,q,es,ep,hq,h2,h3,h4,h5⟩;rw [aV (xZ ec e (λz=>nomatch z))];exact ec
end
section
theorem Tf (I:Inv X pins σ H s)(e:Rd H a (.dK kvs))(h:∀t s',Inv X pins σ H s'->Q (.int kvs.length t) s'):wpAny (model X.prog X.w) A (call (.builtin "len") [.ref a]) Q E s:=by
 obtain ⟨z,hd,vs,rel,dd⟩:=xN I.hok e;refine call_len_dict hd dd (by rw [← rel.length];rw [sizeLine_eq] at z;omega) ?_;rw [← rel.length];exact h _ _ (I.tok _)
end
def Py (i:Expr):Prop:=∀ov iv,subscripted i false ov iv=operate [ov,iv] (getItem ov iv)
theorem Mu {prog:Program}{w:World}{A:Around}{E:Zv}{s:Shared}{env:Env}{value slice:Expr}{pos:Pos}{T id:String}{Q:Zv}
  (hl:typeLookup (.type T) "__getitem__" = pure (some (.builtin id))) (hs:Py slice)
  (h:wpAny (model prog w) A (eval value env) (λo s₁=>wpAny (model prog w) A (eval slice env) (λi s₂=>s₂.TypeIs o T/\wpAny (model prog w) A (getItem o i) Q E s₂) E s₁) E s):
  wpAny (model prog w) A (eval (.Subscript value slice pos) env) Q E s:=by
 refine Subscript_ (wpAny_mono h (λo s₁ h₁=>wpAny_mono h₁ (λi s₂ h₂=>?_) λ_ _ x=>x) λ_ _ x=>x);obtain ⟨hT,h₂⟩:=h₂;unfold subscriptTail;refine wpAny_bind ?_;rw [getitemInPython_of_ne hT.not_modules];refine wpAny_bind (wpAny_specialOf hT hl ?_);have fin:wpAny (model prog w) A (subscripted slice false o i) (λr s₃=>wpAny (model prog w) A (letTemporaryGo value o r >>= λ_=>pure r) Q E s₃) E s₂:=by
  rw [hs o i];exact wpAny_operating (wpAny_mono h₂ (λr s₃ h₃=>wpAny_bind (wpAny_letTemporaryGo (wpAny_pure h₃))) λ_ _ x=>x)
 first
  |exact wpAny_pure (wpAny_bind fin)
  |exact wpAny_bind (wpAny_pure (wpAny_bind fin))
  |exact wpAny_bind fin
theorem yg (I:Inv X pins σ H s)(g:KR X.K H a y o):s.TypeIs (.ref a) "dict":=by
 rcases g with ⟨kvs,k,e,_,_⟩ | ⟨kvs,k,b,e,_,_,_⟩
 ·obtain ⟨_,_,vs,_,dd⟩:=xN I.hok e;exact dd.typeIs
 ·obtain ⟨_,_,xs,_,dd⟩:=Bk (vH I) I.hok e;exact dd.typeIs
def Ui (K:W.Frag)(td ty:TE):TE:=λσ H Q=>td σ H λx H1=>ty σ H1 λy H2=>∃a v,x=.ref a/\KR K H2 a y (some v)/\Q v H2
def Uj (K:W.Frag)(td ty tv:TE):TS:=λD σ H=>tv σ H λv H1=>td σ H1 λx H2=>ty σ H2 λy H3=>∃a H4,x=.ref a/\Ij K H3 a y v H4/\D.nx σ H4
section
theorem K5 (hu:X.A.units+16<cLine)(ho:PE X o td)(hi:PE X i ty)(hs:Py i):PE X (.Subscript o i pos) (Ui X.K td ty):=by
 intro pins s σ H Q I h;refine Mu PySem.F.slot_dict_getitem.lookup hs (thn (ho pins s σ H _ I h) λu s1 ⟨x,H1,I1,rx,q1⟩=>thn (hi pins s1 σ H1 _ I1 q1) λiv s2 ⟨y,H2,I2,ry,a,v,ex,g,q2⟩=>?_);subst ex;obtain rfl:u=Value.ref a:=rx;exact ⟨yg I2 g,FQ hu I2 g ry λw' s3 I3 rw'=>⟨v,H2,I3,rw',q2⟩⟩
theorem KH (hu:X.A.units+16<cLine)(ho:PE X o td)(hi:PE X i ty)(hv:PE X value tv)(hs:swapsWith value (some (.Subscript o i pos')) pos.line X.env=pure false):
  PS X (.Assign [.Subscript o i pos'] value pos) (Uj X.K td ty tv):=by
 intro pins s σ H D I h;refine wpAny_Assign_Subscript (thn (hv pins s σ H _ I h) λr s1 ⟨v,H1,I1,rv,q1⟩=>thn (ho pins s1 σ H1 _ I1 q1) λu s2 ⟨x,H2,I2,rx,q2⟩=>thn (hi pins s2 σ H2 _ I2 q2) λiv s3 ⟨y,H3,I3,ry,a,H4,ex,g,q3⟩=>?_) hs;subst ex;obtain rfl:u=Value.ref a:=rx;exact Eo hu I3 g ry rv λs4 I4=>⟨σ,H4,I4,q3⟩
end
theorem xT (h:Heap)(hb:sysModules<h.objs.size):cI P w H (h.push { cls:=.type "dict",data:=.dict #[] }) h.objs.size (.dT T []):=
 ⟨Nat.zero_le _,beq_eq_false_iff_ne.mpr (Ne.symm (Nat.ne_of_lt hb)),[],.nil,_,#[],0,Heap.get?_push_size _ rfl,⟨rfl,rfl,rfl⟩,rfl,rfl,List.nodup_nil⟩
def QG (K:W.Frag):TE:=λ_ H Q=>∀p,H p=none->Q (.ref p) (upd H p (.dT (KTp K) []))
section
theorem Ka:PE X (.Dict [] [] pos) (QG X.K):=λpins s σ H Q I h=>
 wpAny_Dict_empty ⟨.ref s.heap.objs.size,_,I.laid (a:=s.heap.objs.size) (o:=.dT (KTp X.K) []) (t':=s.toks) (λ_ _ q=>Heap.get?_push_of_some _ q) (Nat.le_refl _) (xT s.heap I.big),rfl,h _ (I.hok.fresh (Nat.le_refl _))⟩
end
def nP (kvs more:List (Key×V)):List (Key×V):=more.foldl (λacc kv=>putK acc kv.1 kv.2) kvs
theorem KV.merge:∀{more:List (Key×V)} {rs:List (Key×Value)} {kvs:List (Key×V)} {vs:List (Key×Value)},KV more rs->KV kvs vs->KV (nP kvs more) (merged vs rs):=by
 intro more rs kvs vs r;unfold KV at r;induction r generalizing kvs vs with
 |nil=>intro q;exact q
 | @cons p q ps qs h t ih=>
  intro r0;have e:KV (putK kvs p.1 p.2) (stored vs q.1 q.2):=by
   have:=r0.put p.1 h.2
   rw [← h.1];exact this
  exact ih e
theorem nH:∀(more kvs:List (Key×V)),(nP kvs more).length<=kvs.length+more.length
 |[],kvs=>by show kvs.length<=kvs.length+0;omega
 |p::r,kvs=>by
  have h1:=nH r (putK kvs p.1 p.2);have h2:=mG kvs p.1 p.2;show (nP (putK kvs p.1 p.2) r).length<=_;rw [List.length_cons];omega
structure M2 (X:Cx)(o:Expr)(m:Str)(apos:Pos)(e f:Expr)(cpos:Pos):Prop where
 base:attributeBase o m X.env (eval o X.env)=eval o X.env
 few:((backTo cpos (starEach [e,f] X.env)).all (λx=>!x.1) && (backToKw cpos (keywordEach [] X.env)).all (λx=>x.1.isSome)
  && decide (([e,f]:List Expr).length+([]:List Keyword).length+(if ([]:List Keyword).isEmpty then 0 else 1)<30))=true
 line:(apos.endLine == cpos.line)=true
 trees:backTo cpos (starEach [e,f] X.env)=[(false,eval e X.env),(false,eval f X.env)]
def IsD (K:W.Frag)(H:Hp)(a:Addr):Prop:=(∃kvs,Rd H a (.dK kvs))\/∃kvs,Rd H a (.dT (KTp K) kvs)
theorem RL (I:Inv X pins σ H s)(d:IsD X.K H a):
  s.TypeIs (.ref a) "dict"/\(∀b,Value.ref a=.ref b->∃ob,s.heap.get? b=some ob/\ob.dict=none)/\(a == sysModules)=false:=by
 rcases d with ⟨kvs,e⟩ | ⟨kvs,e⟩
 ·obtain ⟨_,hd,vs,_,dd⟩:=xN I.hok e;refine ⟨dd.typeIs,λb q=>?_,hd⟩;cases q;obtain ⟨ob,_,_,h1,h2,_⟩:=dd;exact ⟨ob,h1,h2.2.1⟩
 ·obtain ⟨_,hd,xs,_,dd⟩:=Bk (vH I) I.hok e;refine ⟨dd.typeIs,λb q=>?_,hd⟩;cases q;obtain ⟨ob,_,_,h1,h2,_⟩:=dd;exact ⟨ob,h1,h2.2.1⟩
section
end
section
end
section
end
section
end
section
theorem Es:fB X (.builtin "len") (λxs H Q=>∃a kvs,xs=[V.ref a]/\H a=some (.dK kvs)/\Q (.int kvs.length) H):=by
 intro pins s σ H xs us Q I r h;obtain ⟨a,kvs,rfl,ha,q⟩:=h;obtain ⟨u,rfl,ru⟩:=vals1 r;cases ru;exact Tf I (.inl ha) λt s' I'=>⟨.int kvs.length,H,I',⟨t,rfl⟩,q⟩
end
section
variable {κ:Type}[DecidableEq κ]
end
end L2
namespace Hd
open PySem PySem.Spec PyProof.Rows L2
theorem aR (h:H p=none)(o:HO):aH H (upd H p o):=λb u q=>by
 rw [aV (iz q h)];exact q
section
theorem bc (h:PE X e T)(k:∀σ H Q,T' σ H Q->T σ H Q):PE X e T':=λpins s σ H Q I q=>h pins s σ H Q I (k σ H Q q)
def clA (t:TA):TA:=λσ H Q=>∃R,t σ H R/\∀xs H1,R xs H1->Q xs H1
theorem O1 (h:PA X es t):PA X es (clA t):=λpos pins s σ H Q I ⟨R,hR,k⟩=>thn (h pos pins s σ H R I hR) λ_ _ hE=>xq2 hE λvs H1 I1 r q=>⟨vs,H1,I1,r,k _ _ q⟩
def Th (t:TA):TE:=λσ H Q=>t σ H λxs H1=>xs.length<=sizeLine/\∀p H',aH H1 H'->H' p=some (.tup xs)->Q (.ref p) H'
theorem Ci (h:PA X es t):PE X (.Tuple es x1 pos) (Th t):=
 bc (JR (O1 h)) λ_ _ _ q=>⟨_,q,λ_ _ ⟨z,k⟩=>⟨z,λp hp=>k p _ (aR hp _) aU⟩⟩
end
abbrev bW (X:Cx)(N':List Str)(scope:Scope)(cl:List (Str×Addr))(C:Addr)(sE:Shared)(HE:Hp)(fp:List Addr)(pins:Zo):Cx:=
 { X with N:=N',s₀:=sE,H₀:=HE,env:=compEnvC scope cl C X.env,outer:=X.stack,ex:=fp,fn:=λ_=>false,pn:=X.pn++pins,xe:=λ_ _=>False }
structure CSc (sc scope:Scope)(caps:List Str):Prop where
 kind:scope.kind=.function
 nocell:∀y∈scope.names,y.2≠.cell
 loc:∀y∈scope.names,y.2=.local->scope.names.lookup y.1=some .local
 free:∀y∈scope.names,y.2=.free->sc.names.lookup y.1=some .cell\/sc.names.lookup y.1=some .free
 caps:∀x∈caps,scope.names.lookup x=some .free/\(sc.names.lookup x=some .cell\/sc.names.lookup x=some .free)
theorem mem_of_lookup:∀{l:List (Str×β)} {x:Str} {k:β},l.lookup x=some k->(x,k)∈l
 |[],_,_,h=>by simp at h
 |(n,k')::r,x,k,h=>by
  rw [List.lookup_cons] at h;split at h
  ·rename_i e;have e':x=n:=by simpa using e
   cases h;rw [e'];exact List.mem_cons_self
  ·exact List.mem_cons_of_mem _ (mem_of_lookup h)
theorem oW {env:Env}:∀{names:List (Str×NameKind)} {x:Str},names.lookup x=some .free->
  (names.map λ(n,k)=>if (k == NameKind.free && env.scope.kind == .function && env.kindOf n == some .cell) then (n,NameKind.cell) else (n,k)).lookup x=some .cell ∨
  (names.map λ(n,k)=>if (k == NameKind.free && env.scope.kind == .function && env.kindOf n == some .cell) then (n,NameKind.cell) else (n,k)).lookup x=some .free
 |[],_,h=>by simp at h
 |(n,k)::r,x,h=>by
  have ih:=@oW env r x;show List.lookup x ((if (k == NameKind.free && env.scope.kind == .function && env.kindOf n == some .cell)=true then (n,NameKind.cell) else (n,k))::_)=_\/List.lookup x ((if (k == NameKind.free && env.scope.kind == .function && env.kindOf n == some .cell)=true then (n,NameKind.cell) else (n,k))::_)=_;cases hx:x == n with
  |true=>
   simp only [List.lookup_cons,hx] at h;cases h;by_cases hc:(NameKind.free == NameKind.free && env.scope.kind == .function && env.kindOf n == some .cell)=true
   ·rw [if_pos hc];simp only [List.lookup_cons,hx];exact .inl trivial
   ·rw [if_neg hc];simp only [List.lookup_cons,hx];exact .inr trivial
  |false=>
   simp only [List.lookup_cons,hx] at h;by_cases hc:(k == NameKind.free && env.scope.kind == .function && env.kindOf n == some .cell)=true
   ·rw [if_pos hc];simp only [List.lookup_cons,hx];exact ih h
   ·rw [if_neg hc];simp only [List.lookup_cons,hx];exact ih h
theorem sH {env:Env}:∀{names:List (Str×NameKind)} {x:Str},(∀y∈names,y.2≠.cell)->
  ((names.map λ(n,k)=>if (k == NameKind.free && env.scope.kind == .function && env.kindOf n == some .cell) then (n,NameKind.cell) else (n,k)).lookup x=some .cell ∨
  (names.map λ(n,k)=>if (k == NameKind.free && env.scope.kind == .function && env.kindOf n == some .cell) then (n,NameKind.cell) else (n,k)).lookup x=some .free)->names.lookup x=some .free
 |[],_,_,h=>by simp at h
 |(n,k)::r,x,hn,h=>by
  have ih:=@sH env r x (λy hy=>hn y (List.mem_cons_of_mem _ hy));have h':List.lookup x ((if (k == NameKind.free && env.scope.kind == .function && env.kindOf n == some .cell)=true then (n,NameKind.cell) else (n,k))::_)=some .cell\/List.lookup x ((if (k == NameKind.free && env.scope.kind == .function && env.kindOf n == some .cell)=true then (n,NameKind.cell) else (n,k))::_)=some .free:=h;have hk:k≠.cell:=hn (n,k) List.mem_cons_self;by_cases hc:(k == NameKind.free && env.scope.kind == .function && env.kindOf n == some .cell)=true
  ·rw [if_pos hc] at h';have kf:k=.free:=by
    simp only [Bool.and_eq_true,beq_iff_eq] at hc;exact hc.1.1
   subst kf;cases hx:x == n with
   |true=>simp only [List.lookup_cons,hx]
   |false=>
    simp only [List.lookup_cons,hx] at h' ⊢;exact ih h'
  ·rw [if_neg hc] at h';cases hx:x == n with
   |true=>
    simp only [List.lookup_cons,hx] at h' ⊢;rcases h' with z | z
    ·exact absurd (Option.some.inj z) hk
    ·exact z
   |false=>
    simp only [List.lookup_cons,hx] at h' ⊢;exact ih h'
theorem nY:∀(names:List (Str×NameKind)) (acc:List (Str×Addr)),(∀y∈names,y.2=.free->∃c,env.cells.lookup y.1=some c)->
  ∃cl,(forIn names acc λ(y:Str×NameKind) (cs:List (Str×Addr))=>(if y.2 == .free then do let c ← cellOf env y.1;pure (ForInStep.yield ((y.1,c)::cs)) else pure (ForInStep.yield cs):Sem (ForInStep (List (Str×Addr)))))=pure cl/\
   (∀x c,cl.lookup x=some c->acc.lookup x=some c\/env.cells.lookup x=some c)/\(∀x c,acc.lookup x=some c->∃c',cl.lookup x=some c')/\∀y∈names,y.2=.free->∃c,cl.lookup y.1=some c
 |[],acc,_=>⟨acc,rfl,λ_ _ e=>.inl e,λ_ c e=>⟨c,e⟩,λ_ z=>nomatch z⟩
 |(n,k)::r,acc,h=>by
  have hr:∀y∈r,y.2=.free->∃c,env.cells.lookup y.1=some c:=λy hy=>h y (List.mem_cons_of_mem _ hy);by_cases hk:(k == NameKind.free)=true
  ·obtain ⟨c,hc⟩:=h (n,k) List.mem_cons_self (by simpa using hk);obtain ⟨cl,e,h1,h2,h3⟩:=nY r ((n,c)::acc) hr;refine ⟨cl,?_,λx d q=>?_,λx d q=>?_,λy hy q=>?_⟩
   ·have ec:cellOf env n=pure c:=by unfold cellOf;rw [show env.cells.lookup n=some c from hc]
    rw [List.forIn_cons];simp only [hk,if_true,ec,pure_bind];exact e
   ·rcases h1 x d q with z | z
    ·rw [List.lookup_cons] at z;split at z
     ·rename_i e1;have e1':x=n:=by simpa using e1
      cases z;rw [e1'];exact .inr hc
     ·exact .inl z
    ·exact .inr z
   ·by_cases e1:(x == n)=true
    ·exact h2 x c (by rw [List.lookup_cons,e1])
    ·exact h2 x d (by rw [List.lookup_cons];simp only [Bool.not_eq_true] at e1;rw [e1];exact q)
   ·rcases List.mem_cons.mp hy with z | z
    ·subst z;exact h2 n c (by rw [List.lookup_cons];simp)
    ·exact h3 y z q
  ·obtain ⟨cl,e,h1,h2,h3⟩:=nY r acc hr;refine ⟨cl,?_,h1,h2,λy hy q=>?_⟩
   ·rw [List.forIn_cons];simp only [hk,if_false,pure_bind,Bool.false_eq_true];exact e
   ·rcases List.mem_cons.mp hy with z | z
    ·subst z;exact absurd (show (k == NameKind.free)=true by simpa using q) hk
    ·exact h3 y z q
theorem qM (h:∀y∈scope.names,y.2=.free->∃c,env.cells.lookup y.1=some c):
  ∃cl,closureFor scope env=pure cl/\(∀x c,cl.lookup x=some c->env.cells.lookup x=some c)/\∀y∈scope.names,y.2=.free->∃c,cl.lookup y.1=some c:=by
 obtain ⟨cl,e,h1,_,h3⟩:=nY scope.names [] h;refine ⟨cl,?_,λx c q=>(h1 x c q).elim (λz=>by simp at z) id,h3⟩;unfold closureFor;simp only [bind_pure];refine Eq.trans ?_ e;rfl
section
variable {X:Cx}{pins:Zo}{σ:St}{HE:Hp}{sE:Shared}{N':List Str}{scope sc:Scope}{cl:List (Str×Addr)}{fp:List Addr}{caps:List Str}
theorem NQ (I:Inv X pins σ HE sE)(S:CSc sc scope caps)(hfp:∀b∈fp,o4 X pins HE b/\b<sE.heap.objs.size)
  (hc1:∀x c,cl.lookup x=some c->X.env.cells.lookup x=some c) (hc2:∀y∈scope.names,y.2=.free->∃c,cl.lookup y.1=some c):
  (bW X N' scope cl sE.heap.objs.size sE HE fp pins).Ok where
 mod:=I.ok.mod
 kind:=S.kind
 glob:=I.ok.glob
 blt:=I.ok.blt
 above:=Nat.le_refl _
 inj:=λx y c h1 h2=>I.ok.inj x y c (hc1 x c h1) (hc1 y c h2)
 has:=λx h=>hc2 (x,.free) (mem_of_lookup (sH S.nocell h)) rfl
 cab:=λx c h=>nomatch h
 hd:=I.ok.hd
 frames:=I.ok.frames
 stk:=.inl rfl
 exf:=λb hb=>⟨Nat.ne_of_lt (hfp b hb).2,λx c h=>(hfp b hb).1.2.2.2.2.1 x c (hc1 x c h)⟩
 bs:=I.bs
 bsz:=Nat.le_trans I.ok.bsz I.sz
 noex:=λb o e hb=>by
  rcases (hfp b hb).1.2.2.2.1 with z | z
  ·exact I.ok.noex b o e z
  ·exact absurd (Nat.lt_of_lt_of_le (Heap.lt_size e) (Nat.le_trans I.ok.bsz z)) (Nat.lt_irrefl _)
 exfs:=λb hb hz=>by
  rcases List.mem_cons.mp (I.wg b hz) with z | z
  ·exact (hfp b hb).1.2.1 z
  ·exact (hfp b hb).1.2.2.1 z
 n8:=I.stack
 frf:=I.xj
theorem Hu {cap:List Nat}{h':Heap}(I:Inv X pins σ HE sE)(S:CSc sc scope caps)(hsc:X.env.scope=sc)(hfp:∀b∈fp,o4 X pins HE b/\b<sE.heap.objs.size)
  (hc1:∀x c,cl.lookup x=some c->X.env.cells.lookup x=some c) (hc2:∀y∈scope.names,y.2=.free->∃c,cl.lookup y.1=some c)
  (hN:N'.drop k=caps) (hk:k<=N'.length) (hcap:Paired (λj x=>X.N[j]? = some x) cap caps) {m:Zs}
  (kp:∀b o,sE.heap.get? b=some o->h'.get? b=some o) (hns:h'.Ns sE.heap.objs.size m) (tk:Nat):
  Inv (bW X N' scope cl sE.heap.objs.size sE HE fp pins) [] (List.replicate k none++cap.map λj=>(σ[j]?).join) HE { sE with heap:=h',toks:=tk } where
 ok:=NQ I S hfp hc1 hc2
 os:=rfl
 bare:=I.bare
 base:=Un.kept kp
 loc:=by
  refine ⟨m,hns,λi x v e1 e2 e3=>?_⟩;have hik:k<=i:=by
   by_cases z:k<=i
   ·exact z
   ·rw [List.getElem?_append_left (by simp;omega),List.getElem?_replicate] at e2;rw [if_pos (by omega)] at e2;cases e2
  obtain ⟨j',rfl⟩:∃j',i=k+j':=⟨i-k,by omega⟩;rw [List.getElem?_append_right (by simp),List.length_replicate,Nat.add_sub_cancel_left,List.getElem?_map] at e2;have hx:caps[j']? = some x:=by rw [← hN,List.getElem?_drop];exact e1
  have:∀{l:List Nat} {l':List Str} {i:Nat},Paired (λj x=>X.N[j]? = some x) l l'->l'[i]? = some x->∃j,l[i]? = some j/\X.N[j]? = some x:=by
   intro l l' i p;induction p generalizing i with
   |nil=>intro z;simp at z
   |cons a _ ih=>
    intro z;cases i with
    |zero=>simp at z;subst z;exact ⟨_,rfl,a⟩
    |succ i=>exact ih (by simpa using z)
  obtain ⟨j,hj,hNj⟩:=this hcap hx;rw [hj] at e2;have e2':σ[j]? = some (some v):=by
   cases q:σ[j]? with
   |none=>rw [Option.map_some,q] at e2;cases e2
   |some o=>
    rw [Option.map_some,q] at e2
    have:o=some v:=Option.some.inj e2
    rw [this]
  obtain ⟨hxf,hxo⟩:=S.caps x (List.mem_of_getElem? hx);rw [← hsc] at hxo;obtain ⟨m0,_,hl⟩:=I.loc;obtain ⟨u,r,L⟩:=hl j x v hNj e2' (hxo.elim (λz=>.inr (.inl z)) λz=>.inr (.inr z));refine ⟨u,r,.inr ⟨oW hxf,?_⟩⟩;rcases L with ⟨z,_⟩ | ⟨_,c,hc,hcell⟩
  ·have z':X.env.scope.names.lookup x=some .local:=z;rcases hxo with q | q<;>rw [z'] at q<;>cases q
  ·obtain ⟨c',hc'⟩:=hc2 (x,.free) (mem_of_lookup hxf) rfl;have e:=hc1 x c' hc';rw [hc] at e;cases e;obtain ⟨o,ho,hd⟩:=hcell;exact ⟨c,hc',o,kp c o ho,hd⟩
 cell:=λx c e=>by
  obtain ⟨v,o,ho,hd⟩:=I.cell x c (hc1 x c e);exact ⟨v,o,kp c o ho,hd⟩
 free:=I.hok.fresh (Nat.le_refl _)
 freeC:=λx c e=>I.freeC x c (hc1 x c e)
 pin:=λp hp=>by
  rw [List.append_nil] at hp;obtain ⟨e,n,ne,nf,d⟩:=I.pin p hp;refine ⟨kp _ _ e,n,Nat.ne_of_lt (Heap.lt_size e),λz=>?_,d⟩;rcases List.mem_cons.mp (I.wg p.1 z) with q | q
  ·exact ne q
  ·exact nf q
 hok:=I.hok.kept kp
 len:=by
  show (List.replicate k none++cap.map λj=>(σ[j]?).join).length=N'.length
  have:=hcap.length
  rw [← hN,List.length_drop] at this
  simp
  omega
theorem comp_back (I:Inv X pins σ HE sE)(hfp:∀b∈fp,o4 X pins HE b/\b<sE.heap.objs.size)
  (I':Inv (bW X N' scope cl sE.heap.objs.size sE HE fp pins) p' σ' H' s'):Inv X pins σ H' s':=
 I.call' (ch:=fp) I'.os I'.base I'.hok I'.bare λb hb=>⟨(hfp b hb).1.2.2.2.1,(hfp b hb).1.2.1,(hfp b hb).1.2.2.2.2.1,(hfp b hb).1.2.2.2.2.2⟩
end
theorem yN (I:Inv X pins σ HE sE)(I':Inv X pins σ' H' s')(hn:H' sE.heap.objs.size=none)
  (hs:Heap.SameBut sE.heap.objs.size s'.heap h'):Inv X pins σ' H' { s' with heap:=h' }:=by
 refine I'.turned (t':=s'.toks) (λb o hb e=>(hs.2 b hb).trans e) hn (Nat.ne_of_gt I.lt) (.inr I.sz) (λx c e z=>?_) (λp hp z=>?_)
 ·obtain ⟨v,q⟩:=I.cell x c e;exact absurd q.lt (by rw [z];exact Nat.lt_irrefl _)
 ·exact absurd (Heap.lt_size (I.pin p hp).1) (by rw [z];exact Nat.lt_irrefl _)
def Fi (X:Cx)(ifs:List Expr)(t:TT):Prop:=
 ∀(pins:Zo) (s:Shared) (σ:St) (H:Hp) (Q:Bool->Hp->Prop),Inv X pins σ H s->t σ H Q->
  wpAny (model X.prog X.w) X.A (forIn ifs true λc r=>if r=true then do let ok ← isTrue c X.env (eval c X.env);pure (ForInStep.yield ok) else pure (ForInStep.yield r)) (TP X pins σ Q) X.xe s
def VD:TT:=λ_ H Q=>Q true H
theorem Nr:Fi X [] VD:=λ_ _ _ H _ I q=>wpAny_tests_nil ⟨H,I,q⟩
theorem Nf (h:PT X c t):Fi X [c] t:=λpins s σ H Q I q=>wpAny_tests_one (h pins s σ H Q I q)
def cSt (k:Nat)(cap:List Nat)(σ:St):St:=List.replicate k none++cap.map λj=>(σ[j]?).join
def S7 (J:It)(k:Nat)(cap:List Nat)(g:TG)(tt:TT)(te:TE)(σ:St)(H1:Hp)(l:Addr)(Q:VK):Prop:=
 ∃W:Nat->Nat->List V->Hp->Prop,(∃m,W 0 m [] (upd H1 l (.lst [])))/\∀i m ys H,W i m ys H->
  (J.stop i H/\Q (.ref l) H)\/(J.go i H/\∀x H',J.yld i H x H'->g x (cSt k cap σ) H' λσ2 H3=>σ2.drop k=(cSt k cap σ).drop k/\tt σ2 H3 λb H4=>
   if b=true then te σ2 H4 λy H5=>H5 l=some (.lst ys)/\ys.length<sizeLine/\∃m',m'<m/\W (i+1) m' (ys++[y]) (upd H5 l (.lst (ys++[y])))
   else ∃m',m'<m/\W (i+1) m' ys H4)
def CT (k:Nat)(cap:List Nat)(wi:TI)(g:TG)(tt:TT)(te:TE):TE:=λσ H Q=>wi σ H λJ H1=>∀l,H1 l=none->S7 J k cap g tt te σ H1 l Q
section
theorem yw (hcalm:X.calm=true)(S:CSc sc scope caps)(hsc:X.env.scope=sc)(hN:N'.drop k=caps)(hk:k<=N'.length)(hcap:Paired (λj x=>X.N[j]? = some x) cap caps)
  (hi:PI X tg iter wi) (hg:∀cl C sE HE fp pins,PG (bW X N' scope cl C sE HE fp pins) tg g) (ht:∀cl C sE HE fp pins,Fi (bW X N' scope cl C sE HE fp pins) ifs tt) (he:∀cl C sE HE fp pins,PE (bW X N' scope cl C sE HE fp pins) elt te)
  (I:Inv X pins σ H s) (h:CT k cap wi g tt te σ H Q) {cl:List (Str×Addr)} (hc1:∀x c,cl.lookup x=some c->X.env.cells.lookup x=some c) (hc2:∀y∈scope.names,y.2=.free->∃c,cl.lookup y.1=some c)
  {RR:Value->Addr->Result->Shared->Prop}
  (hRR:∀l sE HE H' s' m,Inv X pins σ HE sE->Inv X pins σ H' s'->H' sE.heap.objs.size=none->s'.heap.Ns sE.heap.objs.size m->Q (.ref l) H'->RR (.ref l) sE.heap.objs.size (.ok .next) s'):
  wpAny (model X.prog X.w) X.A (eval iter X.env) (λxv s₁=>wpAny (model X.prog X.w) X.A (pyIter xv) (λit s₂=>wpAny (model X.prog X.w) X.A (newList []) (λacc s₃=>
   wpAny (model X.prog X.w) X.A (newFunctionEnv scope X.env.globals cl [] X.env.qual none .none (some X.env)) (λcenv s₄=>
    codeAny (model X.prog X.w) X.A (.compStart (.ListComp elt [⟨tg,iter,ifs,0⟩] scope pos) 0 it acc { cenv with scope:=relabel scope X.env }) (RR acc cenv.locals) s₄) X.xe s₃) X.xe s₂) X.xe s₁) X.xe s:=by
 refine thn (hi pins s σ H _ I h) λv s1 h1=>thn h1 λitv s2 h2=>?_;obtain ⟨it,fp,tn,J,H1,e,I1,T,st1,f1,q1⟩:=h2;subst e;refine wpAny_newList ?_;have hfree:H1 s2.heap.objs.size=none:=I1.hok.fresh (Nat.le_refl _);have fpl:∀b∈fp,b<s2.heap.objs.size:=λb hb=>by
  obtain ⟨o,e,_⟩:=T.obj _ _ st1 b hb;exact Heap.lt_size e
 generalize hE:({ s2 with heap:=s2.heap.push { cls:=.type "list",data:=.seq ([]:List Value).toArray } }:Shared)=sE;have k2:∀b o,s2.heap.get? b=some o->sE.heap.get? b=some o:=λb o e=>by rw [← hE];exact Heap.get?_push_of_some _ e
 have szE:s2.heap.objs.size<sE.heap.objs.size:=by rw [← hE];show _<(s2.heap.push _).objs.size;rw [Heap.size_push];exact Nat.lt_succ_self _
 have IE:Inv X pins σ (upd H1 s2.heap.objs.size (.lst [])) sE:=by
  rw [← hE];refine I1.laid (t':=s2.toks) (λb o e=>Heap.get?_push_of_some _ e) (Nat.le_refl _) ?_;exact ⟨Nat.zero_le _,[],0,.nil,Heap.get?_push_size _ rfl⟩
 have fE:∀b∈fp,o4 X pins (upd H1 s2.heap.objs.size (.lst [])) b/\b<sE.heap.objs.size:=λb hb=>
  ⟨⟨by rw [aV (Nat.ne_of_lt (fpl b hb))];exact (f1 b hb).1,(f1 b hb).2⟩,Nat.lt_trans (fpl b hb) szE⟩
 obtain ⟨W,⟨m0,w0⟩,turn⟩:=q1 _ hfree;generalize hl:s2.heap.objs.size=l at *;clear hl;generalize hHE:upd H1 l (.lst [])=HE at *;refine wpAny_newFunctionEnv S.nocell (by intro y hy;simp at hy) (λh₁ hns₁ hsb₁=>?_) S.kind;have kE:∀b o,sE.heap.get? b=some o->h₁.get? b=some o:=λb o e=>(hsb₁.2 b (Nat.ne_of_lt (Heap.lt_size e))).trans (Heap.get?_push_of_some _ e);have I0:=Hu (k:=k) (cap:=cap) (N':=N') IE S hsc fE hc1 hc2 hN hk hcap kE hns₁ (sE.toks+([]:List (Str×Value)).length);have st0:tn 0 h₁:=T.keep _ _ _ st1 λb hb o e=>kE b o (k2 b o e);have hX:∀{H':Hp},(∀b∈fp,H' b=none)->∀b∈fp,o4 (bW X N' scope cl sE.heap.objs.size sE HE fp pins) [] H' b:=λhn b hb=>
  ⟨hn b hb,(I0.ok.exf b hb).1,I0.ok.exfs b hb,.inl hb,(I0.ok.exf b hb).2,λp hp=>by
   rw [List.append_nil] at hp;exact (fE b hb).1.2.2.2.2.2 p hp⟩
 have loop:∀s₃:Shared,s₃={ sE with heap:=h₁,toks:=sE.toks+([]:List (Str×Value)).length }->
   codeAny (model X.prog X.w) X.A (.compLoop (.ListComp elt [⟨tg,iter,ifs,0⟩] scope pos) 0 (.ref it) (.ref l) (compEnvC scope cl sE.heap.objs.size X.env)) (RR (.ref l) sE.heap.objs.size) s₃:=by
  rintro s₃ rfl;refine codeAny_loop rfl (λn s'=>∃i ys H',Inv (bW X N' scope cl sE.heap.objs.size sE HE fp pins) [] (cSt k cap σ) H' s'/\tn i s'.heap/\(∀b∈fp,H' b=none)/\W i n ys H') (λn s3 hI=>?_) m0
   ⟨0,[],HE,I0,st0,λb hb=>(fE b hb).1.1,w0⟩
  obtain ⟨i,ys,H3,I3,st3,fr3,w3⟩:=hI;show wpAny _ X.A ((compTurn (.ListComp elt [⟨tg,iter,ifs,0⟩] scope pos) 0 (.ref it) (.ref l) (compEnvC scope cl sE.heap.objs.size X.env)).onRaise (λx=>do noteFrame x (compEnvC scope cl sE.heap.objs.size X.env);theTreesLotGoes x)) _ _ s3;refine wpAny_noted ?_;rw [compTurn_list];refine wpAny_bind (wpAny_standAt (wpAny_bind ?_));rcases turn i n ys H3 w3 with ⟨stop,qn⟩ | ⟨go,step⟩
  ·refine wpAny_mono (T.done (bW X N' scope cl sE.heap.objs.size sE HE fp pins) rfl rfl rfl hcalm i [] s3 _ H3 (λ_ _=>False) I3 (hX fr3) st3 stop) (λr s4 ⟨hr,I4⟩=>?_) λ_ _ z=>z.elim;subst hr;obtain ⟨m4,hn4,_⟩:=I4.loc;exact wpAny_pure (hRR l sE HE H3 s4 m4 IE (comp_back IE fE I4) I4.free hn4 qn)
  ·refine wpAny_mono (T.item (bW X N' scope cl sE.heap.objs.size sE HE fp pins) rfl rfl rfl hcalm i [] s3 _ H3 (λ_ _=>False) I3 (hX fr3) st3 go) (λr s4 ⟨u,hr,h4⟩=>?_) λ_ _ z=>z.elim;subst hr;refine wpAny_bind (wpAny_mono h4 (λ_ s5 ⟨x,H5,I5,r5,y5,st5,fr5⟩=>?_) λ_ _ z=>z.elim);have I5':=I5.pinned (hX fr5) (T.obj _ _ st5);refine wpAny_bind (wpAny_mono (hg _ _ _ _ _ _ _ s5 _ H5 x u _ I5' r5 (step x H5 y5)) (λ_ s6 ⟨σ6,H6,I6,q6⟩=>?_) λ_ _ z=>z.elim);obtain ⟨d6,q6⟩:=q6;have weak:∀{H7 s7},Inv (bW X N' scope cl sE.heap.objs.size sE HE fp pins) ([]++nT fp s5.heap) σ6 H7 s7->Inv (bW X N' scope cl sE.heap.objs.size sE HE fp pins) ([]++nT fp s5.heap) (cSt k cap σ) H7 s7:=λ{H7 s7} I7=>by
    refine I7.weak (I0.len.trans I7.len.symm) λj v e=>?_;by_cases z:k<=j
    ·obtain ⟨j',rfl⟩:∃j',j=k+j':=⟨j-k,by omega⟩;rw [← List.getElem?_drop] at e ⊢;rw [d6];exact e
    ·unfold cSt at e;rw [List.getElem?_append_left (by simp;omega),List.getElem?_replicate,if_pos (by omega)] at e;cases e
   have again:∀{H7:Hp} {s7:Shared} {zs:List V},Inv (bW X N' scope cl sE.heap.objs.size sE HE fp pins) ([]++nT fp s5.heap) σ6 H7 s7->(∃m',m'<n/\W (i+1) m' zs H7)->
     ∃m,m<n/\∃i ys H',Inv (bW X N' scope cl sE.heap.objs.size sE HE fp pins) [] (cSt k cap σ) H' s7/\tn i s7.heap/\(∀b∈fp,H' b=none)/\W i m ys H':=λ{H7 s7 zs} I7 ⟨m',hm,w7⟩=>by
    refine ⟨m',hm,i+1,zs,H7,(weak I7).oU,T.keep _ _ _ st5 λb hb o e=>(I7.pin (b,o) (List.mem_append_right _ (List.mem_append_right _ (lC hb e)))).1,λb hb=>?_,w7⟩;obtain ⟨o,e,d⟩:=T.obj _ _ st5 b hb;exact (I7.pin (b,o) (List.mem_append_right _ (List.mem_append_right _ (lC hb e)))).2.1
   refine wpAny_bind (wpAny_mono (ht _ _ _ _ _ _ _ s6 σ6 H6 _ I6 q6) (λb s7 ⟨H7,I7,q7⟩=>?_) λ_ _ z=>z.elim);cases b with
   |false=>
    rw [if_neg Bool.false_ne_true] at q7;exact wpAny_pure ⟨rfl,again I7 q7⟩
   |true=>
    rw [if_pos rfl] at q7;refine wpAny_bind (wpAny_bind (wpAny_mono (he _ _ _ _ _ _ _ s7 σ6 H7 _ I7 q7) (λyv s8 ⟨y,H8,I8,r8,hl8,hz8,q8⟩=>?_) λ_ _ z=>z.elim));refine wpAny_bind (wpAny_mono (qu (X:=bW X N' scope cl sE.heap.objs.size sE HE fp pins) _ s8 σ6 H8 (.ref l) [y] (.ref l) [yv] (λ_ H9=>H9=upd H8 l (.lst (ys++[y]))) I8 rfl (.cons r8 .nil) ⟨l,ys,y,rfl,rfl,hl8,hz8,rfl⟩)
     (λ_ s9 ⟨_,H9,I9,_,e9⟩=>?_) λ_ _ z=>z.elim)
    subst e9;exact wpAny_pure (wpAny_pure ⟨rfl,again I9 q8⟩)
 exact codeAny_compStart_list (loop _ rfl) (T.self _ 0 _ _ _ st0 (loop _ rfl))
theorem Km (sc:Scope)(N' caps:List Str)(k:Nat)(cap:List Nat)(hcalm:X.calm=true)(S:CSc sc scope caps)(hcap:Paired (λj x=>X.N[j]? = some x) cap caps)
  (hi:PI X tg iter wi) (hg:∀cl C sE HE fp pins,PG (bW X N' scope cl C sE HE fp pins) tg g) (ht:∀cl C sE HE fp pins,Fi (bW X N' scope cl C sE HE fp pins) ifs tt) (he:∀cl C sE HE fp pins,PE (bW X N' scope cl C sE HE fp pins) elt te)
  (hsc:X.env.scope=sc:=by rfl) (hN:N'.drop k=caps:=by rfl) (hk:k<=N'.length:=by decide) (hs:∀x,foldedSetIterable iter X.env x=pure x:=by intro _;rfl):
  PE X (.ListComp elt [⟨tg,iter,ifs,0⟩] scope pos) (CT k cap wi g tt te):=by
 intro pins s σ H Q I h;obtain ⟨cl,hcl,hc1,hc2⟩:=qM (scope:=scope) (env:=X.env) λy hy e=>I.ok.has y.1 (by
  have z:=S.free y hy e;rw [← hsc] at z;exact z)
 rw [eval_ListComp];refine wpAny_comprehension_free (use:=none) rfl hs hcl S.kind S.loc (yw (RR:=λacc C=>compPost (model X.prog X.w) X.A X.xe none (EP X pins σ Q) acc C) hcalm S hsc hN hk hcap hi hg ht he I h hc1 hc2 ?_);intro l sE HE H' s' m IE I' hn hns q;exact ⟨m,hns,λh' hs'=>⟨.ref l,H',yN IE I' hn hs',rfl,q⟩⟩
theorem tW (sc:Scope)(N' caps:List Str)(k:Nat)(cap:List Nat)(hnd:X.N.Nodup)(hi':X.N[i]? = some y)(hy:Loc X.env.scope y)(hcalm:X.calm=true)(S:CSc sc scope caps)(hcap:Paired (λj x=>X.N[j]? = some x) cap caps)
  (hi:PI X tg iter wi) (hg:∀cl C sE HE fp pins,PG (bW X N' scope cl C sE HE fp pins) tg g) (ht:∀cl C sE HE fp pins,Fi (bW X N' scope cl C sE HE fp pins) ifs tt) (he:∀cl C sE HE fp pins,PE (bW X N' scope cl C sE HE fp pins) elt te)
  (hsw:swapsWith (.ListComp elt [⟨tg,iter,ifs,0⟩] scope pos) (some (.Name y py)) spos.line X.env=pure true:=by rfl)
  (hsc:X.env.scope=sc:=by rfl) (hN:N'.drop k=caps:=by rfl) (hk:k<=N'.length:=by decide) (hs:∀x,foldedSetIterable iter X.env x=pure x:=by intro _;rfl)
  (hf:X.fn y=true\/X.env.scope.names.lookup y=some .local:=by first | exact .inl rfl | exact .inr rfl | assumption):
  PS X (.Assign [.Name y py] (.ListComp elt [⟨tg,iter,ifs,0⟩] scope pos) spos) (Hh (CT k cap wi g tt te) (sO i)):=by
 intro pins s σ H D I h;obtain ⟨cl,hcl,hc1,hc2⟩:=qM (scope:=scope) (env:=X.env) λy hy e=>I.ok.has y.1 (by
  have z:=S.free y hy e;rw [← hsc] at z;exact z)
 rw [exec_Assign_Name_used _ _ _ _ hsw];refine wpAny_bind (wpAny_standAt (wpAny_bind ?_));show wpAny _ X.A (do let _ ← comprehension (.ListComp elt [⟨tg,iter,ifs,0⟩] scope pos) scope X.env _ (newList []) false (eval iter X.env) (some (assign (.Name y py) X.env))) _ _ s;refine wpAny_bind (wpAny_mono (wpAny_comprehension_free (use:=some (assign (.Name y py) X.env)) (Q:=λ_ s'=>SP X pins D .next s') rfl hs hcl S.kind S.loc
  (yw (RR:=λacc C=>compPost (model X.prog X.w) X.A X.xe (some (assign (.Name y py) X.env)) (λ_ s'=>SP X pins D .next s') acc C) hcalm S hsc hN hk hcap hi hg ht he I h hc1 hc2 ?_)) (λ_ s' hq=>wpAny_pure (wpAny_pure hq)) λ_ _ e=>e)
 intro l sE HE H' s' m IE I' hn hns q;show wpAny _ X.A (assign (.Name y py) X.env (.ref l)) _ _ _;refine wpAny_assign_Name (vC I' hnd hi' hy (v:=.ref l) rfl (λs2 I2 hb=>?_) hf);obtain ⟨a,hsb,ha⟩:=hb;have hne:sE.heap.objs.size≠a:=λz=>by
  rcases ha with e | e
  ·exact absurd IE.lt (by rw [← e,← z];exact Nat.lt_irrefl _)
  ·obtain ⟨v,q⟩:=IE.cell y a e;exact absurd q.lt (by rw [z];exact Nat.lt_irrefl _)
 exact ⟨m,hns.sameBut hsb hne,λh' hs'=>⟨_,H',yN IE I2 hn hs',q⟩⟩
end
section
end
theorem Rd.mono (h:Rd H a u)(g:aH H H'):Rd H' a u:=h.elim (λe=>.inl (g _ _ e)) λ⟨o,e⟩=>.inr ⟨o,g _ _ e⟩
theorem yu {K:W.Frag}{H H':Hp}{a:Addr}{xs:List V}(h:SqL K H a xs)(g:aH H H'):SqL K H' a xs:=h.elim (λe=>.inl (Rd.mono e g)) .inr
def SameBut (l:Addr)(H H':Hp):Prop:=∀b u,b≠l->H b=some u->H' b=some u
theorem R6 (g:aH H H'):SameBut l H H':=λb u _ e=>g b u e
theorem Qo:SameBut l H (upd H l o):=λb u n e=>by rw [aV n];exact e
theorem SameBut.trans (a:SameBut l H H1)(b:SameBut l H1 H2):SameBut l H H2:=λc u n e=>b c u n (a c u n e)
theorem MF (g:SameBut l H H')(n:H l=none):aH H H':=λb u e=>g b u (λz=>by rw [z,n] at e;cases e) e
section
end
section
end
section
end
end Hd
namespace F
open PySem PySem.Spec PyProof.Rows L2 Hd
inductive D where
 |non | bl (b:Bool) | int (i:Int) | str (x:Str) | exc (c:Str)
 |tup (xs:List D) | lst (xs:List D)
 |dct (ks:List Key) (vs:List D) | dcu (ks:List (List Kt)) (vs:List D)
  |dcf (ks:List (List Kt)) (vs:List D)
  |adr (a:Addr)
  |ins (c:Str) (ns:List Str) (vs:List D)
inductive Res (α:Type) where
 |ok (a:α) | exc (c:Str) | stuck
def Res.bind {α β:Type}(r:Res α)(f:α->Res β):Res β:=match r with
 | .ok a=>f a
 | .exc c=>.exc c
 | .stuck=>.stuck
@[simp] theorem Res.m5 (a:α)(f:α->Res β):(Res.ok a).bind f=f a:=rfl
@[simp] theorem Res.Tw (c:Str)(f:α->Res β):(Res.exc c:Res α).bind f=.exc c:=rfl
@[simp] theorem Res.RK (f:α->Res β):(Res.stuck:Res α).bind f=.stuck:=rfl
def ofO {α:Type}:Option α->Res α
 |some a=>.ok a
 |none=>.stuck
@[simp] theorem yd (a:α):ofO (some a)=.ok a:=rfl
@[simp] theorem TX:ofO (none:Option α)=.stuck:=rfl
structure Gx where
 K:W.Frag
 mg:Zs
abbrev gx (X:Cx):Gx:=⟨X.K,X.mg⟩
def Vl (K:W.Frag)(a:Addr)(xs:List V):Prop:=
 ∃(o:Obj) (its:Array Value) (n:Nat),K.lookup a=some o/\o.cls=.type "list"/\o.dict=none/\o.data=.seq its n/\its.size<=sizeLine/\Vals xs its.toList
def LstAt (K:W.Frag)(O:Za)(H:Hp)(a:Addr)(xs:List V):Prop:=(¬O a/\Rd H a (.lst xs))\/Vl K a xs
mutual
inductive DV (G:Gx)(O:Za)(H:Hp):V->D->Prop where
 |non:DV G O H .non .non
 |bl (b:Bool):DV G O H (.bl b) (.bl b)
 |int (i:Int):DV G O H (.int i) (.int i)
 |str (x:Str):DV G O H (.str x) (.str x)
 |adr (a:Addr):DV G O H (.ref a) (.adr a)
 |ins {a C dx:Addr} {c:Str} {kvs:List (Str×V)} {ns:List Str} {vs:List V} {ds:List D}:¬O a->G.mg c=some (.ref C)->H a=some (.ins C dx kvs)->kvs.map (·.1)=ns->kvs.map (·.2)=vs->DVs G O H vs ds->DV G O H (.ref a) (.ins c ns ds)
 |exc {a C:Addr} {c:Str}:G.mg c=some (.ref C)->H a=some (.ext (lA a (.ref C)))->DV G O H (.ref a) (.exc c)
 |tup {a:Addr} {xs:List V} {ds:List D}:SqU G.K H a xs->DVs G O H xs ds->DV G O H (.ref a) (.tup ds)
 |lst {a:Addr} {xs:List V} {ds:List D}:LstAt G.K O H a xs->DVs G O H xs ds->DV G O H (.ref a) (.lst ds)
 |dct {a:Addr} {kvs:List (Key×V)} {ks:List Key} {vs:List V} {ds:List D}:¬O a->H a=some (.dK kvs)->kvs.map (·.1)=ks->kvs.map (·.2)=vs->DVs G O H vs ds->DV G O H (.ref a) (.dct ks ds)
 |dcu {a:Addr} {kvs:List (List Kt×V)} {ks:List (List Kt)} {vs:List V} {ds:List D}:¬O a->H a=some (.dT (KTp G.K) kvs)->kvs.map (·.1)=ks->kvs.map (·.2)=vs->DVs G O H vs ds->DV G O H (.ref a) (.dcu ks ds)
 |dcf {a:Addr} {o:Obj} {kvs:List (List Kt×V)} {ks:List (List Kt)} {vs:List V} {ds:List D}:H a=some (.frz o (.dT (KTp G.K) kvs))->kvs.map (·.1)=ks->kvs.map (·.2)=vs->DVs G O H vs ds->DV G O H (.ref a) (.dcf ks ds)
inductive DVs (G:Gx)(O:Za)(H:Hp):List V->List D->Prop where
 |nil:DVs G O H [] []
 |cons {v:V} {vs:List V} {d:D} {ds:List D}:DV G O H v d->DVs G O H vs ds->DVs G O H (v::vs) (d::ds)
end
def OV (G:Gx)(O:Za)(H:Hp)(a:Addr):D->Prop
 | .lst ds=>∃xs,H a=some (.lst xs)/\DVs G O H xs ds
 | .dct ks ds=>∃kvs vs,H a=some (.dK kvs)/\kvs.map (·.1)=ks/\kvs.map (·.2)=vs/\DVs G O H vs ds
 | .dcu ks ds=>∃kvs vs,H a=some (.dT (KTp G.K) kvs)/\kvs.map (·.1)=ks/\kvs.map (·.2)=vs/\DVs G O H vs ds
 | .ins c ns ds=>∃C dx kvs vs,G.mg c=some (.ref C)/\H a=some (.ins C dx kvs)/\kvs.map (·.1)=ns/\kvs.map (·.2)=vs/\DVs G O H vs ds
 |_=>False
def DW (G:Gx)(O:Za)(H:Hp)(v:V)(d:D):Prop:=DV G O H v d\/∃a,v=.ref a/\O a/\OV G O H a d
inductive DWs (G:Gx)(O:Za)(H:Hp):List V->List D->Prop where
 |nil:DWs G O H [] []
 |cons {v:V} {vs:List V} {d:D} {ds:List D}:DW G O H v d->DWs G O H vs ds->DWs G O H (v::vs) (d::ds)
def eE (o:Option HO):Prop:=(∃xs,o=some (.lst xs))\/(∃k,o=some (.dK k))\/(∃k:(Addr->List V->Prop)×List (List Kt×V),o=some (.dT k.1 k.2))\/∃k:Addr×Addr×List (Str×V),o=some (.ins k.1 k.2.1 k.2.2)
def Kp (O:Za)(H H':Hp):Prop:=∀b o,H b=some o->¬O b->H' b=some o
theorem Kp.of (g:aH H H'):Kp O H H':=λb o e _=>g b o e
theorem ju {O:Za}{H:Hp}(m:∀b,O b->eE (H b)){a:Addr}{o:HO}(e:H a=some o)(n:¬eE (some o)):¬O a:=λz=>n (e ▸ m a z)
theorem w6:¬eE (some (.tup xs)):=by rintro (⟨_,e⟩ | ⟨_,e⟩ | ⟨_,e⟩ | ⟨_,e⟩)<;>cases e
theorem rm:¬eE (some (.frz o u)):=by rintro (⟨_,e⟩ | ⟨_,e⟩ | ⟨_,e⟩ | ⟨_,e⟩)<;>cases e
theorem Dh:¬eE (some (.ext φ)):=by rintro (⟨_,e⟩ | ⟨_,e⟩ | ⟨_,e⟩ | ⟨_,e⟩)<;>cases e
theorem Hw {K:W.Frag}{O:Za}{H H':Hp}{a:Addr}{xs:List V}(m:∀b,O b->eE (H b))(g:Kp O H H')(h:SqT K H a xs):SqT K H' a xs:=by
 rcases h with (e | ⟨o,e⟩) | h
 ·exact .inl (.inl (g a _ e (ju m e w6)))
 ·exact .inl (.inr ⟨o,g a _ e (ju m e rm)⟩)
 ·exact .inr h
theorem Jc {K:W.Frag}{O:Za}{H H':Hp}{a:Addr}{xs:List V}(m:∀b,O b->eE (H b))(g:Kp O H H')(h:SqU K H a xs):SqU K H' a xs:=by
 rcases h with e | h
 ·exact .inl (g a _ e (ju m e w6))
 ·exact .inr h
theorem G4 {K:W.Frag}{H H':Hp}{a:Addr}{xs:List V}(h:SqU K H a xs)(g:aH H H'):SqU K H' a xs:=h.imp (g _ _) id
theorem oJ {K:W.Frag}{O:Za}{H H':Hp}{a:Addr}{xs:List V}(g:Kp O H H')(h:LstAt K O H a xs):LstAt K O H' a xs:=by
 rcases h with ⟨n,e | ⟨o,e⟩⟩ | h
 ·exact .inl ⟨n,.inl (g a _ e n)⟩
 ·exact .inl ⟨n,.inr ⟨o,g a _ e n⟩⟩
 ·exact .inr h
theorem LstAt.sq {K:W.Frag}{O:Za}{H:Hp}{a:Addr}{xs:List V}(h:LstAt K O H a xs):SqL K H a xs:=h.elim (λz=>.inl z.2) .inr
section
variable {G:Gx}{O O':Za}{H H':Hp}
mutual
theorem DV.kp (m:∀b,O b->eE (H b))(g:Kp O H H'):∀{v:V} {d:D},DV G O H v d->DV G O H' v d
 |_,_,.non=>.non
 |_,_,.bl b=>.bl b
 |_,_,.int i=>.int i
 |_,_,.str x=>.str x
 |_,_,.adr a=>.adr a
 |_,_,.exc h e=>.exc h (g _ _ e (ju m e Dh))
 |_,_,.tup h hs=>.tup (Jc m g h) (DVs.kp m g hs)
 |_,_,.lst h hs=>.lst (oJ g h) (DVs.kp m g hs)
 |_,_,.dct n e a b hs=>.dct n (g _ _ e n) a b (DVs.kp m g hs)
 |_,_,.dcu n e a b hs=>.dcu n (g _ _ e n) a b (DVs.kp m g hs)
 |_,_,.dcf e a b hs=>.dcf (g _ _ e (ju m e rm)) a b (DVs.kp m g hs)
 |_,_,.ins n c e a b hs=>.ins n c (g _ _ e n) a b (DVs.kp m g hs)
theorem DVs.kp (m:∀b,O b->eE (H b))(g:Kp O H H'):∀{vs:List V} {ds:List D},DVs G O H vs ds->DVs G O H' vs ds
 |_,_,.nil=>.nil
 |_,_,.cons h hs=>.cons (DV.kp m g h) (DVs.kp m g hs)
end
mutual
theorem DV.mono (g:aH H H'):∀{v:V} {d:D},DV G O H v d->DV G O H' v d
 |_,_,.non=>.non
 |_,_,.bl b=>.bl b
 |_,_,.int i=>.int i
 |_,_,.str x=>.str x
 |_,_,.adr a=>.adr a
 |_,_,.exc h e=>.exc h (g _ _ e)
 |_,_,.tup h hs=>.tup (G4 h g) (DVs.mono g hs)
 |_,_,.lst h hs=>.lst (oJ (.of g) h) (DVs.mono g hs)
 |_,_,.dct n e a b hs=>.dct n (g _ _ e) a b (DVs.mono g hs)
 |_,_,.dcu n e a b hs=>.dcu n (g _ _ e) a b (DVs.mono g hs)
 |_,_,.dcf e a b hs=>.dcf (g _ _ e) a b (DVs.mono g hs)
 |_,_,.ins n c e a b hs=>.ins n c (g _ _ e) a b (DVs.mono g hs)
theorem DVs.mono (g:aH H H'):∀{vs:List V} {ds:List D},DVs G O H vs ds->DVs G O H' vs ds
 |_,_,.nil=>.nil
 |_,_,.cons h hs=>.cons (DV.mono g h) (DVs.mono g hs)
end
mutual
theorem DV.bU (s:∀b,O' b->O b\/H b=none):∀{v:V} {d:D},DV G O H v d->DV G O' H v d
 |_,_,.non=>.non
 |_,_,.bl b=>.bl b
 |_,_,.int i=>.int i
 |_,_,.str x=>.str x
 |_,_,.adr a=>.adr a
 |_,_,.exc h e=>.exc h e
 |_,_,.tup h hs=>.tup h (DVs.bU s hs)
 |_,_,.lst h hs=>.lst (h.elim (λz=>.inl ⟨λo=>(s _ o).elim z.1 λn=>by rcases z.2 with e | ⟨_,e⟩<;>(rw [n] at e;cases e),z.2⟩) .inr) (DVs.bU s hs)
 |_,_,.dct n e a b hs=>.dct (λo=>(s _ o).elim n λz=>by rw [z] at e;cases e) e a b (DVs.bU s hs)
 |_,_,.dcu n e a b hs=>.dcu (λo=>(s _ o).elim n λz=>by rw [z] at e;cases e) e a b (DVs.bU s hs)
 |_,_,.dcf e a b hs=>.dcf e a b (DVs.bU s hs)
 |_,_,.ins n c e a b hs=>.ins (λo=>(s _ o).elim n λz=>by rw [z] at e;cases e) c e a b (DVs.bU s hs)
theorem DVs.bU (s:∀b,O' b->O b\/H b=none):∀{vs:List V} {ds:List D},DVs G O H vs ds->DVs G O' H vs ds
 |_,_,.nil=>.nil
 |_,_,.cons h hs=>.cons (DV.bU s h) (DVs.bU s hs)
end
def Ev (O:Za)(H:Hp)(O':Za)(H':Hp):Prop:=(∀b,O' b->O b\/H b=none)/\Kp O H H'
mutual
theorem DV.go (m:∀b,O b->eE (H b))(g:Ev O H O' H'):∀{v:V} {d:D},DV G O H v d->DV G O' H' v d
 |_,_,.non=>.non
 |_,_,.bl b=>.bl b
 |_,_,.int i=>.int i
 |_,_,.str x=>.str x
 |_,_,.adr a=>.adr a
 |_,_,.exc h e=>.exc h (g.2 _ _ e (ju m e Dh))
 |_,_,.tup h hs=>.tup (Jc m g.2 h) (DVs.go m g hs)
 |_,_,.lst h hs=>.lst (h.elim (λz=>.inl ⟨λo=>(g.1 _ o).elim z.1 λn=>by rcases z.2 with e | ⟨_,e⟩<;>(rw [n] at e;cases e),(oJ g.2 (.inl z):LstAt G.K O H' _ _).elim (λy=>y.2) λy=>z.2.elim (λe=>.inl (g.2 _ _ e z.1)) λ⟨o,e⟩=>.inr ⟨o,g.2 _ _ e z.1⟩⟩) .inr) (DVs.go m g hs)
 |_,_,.dct n e a b hs=>.dct (λo=>(g.1 _ o).elim n λz=>by rw [z] at e;cases e) (g.2 _ _ e n) a b (DVs.go m g hs)
 |_,_,.dcu n e a b hs=>.dcu (λo=>(g.1 _ o).elim n λz=>by rw [z] at e;cases e) (g.2 _ _ e n) a b (DVs.go m g hs)
 |_,_,.dcf e a b hs=>.dcf (g.2 _ _ e (ju m e rm)) a b (DVs.go m g hs)
 |_,_,.ins n c e a b hs=>.ins (λo=>(g.1 _ o).elim n λz=>by rw [z] at e;cases e) c (g.2 _ _ e n) a b (DVs.go m g hs)
theorem DVs.go (m:∀b,O b->eE (H b))(g:Ev O H O' H'):∀{vs:List V} {ds:List D},DVs G O H vs ds->DVs G O' H' vs ds
 |_,_,.nil=>.nil
 |_,_,.cons h hs=>.cons (DV.go m g h) (DVs.go m g hs)
end
theorem OV.bU (s:∀b,O' b->O b\/H b=none)(h:OV G O H a d):OV G O' H a d:=by
 cases d with
 |lst ds=>obtain ⟨xs,e,hs⟩:=h;exact ⟨xs,e,hs.bU s⟩
 |dct ks ds=>obtain ⟨k,v,e,a1,a2,hs⟩:=h;exact ⟨k,v,e,a1,a2,hs.bU s⟩
 |dcu ks ds=>obtain ⟨k,v,e,a1,a2,hs⟩:=h;exact ⟨k,v,e,a1,a2,hs.bU s⟩
 |ins c ns ds=>obtain ⟨C,dx,k,v,ec,e,a1,a2,hs⟩:=h;exact ⟨C,dx,k,v,ec,e,a1,a2,hs.bU s⟩
 |_=>exact h.elim
theorem OV.mono (g:aH H H')(h:OV G O H a d):OV G O H' a d:=by
 cases d with
 |lst ds=>obtain ⟨xs,e,hs⟩:=h;exact ⟨xs,g _ _ e,hs.mono g⟩
 |dct ks ds=>obtain ⟨k,v,e,a1,a2,hs⟩:=h;exact ⟨k,v,g _ _ e,a1,a2,hs.mono g⟩
 |dcu ks ds=>obtain ⟨k,v,e,a1,a2,hs⟩:=h;exact ⟨k,v,g _ _ e,a1,a2,hs.mono g⟩
 |ins c ns ds=>obtain ⟨C,dx,k,v,ec,e,a1,a2,hs⟩:=h;exact ⟨C,dx,k,v,ec,g _ _ e,a1,a2,hs.mono g⟩
 |_=>exact h.elim
theorem OV.kp (m:∀b,O b->eE (H b))(g:Kp O H H')(e':H' a=H a)(h:OV G O H a d):OV G O H' a d:=by
 cases d with
 |lst ds=>obtain ⟨xs,e,hs⟩:=h;exact ⟨xs,e'.trans e,hs.kp m g⟩
 |dct ks ds=>obtain ⟨k,v,e,a1,a2,hs⟩:=h;exact ⟨k,v,e'.trans e,a1,a2,hs.kp m g⟩
 |dcu ks ds=>obtain ⟨k,v,e,a1,a2,hs⟩:=h;exact ⟨k,v,e'.trans e,a1,a2,hs.kp m g⟩
 |ins c ns ds=>obtain ⟨C,dx,k,v,ec,e,a1,a2,hs⟩:=h;exact ⟨C,dx,k,v,ec,e'.trans e,a1,a2,hs.kp m g⟩
 |_=>exact h.elim
theorem OV.mut (h:OV G O H a d):eE (H a):=by
 cases d with
 |lst ds=>obtain ⟨xs,e,hs⟩:=h;exact .inl ⟨xs,e⟩
 |dct ks ds=>obtain ⟨k,v,e,_⟩:=h;exact .inr (.inl ⟨k,e⟩)
 |dcu ks ds=>obtain ⟨k,v,e,_⟩:=h;exact .inr (.inr (.inl ⟨(_,k),e⟩))
 |ins c ns ds=>obtain ⟨C,dx,k,v,_,e,_⟩:=h;exact .inr (.inr (.inr ⟨(C,dx,k),e⟩))
 |_=>exact h.elim
theorem OV.dv (n:¬O a)(h:OV G O H a d):DV G O H (.ref a) d:=by
 cases d with
 |lst ds=>obtain ⟨xs,e,hs⟩:=h;exact .lst (.inl ⟨n,.inl e⟩) hs
 |dct ks ds=>obtain ⟨k,v,e,a1,a2,hs⟩:=h;exact .dct n e a1 a2 hs
 |dcu ks ds=>obtain ⟨k,v,e,a1,a2,hs⟩:=h;exact .dcu n e a1 a2 hs
 |ins c ns ds=>obtain ⟨C,dx,k,v,ec,e,a1,a2,hs⟩:=h;exact .ins n ec e a1 a2 hs
 |_=>exact h.elim
theorem DW.mono (g:aH H H')(h:DW G O H v d):DW G O H' v d:=h.elim (λz=>.inl (z.mono g)) λ⟨a,e,o,z⟩=>.inr ⟨a,e,o,z.mono g⟩
theorem DW.any (h:DW G O H v d):DV G (λ_=>False) H v d:=by
 rcases h with h | ⟨a,e,_,h⟩
 ·exact h.bU λ_ z=>z.elim
 ·subst e;exact (h.bU (O':=λ_=>False) λ_ z=>z.elim).dv id
end
section
theorem qj (h:DW G O H v .non):v=.non:=by
 rcases h with h | ⟨_,_,_,h⟩
 ·cases h;rfl
 ·exact h.elim
theorem Cr (h:DW G O H v (.bl b)):v=.bl b:=by
 rcases h with h | ⟨_,_,_,h⟩
 ·cases h;rfl
 ·exact h.elim
theorem bV (h:DW G O H v (.int i)):v=.int i:=by
 rcases h with h | ⟨_,_,_,h⟩
 ·cases h;rfl
 ·exact h.elim
theorem jA (h:DW G O H v (.str x)):v=.str x:=by
 rcases h with h | ⟨_,_,_,h⟩
 ·cases h;rfl
 ·exact h.elim
theorem Aa (h:DW G O H v (.exc c)):∃a C,v=.ref a/\G.mg c=some (.ref C)/\H a=some (.ext (lA a (.ref C))):=by
 rcases h with h | ⟨_,_,_,h⟩
 ·cases h with
  |exc h e=>exact ⟨_,_,rfl,h,e⟩
 ·exact h.elim
theorem pP (h:DW G O H v (.tup ds)):∃a xs,v=.ref a/\SqT G.K H a xs/\DVs G O H xs ds:=by
 rcases h with h | ⟨_,_,_,h⟩
 ·cases h with
  |tup h hs=>exact ⟨_,_,rfl,h.sq,hs⟩
 ·exact h.elim
theorem rH (h:DW G O H v (.tup ds)):∃a xs,v=.ref a/\SqU G.K H a xs/\DVs G O H xs ds:=by
 rcases h with h | ⟨_,_,_,h⟩
 ·cases h with
  |tup h hs=>exact ⟨_,_,rfl,h,hs⟩
 ·exact h.elim
theorem jl (h:DW G O H v (.lst ds)):∃a xs,v=.ref a/\SqL G.K H a xs/\DVs G O H xs ds:=by
 rcases h with h | ⟨a,e,_,h⟩
 ·cases h with
  |lst h hs=>exact ⟨_,_,rfl,h.sq,hs⟩
 ·obtain ⟨xs,e',hs⟩:=h;exact ⟨a,xs,e,.inl (.inl e'),hs⟩
theorem Qu (h:DW G O H v (.dct ks ds)):∃a kvs vs,v=.ref a/\H a=some (.dK kvs)/\kvs.map (·.1)=ks/\kvs.map (·.2)=vs/\DVs G O H vs ds:=by
 rcases h with h | ⟨a,e,_,h⟩
 ·cases h with
  |dct n e a b hs=>exact ⟨_,_,_,rfl,e,a,b,hs⟩
 ·obtain ⟨k,w,e',a1,a2,hs⟩:=h;exact ⟨a,k,w,e,e',a1,a2,hs⟩
theorem Rr (h:DW G O H v (.dcu ks ds)):∃a kvs vs,v=.ref a/\H a=some (.dT (KTp G.K) kvs)/\kvs.map (·.1)=ks/\kvs.map (·.2)=vs/\DVs G O H vs ds:=by
 rcases h with h | ⟨a,e,_,h⟩
 ·cases h with
  |dcu n e a b hs=>exact ⟨_,_,_,rfl,e,a,b,hs⟩
 ·obtain ⟨k,w,e',a1,a2,hs⟩:=h;exact ⟨a,k,w,e,e',a1,a2,hs⟩
theorem bx:∀{vs:List V} {ds:List D},DVs G O H vs ds->vs.length=ds.length
 |_,_,.nil=>rfl
 |_,_,.cons _ hs=>by rw [List.length_cons,List.length_cons,bx hs]
theorem gD:∀{vs us:List V} {ds es:List D},DVs G O H vs ds->DVs G O H us es->DVs G O H (vs++us) (ds++es)
 |_,_,_,_,.nil,h=>h
 |_,_,_,_,.cons a t,h=>.cons a (gD t h)
theorem lK:∀{vs:List V} {ds:List D} {i:Nat} {x:V},DVs G O H vs ds->vs[i]? = some x->∃d,ds[i]? = some d/\DV G O H x d
 |_,_,_,_,.nil,e=>by simp at e
 |_,_,0,_,.cons a _,e=>by simp at e;subst e;exact ⟨_,rfl,a⟩
 |_,_,i+1,x,.cons _ t,e=>by
  obtain ⟨d,h1,h2⟩:=lK (i:=i) (x:=x) t (by simpa using e);exact ⟨d,by simpa using h1,h2⟩
theorem qt:∀{vs:List V} {ds:List D} {i:Nat} {d:D},DVs G O H vs ds->ds[i]? = some d->∃x,vs[i]? = some x/\DV G O H x d
 |_,_,_,_,.nil,e=>by simp at e
 |_,_,0,_,.cons a _,e=>by simp at e;subst e;exact ⟨_,rfl,a⟩
 |_,_,i+1,d,.cons _ t,e=>by
  obtain ⟨x,h1,h2⟩:=qt (i:=i) (d:=d) t (by simpa using e);exact ⟨x,by simpa using h1,h2⟩
theorem ug:∀{vs:List V} {ds:List D} (n:Nat),DVs G O H vs ds->DVs G O H (vs.take n) (ds.take n)
 |_,_,0,_=>by simp only [List.take_zero];exact .nil
 |_,_,_+1,.nil=>.nil
 |_,_,n+1,.cons a t=>.cons a (ug n t)
theorem yl:∀{vs:List V} {ds:List D} (n:Nat),DVs G O H vs ds->DVs G O H (vs.drop n) (ds.drop n)
 |_,_,0,h=>h
 |_,_,_+1,.nil=>.nil
 |_,_,n+1,.cons _ t=>yl n t
theorem Aj:∀{vs:List V} {ds:List D},DVs G O H vs ds->DVs G O H vs.reverse ds.reverse
 |_,_,.nil=>.nil
 |_,_,.cons a t=>by rw [List.reverse_cons,List.reverse_cons];exact gD (Aj t) (.cons a .nil)
end
inductive Sl where
  |un | fz (d:D) | ow (d:D) | io (d:D) | bw (d:D)
  |hd (w:Bool) (a:Addr) (d:D)
abbrev Me:=List Sl
abbrev Os:=Nat->Option Addr
def Ow (O0:Za)(ow:Os):Za:=λb=>O0 b\/∃i,ow i=some b
def Op (O:Za)(p:Addr):Za:=λb=>O b\/b=p
def owS (ow:Os)(i:Nat)(x:Option Addr):Os:=λj=>if j=i then x else ow j
theorem b8:owS ow i x i=x:=by unfold owS;rw [if_pos rfl]
theorem b7 (h:j≠i):owS ow i x j=ow j:=by unfold owS;rw [if_neg h]
def zJ (G:Gx)(O M0:Za)(H0:Hp)(oi:Option Addr)(v:Option (Option V))(H:Hp):Sl->Prop
 | .un=>oi=none
 | .fz d=>oi=none/\∃x,v=some (some x)/\DV G O H x d
 | .ow d=>∃a,oi=some a/\H0 a=none/\v=some (some (.ref a))/\OV G O H a d
 | .io d=>∃a,oi=some a/\M0 a/\v=some (some (.ref a))/\OV G O H a d
 | .bw d=>oi=none/\∃x,v=some (some x)/\DW G O H x d
 | .hd w a d=>oi=some a/\(w=true->H0 a=none)/\(w=false->M0 a)/\OV G O H a d
structure Rel (G:Gx)(O0 M0:Za)(H0:Hp)(ow:Os)(σ:L2.St)(H:Hp)(m:Me):Prop where
 len:σ.length=m.length
 keep:Kp M0 H0 H
 m0:∀b,M0 b->H b≠none
 mutk:∀b,Ow O0 ow b->eE (H b)
 no0:∀i a,ow i=some a->¬O0 a
 inj:∀i j a,ow i=some a->ow j=some a->i=j
 out:∀i,m.length<=i->ow i=none
 slot:∀i s,m[i]? = some s->zJ G (Ow O0 ow) M0 H0 (ow i) (σ[i]?) H s
structure cY (G:Gx)(O0 M0:Za)(H0:Hp)(ow:Os)(σ:L2.St)(H:Hp)(m:Me):Prop extends Rel G O0 M0 H0 ow σ H m where
 nb:∀(j:Nat) (d:D),m[j]?≠some (Sl.bw d)
structure Go (O0:Za)(ow:Os)(H:Hp)(ow':Os)(H':Hp):Prop where
 keep:Kp (Ow O0 ow) H H'
 new:∀i a,ow' i=some a->Ow O0 ow a\/H a=none
 dom:∀b,H b≠none->H' b≠none
theorem Go.refl (g:aH H H'):Go O0 ow H ow H':=
 ⟨.of g,λi a e=>.inl (.inr ⟨i,e⟩),λb n z=>by
  cases q:H b with
  |none=>exact n q
  |some o=>rw [g b o q] at z;cases z⟩
theorem Go.trans (a:Go O0 ow H ow1 H1)(b:Go O0 ow1 H1 ow2 H2):Go O0 ow H ow2 H2 where
 keep:=λc o e n=>b.keep c o (a.keep c o e n) λz=>by
  rcases z with z | ⟨i,z⟩
  ·exact n (.inl z)
  ·rcases a.new i c z with y | y
   ·exact n y
   ·rw [y] at e;cases e
 new:=λi c e=>by
  rcases b.new i c e with (z | ⟨j,z⟩) | z
  ·exact .inl (.inl z)
  ·exact a.new j c z
  ·refine .inr ?_;cases q:H c with
   |none=>rfl
   |some o=>exact absurd z (a.dom c (by rw [q];simp))
 dom:=λc n=>b.dom c (a.dom c n)
theorem Go.ev (g:Go O0 ow H ow' H'):Ev (Ow O0 ow) H (Ow O0 ow') H':=
 ⟨λb z=>z.elim (λz=>.inl (.inl z)) λ⟨i,e⟩=>g.new i b e,g.keep⟩
theorem oY (O:Za):Ow O (λ_=>none)=O:=by
 funext b;exact propext ⟨λz=>z.elim id λ⟨_,e⟩=>(by cases e),Or.inl⟩
section
variable {G:Gx}{O0 M0:Za}{H0 H H':Hp}{ow:Os}{σ:L2.St}{m:Me}
theorem zJ.mono (g:aH H H')(h:zJ G O M0 H0 oi v H s):zJ G O M0 H0 oi v H' s:=by
 cases s with
 |un=>exact h
 |fz d=>obtain ⟨a,x,e,q⟩:=h;exact ⟨a,x,e,q.mono g⟩
 |ow d=>obtain ⟨a,x,e,f,q⟩:=h;exact ⟨a,x,e,f,q.mono g⟩
 |io d=>obtain ⟨a,x,e,f,q⟩:=h;exact ⟨a,x,e,f,q.mono g⟩
 |bw d=>obtain ⟨a,x,e,q⟩:=h;exact ⟨a,x,e,q.mono g⟩
 |hd w a d=>obtain ⟨x,e,f,q⟩:=h;exact ⟨x,e,f,q.mono g⟩
theorem pZ (g:aH H H')(h:eE (H b)):eE (H' b):=by
 rcases h with ⟨x,e⟩ | ⟨x,e⟩ | ⟨x,e⟩ | ⟨x,e⟩
 ·exact .inl ⟨x,g _ _ e⟩
 ·exact .inr (.inl ⟨x,g _ _ e⟩)
 ·exact .inr (.inr (.inl ⟨x,g _ _ e⟩))
 ·exact .inr (.inr (.inr ⟨x,g _ _ e⟩))
theorem Rel.mono (R:Rel G O0 M0 H0 ow σ H m)(g:aH H H'):Rel G O0 M0 H0 ow σ H' m:=
 ⟨R.len,λb o e n=>g b o (R.keep b o e n),λb z q=>R.m0 b z (aH.free g q),λb z=>pZ g (R.mutk b z),R.no0,R.inj,R.out,λi s e=>(R.slot i s e).mono g⟩
theorem zJ.bU (sub:∀b,O' b->O b\/H b=none)(h:zJ G O M0 H0 oi v H s)(hb:∀d,s=.bw d->∀b,O b->O' b\/¬O' b):zJ G O' M0 H0 oi v H s:=by
 cases s with
 |un=>exact h
 |fz d=>obtain ⟨a,x,e,q⟩:=h;exact ⟨a,x,e,q.bU sub⟩
 |ow d=>obtain ⟨a,x,e,f,q⟩:=h;exact ⟨a,x,e,f,q.bU sub⟩
 |io d=>obtain ⟨a,x,e,f,q⟩:=h;exact ⟨a,x,e,f,q.bU sub⟩
 |bw d=>
  obtain ⟨a,x,e,q⟩:=h;refine ⟨a,x,e,?_⟩;rcases q with q | ⟨b,e1,o,q⟩
  ·exact .inl (q.bU sub)
  ·rcases hb d rfl b o with w | w
   ·exact .inr ⟨b,e1,w,q.bU sub⟩
   ·subst e1;exact .inl ((q.bU sub).dv w)
 |hd w a d=>obtain ⟨x,e,f,q⟩:=h;exact ⟨x,e,f,q.bU sub⟩
theorem Ow.sub (z:Ow O0 (owS ow i none) b):Ow O0 ow b:=by
 rcases z with z | ⟨j,e⟩
 ·exact .inl z
 ·by_cases q:j=i
  ·subst q;rw [b8] at e;cases e
  ·rw [b7 q] at e;exact .inr ⟨j,e⟩
theorem wU {l:List α}(e:l[i]? = some x):i<l.length:=by grind
theorem Rel.set (R:Rel G O0 M0 H0 ow σ H m)(h:DV G (Ow O0 ow) H v d):
  Rel G O0 M0 H0 (owS ow i none) (σ.set i (some v)) H (m.set i (.fz d)):=by
 have sub:∀b,Ow O0 (owS ow i none) b->Ow O0 ow b\/H b=none:=λb z=>.inl z.sub;refine ⟨by simp [R.len],R.keep,R.m0,λb z=>R.mutk b z.sub,λj a e=>?_,λj k a e1 e2=>?_,λj hj=>?_,λj s e=>?_⟩
 ·by_cases q:j=i
  ·subst q;rw [b8] at e;cases e
  ·rw [b7 q] at e;exact R.no0 j a e
 ·by_cases q:j=i
  ·subst q;rw [b8] at e1;cases e1
  ·by_cases q':k=i
   ·subst q';rw [b8] at e2;cases e2
   ·rw [b7 q] at e1;rw [b7 q'] at e2;exact R.inj j k a e1 e2
 ·by_cases q:j=i
  ·subst q;exact b8
  ·rw [b7 q];exact R.out j (by simpa using hj)
 ·by_cases q:j=i
  ·subst q;have hj:j<m.length:=by simpa using wU e
   rw [List.getElem?_set_self hj] at e;cases e;rw [b8,List.getElem?_set_self (by rw [R.len];exact hj)];exact ⟨rfl,v,rfl,h.bU sub⟩
  ·rw [List.getElem?_set_ne (Ne.symm q)] at e;rw [b7 q,List.getElem?_set_ne (Ne.symm q)];exact (R.slot j s e).bU sub λ_ _ b _=>Classical.em _
theorem Go.set:Go O0 ow H (owS ow i none) H:=
 ⟨λ_ _ e _=>e,λj a e=>.inl (by
  by_cases q:j=i
  ·subst q;rw [b8] at e;cases e
  ·rw [b7 q] at e;exact .inr ⟨j,e⟩),λ_ n=>n⟩
theorem Rel.Oo (R:Rel G O0 M0 H0 ow σ H m){p:Addr}(n:H p=none):H0 p=none:=by
 cases q:H0 p with
 |none=>rfl
 |some o=>
  by_cases z:M0 p
  ·exact absurd n (R.m0 p z)
  ·rw [R.keep p o q z] at n;cases n
theorem Rel.J0 (R:Rel G O0 M0 H0 ow σ H m){p:Addr}(n:H p=none):¬Ow O0 ow p:=λz=>by
 have:=R.mutk p z
 rw [n] at this;rcases this with ⟨_,e⟩ | ⟨_,e⟩ | ⟨_,e⟩ | ⟨_,e⟩<;>cases e
theorem Ow.new (z:Ow O0 (owS ow i (some p)) b):Ow O0 ow b\/b=p:=by
 rcases z with z | ⟨j,e⟩
 ·exact .inl (.inl z)
 ·by_cases q:j=i
  ·subst q;rw [b8] at e;cases e;exact .inr rfl
  ·rw [b7 q] at e;exact .inl (.inr ⟨j,e⟩)
theorem Rel.own (R:Rel G O0 M0 H0 ow σ H m)(g:aH H H')(n:H p=none)(n0:H0 p=none)(h:OV G (Op (Ow O0 ow) p) H' p d)(hi:i<m.length):
  Rel G O0 M0 H0 (owS ow i (some p)) (σ.set i (some (.ref p))) H' (m.set i (.ow d)):=by
 have np:=R.J0 n;have sub:∀b,Ow O0 (owS ow i (some p)) b->Ow O0 ow b\/H b=none:=λb z=>z.new.elim .inl λe=>.inr (by rw [e];exact n);refine ⟨by simp [R.len],(R.mono g).keep,(R.mono g).m0,λb z=>?_,λj a e=>?_,λj k a e1 e2=>?_,λj hj=>?_,λj s e=>?_⟩
 ·rcases z.new with z | z
  ·exact (R.mono g).mutk b z
  ·rw [z];exact h.mut
 ·by_cases q:j=i
  ·subst q;rw [b8] at e;cases e;exact λz=>np (.inl z)
  ·rw [b7 q] at e;exact R.no0 j a e
 ·by_cases q:j=i
  ·subst q;rw [b8] at e1;cases e1;by_cases q':k=j
   ·exact q'.symm
   ·rw [b7 q'] at e2;exact absurd (.inr ⟨k,e2⟩) np
  ·rw [b7 q] at e1;by_cases q':k=i
   ·subst q';rw [b8] at e2;cases e2;exact absurd (.inr ⟨j,e1⟩) np
   ·rw [b7 q'] at e2;exact R.inj j k a e1 e2
 ·have hj':m.length<=j:=by simpa using hj
  rw [b7 (by omega)];exact R.out j hj'
 ·by_cases q:j=i
  ·subst q;rw [List.getElem?_set_self hi] at e;cases e;rw [b8,List.getElem?_set_self (by rw [R.len];exact hi)];exact ⟨p,rfl,n0,rfl,h.bU λb z=>.inl (z.new.elim .inl .inr)⟩
  ·rw [List.getElem?_set_ne (Ne.symm q)] at e;rw [b7 q,List.getElem?_set_ne (Ne.symm q)];exact ((R.slot j s e).bU sub λ_ _ b _=>Classical.em _).mono g
theorem Go.own (g:aH H H')(n:H p=none):Go O0 ow H (owS ow i (some p)) H':=
 ⟨.of g,λj a e=>by
  by_cases q:j=i
  ·subst q;rw [b8] at e;cases e;exact .inr n
  ·rw [b7 q] at e;exact .inl (.inr ⟨j,e⟩),(Go.refl (O0:=O0) (ow:=ow) g).dom⟩
theorem qi {i:Nat}{s:Sl}(nb:∀(j:Nat) (d:D),m[j]?≠some (Sl.bw d))(hs:∀d,s≠.bw d):∀(j:Nat) (d:D),(m.set i s)[j]?≠some (Sl.bw d):=by grind
theorem cY.mono (R:cY G O0 M0 H0 ow σ H m)(g:aH H H'):cY G O0 M0 H0 ow σ H' m:=⟨R.toRel.mono g,R.nb⟩
theorem cY.set {i:Nat}{v:V}{d:D}(R:cY G O0 M0 H0 ow σ H m)(h:DV G (Ow O0 ow) H v d):cY G O0 M0 H0 (owS ow i none) (σ.set i (some v)) H (m.set i (.fz d)):=
 ⟨R.toRel.set h,qi R.nb λ_ z=>by cases z⟩
theorem cY.own {i:Nat}{p:Addr}{d:D}(R:cY G O0 M0 H0 ow σ H m)(g:aH H H')(n:H p=none)(n0:H0 p=none)(h:OV G (Op (Ow O0 ow) p) H' p d)(hi:i<m.length):
  cY G O0 M0 H0 (owS ow i (some p)) (σ.set i (some (.ref p))) H' (m.set i (.ow d)):=⟨R.toRel.own g n n0 h hi,qi R.nb λ_ z=>by cases z⟩
def Sl.let:Sl->Sl
 | .ow d=>.fz d
 |s=>s
def Me.let (m:Me):Me:=m.map Sl.let
theorem cY.let (R:cY G O0 M0 H0 ow σ H m):∃ow',cY G O0 M0 H0 ow' σ H m.let/\Go O0 ow H ow' H:=by
 let ow':Os:=λi=>match m[i]? with
  |some (.io _)=>ow i
  |some (.hd _ _ _)=>ow i
  |_=>none
 have le:∀i a,ow' i=some a->ow i=some a/\∀d,m[i]?≠some (.ow d):=λi a e=>by
  simp only [ow'] at e;split at e
  ·rename_i d q;exact ⟨e,λd z=>by rw [q] at z;cases z⟩
  ·rename_i w b d q;exact ⟨e,λd z=>by rw [q] at z;cases z⟩
  ·cases e
 have sub:∀b,Ow O0 ow' b->Ow O0 ow b\/H b=none:=λb z=>.inl (z.elim .inl λ⟨i,e⟩=>.inr ⟨i,(le i b e).1⟩);refine ⟨ow',⟨⟨by simp [Me.let,R.len],R.keep,R.m0,λb z=>?_,λi a e=>R.no0 i a (le i a e).1,λi j a e1 e2=>R.inj i j a (le i a e1).1 (le j a e2).1,λi hi=>?_,λi s e=>?_⟩,λj d e=>?_⟩,λb o e n=>e,λi a e=>.inl (.inr ⟨i,(le i a e).1⟩),λ_ n=>n⟩
 ·exact R.mutk b (z.elim .inl λ⟨i,e⟩=>.inr ⟨i,(le i b e).1⟩)
 ·have hi':m.length<=i:=by simpa [Me.let] using hi
  simp only [ow'];rw [List.getElem?_eq_none hi']
 ·unfold Me.let at e;rw [List.getElem?_map] at e;cases q:m[i]? with
  |none=>rw [q] at e;cases e
  |some s0=>
   rw [q] at e;cases e;have z:=R.slot i s0 q;cases s0 with
   |un=>exact (show ow' i=none by simp only [ow',q])
   |fz d=>obtain ⟨_,x,e,h⟩:=z;exact ⟨(show ow' i=none by simp only [ow',q]),x,e,h.bU sub⟩
   |ow d=>
    obtain ⟨a,e1,e2,e3,h⟩:=z;refine ⟨(show ow' i=none by simp only [ow',q]),.ref a,e3,(h.bU sub).dv λw=>?_⟩;rcases w with w | ⟨j,w⟩
    ·exact R.no0 i a e1 w
    ·obtain ⟨w1,w2⟩:=le j a w
     have:=R.inj i j a e1 w1
     subst this;exact w2 d q
   |io d=>
    obtain ⟨a,e1,e2,e3,h⟩:=z;exact ⟨a,(show ow' i=some a by simp only [ow',q];exact e1),e2,e3,h.bU sub⟩
   |bw d=>exact (R.nb i d q).elim
   |hd w a d=>
    obtain ⟨e1,e2,e3,h⟩:=z;exact ⟨(show ow' i=some a by simp only [ow',q];exact e1),e2,e3,h.bU sub⟩
 ·unfold Me.let at e;rw [List.getElem?_map] at e;cases q:m[j]? with
  |none=>rw [q] at e;cases e
  |some s0=>
   rw [q] at e;cases s0 with
   |bw d'=>exact R.nb j d' q
   |_=>cases e
end
def Pu (G:Gx)(E:XK){α:Type}(r:Res α)(H:Hp)(k:α->Prop):Prop:=match r with
 | .ok a=>k a
 | .exc c=>∀C H',G.mg c=some (.ref C)->aH H H'->E (.ref C) none H'
 | .stuck=>False
theorem Pu.bind {G:Gx}{E:XK}{α β:Type}{r:Res α}{f:α->Res β}{H:Hp}{k:β->Prop}(h:Pu G E (r.bind f) H k):Pu G E r H λa=>Pu G E (f a) H k:=by
 cases r with
 |ok a=>exact h
 |exc c=>exact h
 |stuck=>exact h
theorem Pu.imp {G:Gx}{E:XK}{α:Type}{r:Res α}{H H':Hp}{k k':α->Prop}(h:Pu G E r H k)(g:aH H H')(hk:∀a,k a->k' a):Pu G E r H' k':=by
 cases r with
 |ok a=>exact hk a h
 |exc c=>exact λC H1 e g1=>h C H1 e (g.trans g1)
 |stuck=>exact h
theorem Pu.ofO {G:Gx}{E:XK}{α:Type}{r:Option α}{H:Hp}{k:α->Prop}(h:Pu G E (ofO r) H k):∃a,r=some a/\k a:=by
 cases r with
 |some a=>exact ⟨a,rfl,h⟩
 |none=>exact h.elim
def tE (G:Gx)(E:XK)(f:Me->Res D):TE:=λσ H Q=>∃O0 M0 H0 ow m,Rel G O0 M0 H0 ow σ H m/\Pu G E (f m) H λd=>∀v H',aH H H'->DV G (Ow O0 ow) H' v d->Q v H'
def tB (G:Gx)(E:XK)(f:Me->Res D):TE:=λσ H Q=>∃O0 M0 H0 ow m,Rel G O0 M0 H0 ow σ H m/\Pu G E (f m) H λd=>∀v H',aH H H'->DW G (Ow O0 ow) H' v d->Q v H'
def tN (G:Gx)(E:XK)(f:Me->Res D):TE:=λσ H Q=>∃O0 M0 H0 ow m,Rel G O0 M0 H0 ow σ H m/\Pu G E (f m) H λd=>∀p H',aH H H'->H p=none->OV G (Op (Ow O0 ow) p) H' p d->Q (.ref p) H'
def tT (G:Gx)(E:XK)(f:Me->Res Bool):TT:=λσ H Q=>∃O0 M0 H0 ow m,Rel G O0 M0 H0 ow σ H m/\Pu G E (f m) H λb=>∀H',aH H H'->Q b H'
def tAE (G:Gx)(E:XK)(f:Me->Res (List D)):TA:=λσ H Q=>∃O0 M0 H0 ow m,Rel G O0 M0 H0 ow σ H m/\Pu G E (f m) H λds=>∀vs H',aH H H'->DVs G (Ow O0 ow) H' vs ds->Q vs H'
def tAB (G:Gx)(E:XK)(f:Me->Res (List D)):TA:=λσ H Q=>∃O0 M0 H0 ow m,Rel G O0 M0 H0 ow σ H m/\Pu G E (f m) H λds=>∀vs H',aH H H'->DWs G (Ow O0 ow) H' vs ds->Q vs H'
abbrev FE (X:Cx)(E:XK)(e:Expr)(f:Me->Res D):Prop:=PE X e (tE (gx X) E f)
abbrev FB (X:Cx)(E:XK)(e:Expr)(f:Me->Res D):Prop:=PE X e (tB (gx X) E f)
abbrev FN (X:Cx)(E:XK)(e:Expr)(f:Me->Res D):Prop:=PE X e (tN (gx X) E f)
abbrev FT (X:Cx)(E:XK)(e:Expr)(f:Me->Res Bool):Prop:=PT X e (tT (gx X) E f)
abbrev FW (X:Cx)(E:XK)(e:Expr)(f:Me->Res Bool):Prop:=PW X e (tT (gx X) E f)
abbrev FAE (X:Cx)(E:XK)(es:List Expr)(f:Me->Res (List D)):Prop:=PA X es (tAE (gx X) E f)
abbrev FAB (X:Cx)(E:XK)(es:List Expr)(f:Me->Res (List D)):Prop:=PA X es (tAB (gx X) E f)
theorem xK {X:Cx}{e:Expr}{T T':TT}(h:PT X e T)(k:∀σ H Q,T' σ H Q->T σ H Q):PT X e T':=λpins s σ H Q I q=>h pins s σ H Q I (k σ H Q q)
theorem Di {X:Cx}{e:Expr}{T T':TT}(h:PW X e T)(k:∀σ H Q,T' σ H Q->T σ H Q):PW X e T':=λwh pins s σ H Q I q=>h wh pins s σ H Q I (k σ H Q q)
theorem jT {X:Cx}{es:List Expr}{T T':TA}(h:PA X es T)(k:∀σ H Q,T' σ H Q->T σ H Q):PA X es T':=λpos pins s σ H Q I q=>h pos pins s σ H Q I (k σ H Q q)
section
variable {X:Cx}{E:XK}{e a b c:Expr}{es:List Expr}{f fa fb fc:Me->Res D}{fs:Me->Res (List D)}{ft fu:Me->Res Bool}{pos:Pos}
theorem ak (h:FE X E e f):FB X E e f:=bc h λ_ _ _ hE=>xq5 hE λO0 M0 H0 ow m R q=>⟨O0,M0,H0,ow,m,R,q.imp (aH.refl _) λ_ k v H' g d=>k v H' g (.inl d)⟩
theorem n6 (h:FN X E e f):FE X E e f:=bc h λ_ _ _ hE=>xq5 hE λO0 M0 H0 ow m R q=>⟨O0,M0,H0,ow,m,R,q.imp (aH.refl _) λ_ k p H' g n o=>
 k _ H' g ((o.bU λb z=>.inl (.inl z)).dv (R.J0 n))⟩
def aG (i:Nat):Me->Res D:=λm=>match m[i]? with
 |some (.fz d)=>.ok d
 |_=>.stuck
def aq (i:Nat):Me->Res D:=λm=>match m[i]? with
 |some (.fz d)=>.ok d
 |some (.ow d)=>.ok d
 |some (.io d)=>.ok d
 |some (.bw d)=>.ok d
 |_=>.stuck
theorem aD (i:Nat){x:Str}(hN:X.N[i]? = some x:=by rfl)(hv:Vis X.env.scope x:=by first | exact Or.inl rfl | exact Or.inr (Or.inl rfl) | exact Or.inr (Or.inr rfl))(hd:(x == ("__debug__" : Str))=false:=by decide)
  (hcd:(x == ("__classdict__" : Str))=false:=by decide):FE X E (.Name x pos) (aG i):=bc (jk hN hv hd hcd) λσ H Q hE=>xq5 hE λO0 M0 H0 ow m R q=>by
 unfold aG at q;cases e:m[i]? with
 |none=>rw [e] at q;exact q.elim
 |some s=>
  rw [e] at q;cases s with
  |fz d=>
   obtain ⟨_,x,h1,h2⟩:=R.slot i _ e;exact ⟨x,h1,q x H (aH.refl _) h2⟩
  |_=>exact q.elim
theorem az (i:Nat){x:Str}(hN:X.N[i]? = some x:=by rfl)(hv:Vis X.env.scope x:=by first | exact Or.inl rfl | exact Or.inr (Or.inl rfl) | exact Or.inr (Or.inr rfl))(hd:(x == ("__debug__" : Str))=false:=by decide)
  (hcd:(x == ("__classdict__" : Str))=false:=by decide):FB X E (.Name x pos) (aq i):=bc (jk hN hv hd hcd) λσ H Q hE=>xq5 hE λO0 M0 H0 ow m R q=>by
 unfold aq at q;cases e:m[i]? with
 |none=>rw [e] at q;exact q.elim
 |some s=>
  rw [e] at q;cases s with
  |fz d=>
   obtain ⟨_,x,h1,h2⟩:=R.slot i _ e;exact ⟨x,h1,q x H (aH.refl _) (.inl h2)⟩
  |bw d=>
   obtain ⟨_,x,h1,h2⟩:=R.slot i _ e;exact ⟨x,h1,q x H (aH.refl _) h2⟩
  |ow d=>
   obtain ⟨a,h1,h2,h3,h4⟩:=R.slot i _ e;exact ⟨_,h3,q _ H (aH.refl _) (.inr ⟨a,rfl,.inr ⟨i,h1⟩,h4⟩)⟩
  |io d=>
   obtain ⟨a,h1,h2,h3,h4⟩:=R.slot i _ e;exact ⟨_,h3,q _ H (aH.refl _) (.inr ⟨a,rfl,.inr ⟨i,h1⟩,h4⟩)⟩
  |un=>exact q.elim
  |hd _ _ _=>exact q.elim
def fC (d:D):Me->Res D:=λ_=>.ok d
theorem GZ {d:D}{v:V}(h:PE X e (tC v))(hd:∀O H,DV (gx X) O H v d):FE X E e (fC d):=bc h λσ H Q hE=>xq5 hE λO0 M0 H0 ow m R q=>q v H (aH.refl _) (hd _ _)
theorem au {i j pos}:FE X E (.Constant (.int i) j pos) (fC (.int i)):=GZ QW λ_ _=>.int i
theorem vh {b j pos}:FE X E (.Constant (.bool b) j pos) (fC (.bl b)):=GZ Sv λ_ _=>.bl b
theorem QS {j pos}:FE X E (.Constant .none j pos) (fC .non):=GZ Pj λ_ _=>.non
theorem cT {x j pos}:FE X E (.Constant (.str x) j pos) (fC (.str x)):=GZ Ph λ_ _=>.str x
theorem o6 {x:Str}{v:V}{u:Value}{d:D}(hg:Gl X x)(hm:X.mg x=some u)(r:RelV v u)(hd:∀O H,DV (gx X) O H v d)(hdb:(x == ("__debug__" : Str))=false:=by decide):FE X E (.Name x pos) (fC d):=GZ (wF hg hm r hdb) hd
def rG (G:Gx)(g:D->D->Option D):R2:=λx y H Q=>∃O d e r,(∀b,O b->eE (H b))/\DW G O H x d/\DW G O H y e/\g d e=some r/\∀v H',aH H H'->DV G O H' v r->Q v H'
def rGB (G:Gx)(g:D->D->Option Bool):R2:=λx y H Q=>∃O d e r,(∀b,O b->eE (H b))/\DW G O H x d/\DW G O H y e/\g d e=some r/\Q (.bl r) H
def rG1 (G:Gx)(g:D->Option D):V->Hp->VK->Prop:=λx H Q=>∃O d r,(∀b,O b->eE (H b))/\DW G O H x d/\g d=some r/\∀v H',aH H H'->DV G O H' v r->Q v H'
def rGC (G:Gx)(g:List D->Option D):List V->Hp->VK->Prop:=λxs H Q=>∃O ds r,(∀b,O b->eE (H b))/\DWs G O H xs ds/\g ds=some r/\∀v H',aH H H'->DV G O H' v r->Q v H'
def Qs (G:Gx)(g:List D->Option D):List V->Hp->VK->Prop:=λxs H Q=>∃O ds r,(∀b,O b->eE (H b))/\DWs G O H xs ds/\g ds=some r/\∀p H',aH H H'->H p=none->OV G (Op O p) H' p r->Q (.ref p) H'
def aC (g:D->D->Option D)(fa fb:Me->Res D):Me->Res D:=λm=>(fa m).bind λx=>(fb m).bind λy=>ofO (g x y)
def pK (g:D->D->Option Bool)(fa fb:Me->Res D):Me->Res D:=λm=>(fa m).bind λx=>(fb m).bind λy=>ofO ((g x y).map D.bl)
def aW (g:D->D->Option Bool)(fa fb:Me->Res D):Me->Res Bool:=λm=>(fa m).bind λx=>(fb m).bind λy=>ofO (g x y)
def fUn (g:D->Option D)(fa:Me->Res D):Me->Res D:=λm=>(fa m).bind λx=>ofO (g x)
theorem two {G:Gx}{σ:L2.St}{H:Hp}{Q:VK}{r:R2}{O0 M0:Za}{H0:Hp}{ow:Os}{m:Me}{β:Type}{g:D->D->Res β}{K:β->Hp->Prop}(R:Rel G O0 M0 H0 ow σ H m)(h:Pu G E ((fa m).bind λx=>(fb m).bind λy=>g x y) H λz=>K z H)
  (hm:∀z H',K z H->aH H H'->K z H')
  (k:∀x y d e H',aH H H'->DW G (Ow O0 ow) H' x d->DW G (Ow O0 ow) H' y e->Pu G E (g d e) H' (λz=>K z H')->Rel G O0 M0 H0 ow σ H' m->r x y H' Q):tOp r (tB G E fa) (tB G E fb) σ H Q:=by
 refine ⟨O0,M0,H0,ow,m,R,h.bind.imp (aH.refl _) λd q x H1 g1 hx=>⟨O0,M0,H0,ow,m,R.mono g1,q.bind.imp g1 λe q2 y H2 g2 hy=>?_⟩⟩;exact k x y d e H2 (g1.trans g2) (hx.mono g2) hy (q2.imp (g1.trans g2) λz kz=>hm z _ kz (g1.trans g2)) (R.mono (g1.trans g2))
theorem aL {g:D->D->Option D}{op:Operator}(ho:OpR X (binaryOp op) (rG (gx X) g))(ha:FB X E a fa)(hb:FB X E b fb):FE X E (.BinOp a op b pos) (aC g fa fb):=
 bc (Uq ho ha hb) λσ H Q hE=>xq5 hE λO0 M0 H0 ow m R q=>two R (K:=λz H=>∀v H',aH H H'->DV (gx X) (Ow O0 ow) H' v z->Q v H') q (λ_ _ k g v H' g' d=>k v H' (g.trans g') d) λx y d e H' g hx hy q' R'=>by
  obtain ⟨r,hr,k⟩:=q'.ofO;exact ⟨_,d,e,r,R'.mutk,hx,hy,hr,k⟩
theorem aX {g:D->D->Option D}(ho:IxR X (rG (gx X) g))(ha:FB X E a fa)(hb:FB X E b fb)(hs:Cz b):FE X E (.Subscript a b pos) (aC g fa fb):=
 bc (Uk ho ha hb hs) λσ H Q hE=>xq5 hE λO0 M0 H0 ow m R q=>two R (K:=λz H=>∀v H',aH H H'->DV (gx X) (Ow O0 ow) H' v z->Q v H') q (λ_ _ k g v H' g' d=>k v H' (g.trans g') d) λx y d e H' g hx hy q' R'=>by
  obtain ⟨r,hr,k⟩:=q'.ofO;exact ⟨_,d,e,r,R'.mutk,hx,hy,hr,k⟩
theorem omap {α β:Type}{o:Option α}{f:α->β}{r:β}(h:o.map f=some r):∃a,o=some a/\f a=r:=by simp_all
theorem pL {g:D->D->Option Bool}{op:CmpOp}(ho:OpR X (compareOp op) (rGB (gx X) g))(ha:FB X E a fa)(hb:FB X E b fb)(hm:behindInMarks op b=false):FE X E (.Compare a [op] [b] pos) (pK g fa fb):=
 bc (Ob ho ha hb hm) λσ H Q hE=>xq5 hE λO0 M0 H0 ow m R q=>two R (K:=λz H=>∀v H',aH H H'->DV (gx X) (Ow O0 ow) H' v z->Q v H') q (λ_ _ k g v H' g' d=>k v H' (g.trans g') d) λx y d e H' g hx hy q' R'=>by
  obtain ⟨r,hr,k⟩:=q'.ofO;obtain ⟨c,hc,rfl⟩:=omap hr;exact ⟨_,d,e,c,R'.mutk,hx,hy,hc,k _ _ (aH.refl _) (.bl c)⟩
theorem cP {g:D->D->Option Bool}{op:CmpOp}(ho:OpR X (compareOp op) (rGB (gx X) g))(ha:FB X E a fa)(hb:FB X E b fb)(hm:behindInMarks op b=false):FT X E (.Compare a [op] [b] pos) (aW g fa fb):=
 xK (Nz ho ha hb hm) λσ H Q hE=>xq5 hE λO0 M0 H0 ow m R q=>two R (K:=λz H=>∀H',aH H H'->Q z H') q (λ_ _ k g H' g'=>k H' (g.trans g')) λx y d e H' g hx hy q' R'=>by
  obtain ⟨c,hc,k⟩:=q'.ofO;exact ⟨_,d,e,c,R'.mutk,hx,hy,hc,c,rfl,k _ (aH.refl _)⟩
theorem Jt {g:D->Option D}{op:UnaryOp}(ho:UnR X (unaryOp op) (rG1 (gx X) g))(ha:FB X E a fa):FE X E (.UnaryOp op a pos) (fUn g fa):=
 bc (T4 ho ha) λσ H Q hE=>xq5 hE λO0 M0 H0 ow m R q=>⟨O0,M0,H0,ow,m,R,q.bind.imp (aH.refl _) λd q x H1 g1 hx=>by
  obtain ⟨r,hr,k⟩:=q.ofO;exact ⟨_,d,r,(R.mono g1).mutk,hx,hr,λv H' g d=>k v H' (g1.trans g) d⟩⟩
def fTv (fa:Me->Res D):Me->Res Bool:=λm=>(fa m).bind λx=>match x with
 | .bl b=>.ok b
 |_=>.stuck
theorem wz (h:FE X E e f)(he:∀whole,isTrue e X.env whole=(do let v ← whole;standAt e.pos;holding [v] (truthy v)):=by intro _;rfl):FT X E e (fTv f):=
 xK (Rb h he) λσ H Q hE=>xq5 hE λO0 M0 H0 ow m R q=>⟨O0,M0,H0,ow,m,R,q.bind.imp (aH.refl _) λd q v H' g hv=>by
  cases d with
  |bl b=>cases hv;exact ⟨b,rfl,q H' g⟩
  |_=>exact q.elim⟩
def Cw (ft:Me->Res Bool):Me->Res Bool:=λm=>(ft m).bind λc=>.ok (!c)
def uc (ft fu:Me->Res Bool):Me->Res Bool:=λm=>(ft m).bind λc=>if c then fu m else .ok false
def GC (ft fu:Me->Res Bool):Me->Res Bool:=λm=>(ft m).bind λc=>if c then .ok true else fu m
theorem QB (h:FT X E a ft):FT X E (.UnaryOp .Not a pos) (Cw ft):=xK (Q8 h) λσ H Q hE=>xq5 hE λO0 M0 H0 ow m R q=>⟨O0,M0,H0,ow,m,R,q.bind.imp (aH.refl _) λb q H' g=>q H' g⟩
theorem MP (h:FT X E a ft):FW X E (.BoolOp .And [a] pos) ft:=Kw h
theorem RM (h:FT X E a ft):FW X E (.BoolOp .Or [a] pos) ft:=Qz h
theorem RN (ha:FT X E a ft)(hb:FW X E (.BoolOp .And (b::es) pos) fu):FW X E (.BoolOp .And (a::b::es) pos) (uc ft fu):=
 Di (QJ ha hb) λσ H Q hE=>xq5 hE λO0 M0 H0 ow m R q=>⟨O0,M0,H0,ow,m,R,q.bind.imp (aH.refl _) λb q H' g=>by
  cases b with
  |true=>rw [if_pos rfl] at q ⊢;exact ⟨O0,M0,H0,ow,m,R.mono g,q.imp g λ_ k H1 g1=>k H1 (g.trans g1)⟩
  |false=>rw [if_neg Bool.false_ne_true] at q ⊢;exact q H' g⟩
theorem Tc (ha:FT X E a ft)(hb:FW X E (.BoolOp .Or (b::es) pos) fu):FW X E (.BoolOp .Or (a::b::es) pos) (GC ft fu):=
 Di (Te ha hb) λσ H Q hE=>xq5 hE λO0 M0 H0 ow m R q=>⟨O0,M0,H0,ow,m,R,q.bind.imp (aH.refl _) λb q H' g=>by
  cases b with
  |false=>rw [if_neg Bool.false_ne_true] at q ⊢;exact ⟨O0,M0,H0,ow,m,R.mono g,q.imp g λ_ k H1 g1=>k H1 (g.trans g1)⟩
  |true=>rw [if_pos rfl] at q ⊢;exact q H' g⟩
theorem SX (h:FW X E e ft):FT X E e ft:=L2.PW.pt h
def Mt (fa fb:Me->Res D):Me->Res D:=λm=>(fTv fa m).bind λc=>if c then fb m else .ok (.bl false)
def fOr (fa fb:Me->Res D):Me->Res D:=λm=>(fTv fa m).bind λc=>if c then .ok (.bl true) else fb m
theorem Hb {G:Gx}{O:Za}{m:Me}{H:Hp}{k:Bool->Prop}(h:Pu G E (fTv fa m) H k):Pu G E (fa m) H λd=>∃b,d=.bl b/\k b:=by
 refine h.bind.imp (aH.refl _) λd q=>?_;cases d with
 |bl b=>exact ⟨b,rfl,q⟩
 |_=>exact q.elim
theorem G6 {op}(h:FE X E a fa):FE X E (.BoolOp op [a] pos) fa:=Q9 h
theorem RC (ha:FE X E a fa)(hb:FE X E (.BoolOp .And (b::es) pos) fb):FE X E (.BoolOp .And (a::b::es) pos) (Mt fa fb):=
 bc (QL ha hb) λσ H Q hE=>xq5 hE λO0 M0 H0 ow m R q=>⟨O0,M0,H0,ow,m,R,(Hb (O:=O0) q.bind).imp (aH.refl _) λd ⟨b,e,q⟩ v H' g hv=>by
  subst e;cases hv;refine ⟨b,rfl,?_⟩;cases b with
  |true=>rw [if_pos rfl] at q ⊢;exact ⟨O0,M0,H0,ow,m,R.mono g,q.imp g λ_ k v H1 g1=>k v H1 (g.trans g1)⟩
  |false=>rw [if_neg Bool.false_ne_true] at q ⊢;exact q _ H' g (.bl false)⟩
theorem SJ (ha:FE X E a fa)(hb:FE X E (.BoolOp .Or (b::es) pos) fb):FE X E (.BoolOp .Or (a::b::es) pos) (fOr fa fb):=
 bc (R5 ha hb) λσ H Q hE=>xq5 hE λO0 M0 H0 ow m R q=>⟨O0,M0,H0,ow,m,R,(Hb (O:=O0) q.bind).imp (aH.refl _) λd ⟨b,e,q⟩ v H' g hv=>by
  subst e;cases hv;refine ⟨b,rfl,?_⟩;cases b with
  |false=>rw [if_neg Bool.false_ne_true] at q ⊢;exact ⟨O0,M0,H0,ow,m,R.mono g,q.imp g λ_ k v H1 g1=>k v H1 (g.trans g1)⟩
  |true=>rw [if_pos rfl] at q ⊢;exact q _ H' g (.bl true)⟩
def fIf (ft:Me->Res Bool)(fa fb:Me->Res D):Me->Res D:=λm=>(ft m).bind λc=>if c then fa m else fb m
theorem Ir (hc:FT X E c ft)(ha:FE X E a fa)(hb:FE X E b fb):FE X E (.IfExp c a b pos) (fIf ft fa fb):=
 bc (Iz hc ha hb) λσ H Q hE=>xq5 hE λO0 M0 H0 ow m R q=>⟨O0,M0,H0,ow,m,R,q.bind.imp (aH.refl _) λb q H' g=>by
  cases b with
  |false=>rw [if_neg Bool.false_ne_true] at q ⊢;exact ⟨O0,M0,H0,ow,m,R.mono g,q.imp g λ_ k v H1 g1=>k v H1 (g.trans g1)⟩
  |true=>rw [if_pos rfl] at q ⊢;exact ⟨O0,M0,H0,ow,m,R.mono g,q.imp g λ_ k v H1 g1=>k v H1 (g.trans g1)⟩⟩
def aB:Me->Res (List D):=λ_=>.ok []
def aj (fa:Me->Res D)(fs:Me->Res (List D)):Me->Res (List D):=λm=>(fa m).bind λx=>(fs m).bind λxs=>.ok (x::xs)
theorem aA:FAE X E [] aB:=jT jh λσ H Q hE=>xq5 hE λO0 M0 H0 ow m R q=>q [] H (aH.refl _) .nil
theorem aZ:FAB X E [] aB:=jT jh λσ H Q hE=>xq5 hE λO0 M0 H0 ow m R q=>q [] H (aH.refl _) .nil
theorem aa (ha:FE X E e fa)(hr:FAE X E es fs)(hs:starEach (e::es) X.env=(false,eval e X.env)::starEach es X.env:=by rfl):FAE X E (e::es) (aj fa fs):=
 jT (dg ha hr hs) λσ H Q hE=>xq5 hE λO0 M0 H0 ow m R q=>⟨O0,M0,H0,ow,m,R,q.bind.imp (aH.refl _) λd q v H1 g1 hv=>⟨O0,M0,H0,ow,m,R.mono g1,q.bind.imp g1 λds q vs H2 g2 hvs=>q _ H2 (g1.trans g2) (.cons (hv.mono g2) hvs)⟩⟩
theorem aP (ha:FB X E e fa)(hr:FAB X E es fs)(hs:starEach (e::es) X.env=(false,eval e X.env)::starEach es X.env:=by rfl):FAB X E (e::es) (aj fa fs):=
 jT (dg ha hr hs) λσ H Q hE=>xq5 hE λO0 M0 H0 ow m R q=>⟨O0,M0,H0,ow,m,R,q.bind.imp (aH.refl _) λd q v H1 g1 hv=>⟨O0,M0,H0,ow,m,R.mono g1,q.bind.imp g1 λds q vs H2 g2 hvs=>q _ H2 (g1.trans g2) (.cons (hv.mono g2) hvs)⟩⟩
def aY (fs:Me->Res (List D)):Me->Res D:=λm=>(fs m).bind λds=>if ds.length<=sizeLine then .ok (.tup ds) else .stuck
def ou (fs:Me->Res (List D)):Me->Res D:=λm=>(fs m).bind λds=>if ds.length<=sizeLine then .ok (.lst ds) else .stuck
theorem JP {G:Gx}{α:Type}{c:Prop}[Decidable c]{r:α}{H:Hp}{k:α->Prop}(h:Pu G E (if c then .ok r else .stuck) H k):c/\k r:=by
 by_cases z:c
 ·rw [if_pos z] at h;exact ⟨z,h⟩
 ·rw [if_neg z] at h;exact h.elim
theorem aQ {x1}(h:FAE X E es fs):FE X E (.Tuple es x1 pos) (aY fs):=bc (Ci h) λσ H Q hE=>xq5 hE λO0 M0 H0 ow m R q=>⟨O0,M0,H0,ow,m,R,q.bind.imp (aH.refl _) λds q vs H1 g1 hv=>by
 obtain ⟨hz,k⟩:=JP q;exact ⟨by rw [bx hv];exact hz,λp H' g e=>k _ H' (g1.trans g) (.tup (SqU.of e) (hv.mono g))⟩⟩
theorem pR (h:FAE X E es fs):FN X E (.List es pos) (ou fs):=bc (Qw (O1 h)) λσ H Q hE=>xq5 hE λO0 M0 H0 ow m R q=>⟨λvs H1=>aH H H1/\∃ds,DVs (gx X) (Ow O0 ow) H1 vs ds/\ds.length<=sizeLine/\∀p H',aH H H'->H p=none->OV (gx X) (Op (Ow O0 ow) p) H' p (.lst ds)->Q (.ref p) H',⟨O0,M0,H0,ow,m,R,q.bind.imp (aH.refl _) λds q vs H1 g1 hv=>⟨g1,ds,hv,JP q⟩⟩,λvs H1 ⟨g1,ds,hv,hz,k⟩=>
 ⟨by rw [bx hv];exact hz,λp hp=>k p _ (g1.trans (aR hp _)) (g1.free hp) ⟨vs,aU,(hv.bU λb z=>z.elim .inl λe=>.inr (by rw [e];exact hp)).mono (aR hp _)⟩⟩⟩
def aM (g:List D->Option D)(fs:Me->Res (List D)):Me->Res D:=λm=>(fs m).bind λds=>ofO (g ds)
theorem CW {g:List D->Option D}{σ:L2.St}{H:Hp}{Q:VK}(h:tE (gx X) E (aM g fs) σ H Q):tCB (rGC (gx X) g) (tAB (gx X) E fs) σ H Q:=by
 obtain ⟨O0,M0,H0,ow,m,R,q⟩:=h;refine ⟨O0,M0,H0,ow,m,R,q.bind.imp (aH.refl _) λds q vs H1 g1 hv=>?_⟩;obtain ⟨r,hr,k⟩:=q.ofO;exact ⟨_,ds,r,(R.mono g1).mutk,hv,hr,λv H' g d=>k v H' (g1.trans g) d⟩
theorem GF {g:List D->Option D}{σ:L2.St}{H:Hp}{Q:VK}(h:tN (gx X) E (aM g fs) σ H Q):tCB (Qs (gx X) g) (tAB (gx X) E fs) σ H Q:=by
 obtain ⟨O0,M0,H0,ow,m,R,q⟩:=h;refine ⟨O0,M0,H0,ow,m,R,q.bind.imp (aH.refl _) λds q vs H1 g1 hv=>?_⟩;obtain ⟨r,hr,k⟩:=q.ofO;exact ⟨_,ds,r,(R.mono g1).mutk,hv,hr,λp H' g n d=>k p H' (g1.trans g) (g1.free n) d⟩
section
variable {x:Str}{p:Pos}{id T:String}{g:List D->Option D}
theorem cV (hc:fB X (.builtin id) (rGC (gx X) g))(hg:Gl X x)(hm:X.mg x=none)(hv:bootBuiltins x=some (.builtin id))(ha:FAB X E (e::es) fs)(hn:x≠"__name__":=by decide)(hdb:(x == ("__debug__" : Str))=false:=by decide)
  (he:starEach (e::es) X.env=(false,eval e X.env)::starEach es X.env:=by rfl) (hpl:(backTo pos (starEach es X.env)).any (·.1)=false:=by rfl):FE X E (.Call (.Name x p) (e::es) [] pos) (aM g fs):=
 bc (oM hc hg hm hv ha hn hdb he hpl) λ_ _ _ h=>CW h
theorem cQ (hc:fB X (.type T) (rGC (gx X) g))(hg:Gl X x)(hm:X.mg x=none)(hv:bootBuiltins x=some (.type T))(ha:FAB X E (e::es) fs)(hn:x≠"__name__":=by decide)(hdb:(x == ("__debug__" : Str))=false:=by decide)
  (he:starEach (e::es) X.env=(false,eval e X.env)::starEach es X.env:=by rfl) (hpl:(backTo pos (starEach es X.env)).any (·.1)=false:=by rfl):FE X E (.Call (.Name x p) (e::es) [] pos) (aM g fs):=
 bc (pM hc hg hm hv ha hn hdb he hpl) λ_ _ _ h=>CW h
theorem Dz (hc:fB X (.type T) (Qs (gx X) g))(hg:Gl X x)(hm:X.mg x=none)(hv:bootBuiltins x=some (.type T))(ha:FAB X E (e::es) fs)(hn:x≠"__name__":=by decide)(hdb:(x == ("__debug__" : Str))=false:=by decide)
  (he:starEach (e::es) X.env=(false,eval e X.env)::starEach es X.env:=by rfl) (hpl:(backTo pos (starEach es X.env)).any (·.1)=false:=by rfl):FN X E (.Call (.Name x p) (e::es) [] pos) (aM g fs):=
 bc (pM hc hg hm hv ha hn hdb he hpl) λ_ _ _ h=>GF h
end
theorem z8 {G:Gx}{α:Type}{c:Prop}[Decidable c]{r:Res α}{H:Hp}{k:α->Prop}(h:Pu G E (if c then r else .stuck) H k):c/\Pu G E r H k:=by
 by_cases z:c
 ·rw [if_pos z] at h;exact ⟨z,h⟩
 ·rw [if_neg z] at h;exact h.elim
section
variable {o:Expr}{name:Str}{apos cpos:Pos}{T id:String}{g:D->List D->Option D}
end
end
inductive Fl where
 |nx | bk | ct | rt (fr:Bool) (d:D)
abbrev Zh:=D->Me->Option Me
abbrev Zb:=Me->Res Bool
abbrev Zl:=Me->Res D
abbrev Ze:=Me->Res (List D)
abbrev Zf:=List D->Res (Bool×D)
abbrev Zg:=Me->Res (Fl×Me)
mutual
def Om:D->Bool
 | .non | .bl _ | .int _ | .str _=>true
 | .tup ds=>zW ds
 |_=>false
def zW:List D->Bool
 |[]=>true
 |d::ds=>Om d && zW ds
end
section
end
inductive Et (G:Gx)(H0 H':Hp):List Addr->List V->List D->Prop where
 |nil:Et G H0 H' [] [] []
 |flat {v:V} {d:D} {vs:List V} {ds:List D} {qs:List Addr}:DV G (λ_=>False) H' v d->Om d=true->Et G H0 H' qs vs ds->Et G H0 H' qs (v::vs) (d::ds)
 |new {q:Addr} {xs:List V} {es:List D} {vs:List V} {ds:List D} {qs:List Addr}:H0 q=none->H' q=some (.lst xs)->DVs G (λ_=>False) H' xs es->zW es=true->q∉qs->Et G H0 H' qs vs ds->Et G H0 H' (q::qs) (.ref q::vs) (.lst es::ds)
def Fr (G:Gx)(O:Za)(H0:Hp)(v:V)(H':Hp)(d:D):Prop:=(∃p,v=.ref p/\H0 p=none/\OV G (Op O p) H' p d)\/∃p xs ds qs,d=.tup ds/\v=.ref p/\SqU G.K H' p xs/\Et G H0 H' qs xs ds
def Ss (G:Gx)(E:XK)(O0 M0:Za)(H0:Hp)(ow:Os)(H:Hp)(W:Ends)(r:Res (Fl×Me)):Prop:=match r with
 | .ok (.nx,m')=>∀ow' σ' H',cY G O0 M0 H0 ow' σ' H' m'->Go O0 ow H ow' H'->W.nx σ' H'
 | .ok (.bk,m')=>∀ow' σ' H',cY G O0 M0 H0 ow' σ' H' m'->Go O0 ow H ow' H'->W.bk σ' H'
 | .ok (.ct,m')=>∀ow' σ' H',cY G O0 M0 H0 ow' σ' H' m'->Go O0 ow H ow' H'->W.ct σ' H'
 | .ok (.rt fr d,m')=>∀v ow' σ' H',cY G O0 M0 H0 ow' σ' H' m'->Go O0 ow H ow' H'->DV G (Ow O0 ow') H' v d->(fr=true->Fr G (Ow O0 ow') H0 v H' d)->W.rt v H'
 | .exc c=>∀C H',G.mg c=some (.ref C)->Kp M0 H0 H'->E (.ref C) none H'
 | .stuck=>False
def tS (G:Gx)(E:XK)(g:Zg):TS:=λW σ H=>∃O0 M0 H0 ow m,cY G O0 M0 H0 ow σ H m/\Ss G E O0 M0 H0 ow H W (g m)
abbrev FS (X:Cx)(E:XK)(st:Stmt)(g:Zg):Prop:=PS X st (tS (gx X) E g)
abbrev FSs (X:Cx)(E:XK)(st:List Stmt)(g:Zg):Prop:=PSs X st (tS (gx X) E g)
theorem cA {X:Cx}{st:Stmt}{T T':TS}(h:PS X st T)(k:∀W σ H,T' W σ H->T W σ H):PS X st T':=λpins s σ H W I q=>h pins s σ H W I (k W σ H q)
theorem yF {X:Cx}{st:List Stmt}{T T':TS}(h:PSs X st T)(k:∀W σ H,T' W σ H->T W σ H):PSs X st T':=λpins s σ H W I q=>h pins s σ H W I (k W σ H q)
section
theorem Ss.pu (R:Rel G O0 M0 H0 ow σ H m)(h:Ss G E O0 M0 H0 ow H W (x.bind k)):Pu G E x H λa=>Ss G E O0 M0 H0 ow H W (k a):=by
 cases x with
 |ok a=>exact h
 |exc c=>exact λC H' e g=>h C H' e λb o e n=>g b o (R.keep b o e n)
 |stuck=>exact h
theorem Ss.go (h:Ss G E O0 M0 H0 ow H W r)(g:Go O0 ow H ow' H'):Ss G E O0 M0 H0 ow' H' W r:=by
 cases r with
 |ok a=>
  obtain ⟨f,m'⟩:=a;cases f with
  |nx=>exact λow1 σ1 H1 R g1=>h ow1 σ1 H1 R (g.trans g1)
  |bk=>exact λow1 σ1 H1 R g1=>h ow1 σ1 H1 R (g.trans g1)
  |ct=>exact λow1 σ1 H1 R g1=>h ow1 σ1 H1 R (g.trans g1)
  |rt fr d=>exact λv ow1 σ1 H1 R g1=>h v ow1 σ1 H1 R (g.trans g1)
 |exc c=>exact h
 |stuck=>exact h
theorem Ss.ofO (h:Ss G E O0 M0 H0 ow H W ((ofO x).bind k)):∃a,x=some a/\Ss G E O0 M0 H0 ow H W (k a):=by
 cases x with
 |some a=>exact ⟨a,rfl,h⟩
 |none=>exact h.elim
end
def gNx:Zg:=λm=>.ok (.nx,m)
def aO (g k:Zg):Zg:=λm=>match g m with
 | .ok (.nx,m')=>k m'
 |r=>r
def bL (i:Nat)(f:Zl):Zg:=λm=>(f m).bind λd=>.ok (.nx,m.set i (.fz d))
def jt (i:Nat)(f:Zl):Zg:=λm=>(f m).bind λd=>if i<m.length then .ok (.nx,m.set i (.ow d)) else .stuck
def gEx (f:Zl):Zg:=λm=>(f m).bind λ_=>.ok (.nx,m)
def cD (f:Zl):Zg:=λm=>(f m.let).bind λd=>.ok (.rt false d,m.let)
def nA (f:Zl):Zg:=λm=>(f m.let).bind λd=>.ok (.rt true d,m.let)
def vq (i:Nat):Zg:=λm=>match m[i]? with
 |some (.ow d)=>.ok (.rt true d,m.let)
 |some (.fz d)=>.ok (.rt false d,m.let)
 |_=>.stuck
def gIf (t:Zb)(g k:Zg):Zg:=λm=>(t m).bind λc=>if c then g m else k m
section
variable {X:Cx}{E:XK}{e c:Expr}{es:List Expr}{st:Stmt}{rest sa sb:List Stmt}{f:Zl}{ft:Zb}{g k ga gb:Zg}{pos pos':Pos}{i:Nat}{x:Str}
theorem cN:FSs X E [] gNx:=yF Mh λW σ H hE=>xq5 hE λO0 M0 H0 ow m R q=>q ow σ H R (Go.refl (aH.refl _))
theorem RB (h:tS G E (aO g k) W σ H):S9 (tS G E g) (tS G E k) W σ H:=by
 obtain ⟨O0,M0,H0,ow,m,R,q⟩:=h;refine ⟨O0,M0,H0,ow,m,R,?_⟩;unfold aO at q;cases z:g m with
 |ok a=>
  obtain ⟨f,m'⟩:=a;rw [z] at q;cases f with
  |nx=>exact λow' σ' H' R' g'=>⟨O0,M0,H0,ow',m',R',Ss.go q g'⟩
  |bk=>exact q
  |ct=>exact q
  |rt fr d=>exact q
 |exc c=>rw [z] at q;exact q
 |stuck=>rw [z] at q;exact q
theorem aF (h1:FS X E st g)(h2:FSs X E rest k):FSs X E (st::rest) (aO g k):=yF (Hz h1 h2) λW σ H h=>RB h
theorem aK (h1:FS X E st g):FSs X E [st] g:=Nh h1
theorem JQ (h:tS G E (bL i f) W σ H):Hh (tE G E f) (sO i) W σ H:=by
 obtain ⟨O0,M0,H0,ow,m,R,q⟩:=h;refine ⟨O0,M0,H0,ow,m,R.toRel,(Ss.pu R.toRel q).imp (aH.refl _) λd q v H' g' hv=>?_⟩;exact q _ _ _ ((R.mono g').set hv) ((Go.refl g').trans Go.set)
theorem Jy (h:tS G E (jt i f) W σ H):Hh (tN G E f) (sO i) W σ H:=by
 obtain ⟨O0,M0,H0,ow,m,R,q⟩:=h;refine ⟨O0,M0,H0,ow,m,R.toRel,(Ss.pu R.toRel q).imp (aH.refl _) λd q p H' g' n hv=>?_⟩;by_cases hi:i<m.length
 ·rw [if_pos hi] at q;exact q _ _ _ (R.own g' n (R.toRel.Oo n) hv hi) (Go.own g' n)
 ·rw [if_neg hi] at q;exact q.elim
theorem cG (hN:X.N.Nodup)(hi:X.N[i]? = some x)(hx:Loc X.env.scope x)(he:FE X E e f)(hs:swapsWith e (some (.Name x pos')) pos.line X.env=pure false:=by rfl)
  (hf:X.fn x=true\/X.env.scope.names.lookup x=some .local:=by first | exact .inl rfl | exact .inr rfl | assumption):FS X E (.Assign [.Name x pos'] e pos) (bL i f):=cA (wM hN hi hx he hs hf) λ_ _ _ h=>JQ h
theorem mJ (hN:X.N.Nodup)(hi:X.N[i]? = some x)(hx:Loc X.env.scope x)(he:FN X E e f)(hs:swapsWith e (some (.Name x pos')) pos.line X.env=pure false:=by rfl)
  (hf:X.fn x=true\/X.env.scope.names.lookup x=some .local:=by first | exact .inl rfl | exact .inr rfl | assumption):FS X E (.Assign [.Name x pos'] e pos) (jt i f):=cA (wM hN hi hx he hs hf) λ_ _ _ h=>Jy h
theorem xm (he:FE X E e f)(hs:swapsWith e none pos.line X.env=pure false:=by rfl):FS X E (.Expr e pos) (gEx f):=cA (pq he hs) λW σ H hE=>xq5 hE λO0 M0 H0 ow m R q=>
 ⟨O0,M0,H0,ow,m,R.toRel,(Ss.pu R.toRel q).imp (aH.refl _) λd q v H' g' hv=>q _ _ _ (R.mono g') (Go.refl g')⟩
theorem cL (he:FE X E e f):FS X E (.Return (some e) pos) (cD f):=cA (yZ he) λW σ H hE=>xq5 hE λO0 M0 H0 ow m R q=>by
 obtain ⟨ow',R',g1⟩:=R.let;exact ⟨O0,M0,H0,ow',m.let,R'.toRel,(Ss.pu R'.toRel (Ss.go q g1)).imp (aH.refl _) λd q v H' g' hv=>q v ow' σ H' (R'.mono g') (Go.refl g') hv (λz=>by cases z)⟩
theorem qW (he:FN X E e f):FS X E (.Return (some e) pos) (nA f):=cA (yZ he) λW σ H hE=>xq5 hE λO0 M0 H0 ow m R q=>by
 obtain ⟨ow',R',g1⟩:=R.let;exact ⟨O0,M0,H0,ow',m.let,R'.toRel,(Ss.pu R'.toRel (Ss.go q g1)).imp (aH.refl _) λd q p H' g' n hv=>
  q _ ow' σ H' (R'.mono g') (Go.refl g') ((hv.bU λb z=>.inl (.inl z)).dv (R'.toRel.J0 n)) λ_=>.inl ⟨p,rfl,R'.toRel.Oo n,hv⟩⟩
theorem Cp (i:Nat)(hN:X.N[i]? = some x:=by rfl)(hv:Vis X.env.scope x:=by first | exact Or.inl rfl | exact Or.inr (Or.inl rfl) | exact Or.inr (Or.inr rfl))(hd:(x == ("__debug__" : Str))=false:=by decide)
  (hcd:(x == ("__classdict__" : Str))=false:=by decide):FS X E (.Return (some (.Name x pos')) pos) (vq i):=cA (yZ (jk hN hv hd hcd)) λW σ H hE=>xq5 hE λO0 M0 H0 ow m R q=>by
 obtain ⟨ow',R',g1⟩:=R.let;unfold vq at q;cases z:m[i]? with
 |none=>rw [z] at q;exact q.elim
 |some s=>
  rw [z] at q;have zl:m.let[i]? = some s.let:=by unfold Me.let;rw [List.getElem?_map,z];rfl
  cases s with
  |fz d=>
   obtain ⟨_,v,e,hv⟩:=R'.slot i _ zl;exact ⟨v,e,q v ow' σ H R' g1 hv λz=>by cases z⟩
  |ow d=>
   obtain ⟨_,v,e,hv⟩:=R'.slot i _ zl;obtain ⟨a,h1,h2,h3,h4⟩:=R.slot i _ z;rw [h3] at e;cases e;refine ⟨_,h3,q _ ow' σ H R' g1 hv λ_=>.inl ⟨a,rfl,h2,h4.bU λb w=>.inl ?_⟩⟩;rcases w with w | w
   ·rcases w with w | ⟨j,w⟩
    ·exact .inl w
    ·rcases g1.new j b w with w' | w'
     ·exact w'
     ·have:=R'.mutk b (.inr ⟨j,w⟩)
      rw [w'] at this;rcases this with ⟨_,e⟩ | ⟨_,e⟩ | ⟨_,e⟩ | ⟨_,e⟩<;>cases e
   ·rw [w];exact .inr ⟨i,h1⟩
  |_=>exact q.elim
theorem gA (hc:FT X E c ft)(ha:FSs X E sa ga)(hb:FSs X E sb gb):FS X E (.If c sa sb pos) (gIf ft ga gb):=cA (Tp hc ha hb) λW σ H hE=>xq5 hE λO0 M0 H0 ow m R q=>
 ⟨O0,M0,H0,ow,m,R.toRel,(Ss.pu R.toRel q).imp (aH.refl _) λb q H' g'=>by
  cases b with
  |true=>rw [if_pos rfl] at q ⊢;exact ⟨O0,M0,H0,ow,m,R.mono g',Ss.go q (Go.refl g')⟩
  |false=>rw [if_neg Bool.false_ne_true] at q ⊢;exact ⟨O0,M0,H0,ow,m,R.mono g',Ss.go q (Go.refl g')⟩⟩
def wh (t:Zb)(b:Zg):Nat->Me->Option (Res (Fl×Me))
 |0,_=>none
 |n+1,m=>match t m with
  | .ok true=>match b m with
   | .ok (.nx,m')=>wh t b n m'
   | .ok (.ct,m')=>wh t b n m'
   | .ok (.bk,m')=>some (.ok (.nx,m'))
   | .ok (.rt fr d,m')=>some (.ok (.rt fr d,m'))
   | .exc c=>some (.exc c)
   | .stuck=>some .stuck
  | .ok false=>some (.ok (.nx,m))
  | .exc c=>some (.exc c)
  | .stuck=>some .stuck
theorem Bv:∀{n:Nat} {m:Me} {r:Res (Fl×Me)},wh t b n m=some r->wh t b (n+1) m=some r
 |0,_,_,h=>by cases h
 |n+1,m,r,h=>by
  have ih:=@Bv t b n;unfold wh at h ⊢;split
  ·rename_i e;rw [e] at h;split
   ·rename_i m' e2;rw [e2] at h;exact ih h
   ·rename_i m' e2;rw [e2] at h;exact ih h
   ·rename_i m' e2;rw [e2] at h;exact h
   ·rename_i fr d m' e2;rw [e2] at h;exact h
   ·rename_i c e2;rw [e2] at h;exact h
   ·rename_i e2;rw [e2] at h;exact h
  ·rename_i e;rw [e] at h;exact h
  ·rename_i e;rw [e] at h;exact h
  ·rename_i e;rw [e] at h;exact h
theorem Ag (h:wh t b n m=some r):∀k,wh t b (n+k) m=some r
 |0=>h
 |k+1=>Bv (Ag h k)
open Classical in
def lH (t:Zb)(b:Zg):Zg:=λm=>
 if h:∃n r,wh t b n m=some r then Classical.choose (Classical.choose_spec h) else .stuck
theorem EY (h:lH t b m≠.stuck):∃n,wh t b n m=some (lH t b m):=by
 unfold lH at h ⊢;split at h
 ·rename_i q;rw [dif_pos q];exact ⟨_,Classical.choose_spec (Classical.choose_spec q)⟩
 ·exact absurd rfl h
theorem vy (n:Nat)(h:wh t b n m=some r):lH t b m=r:=by
 unfold lH;have q:∃n r,wh t b n m=some r:=⟨n,r,h⟩;rw [dif_pos q];have z:=Classical.choose_spec (Classical.choose_spec q);have a:=Ag z n;have b':=Ag h (Classical.choose q);rw [Nat.add_comm] at b';rw [a] at b';exact Option.some.inj b'
theorem yJ {body:List Stmt}(hp:PassesOwn (model X.prog X.w) X.A X.env X.xe)(hc:FT X E c ft)(hb:FSs X E body g):FS X E (.While c body [] pos) (lH ft g):=cA (Jq hp hc hb) λW σ H hE=>xq5 hE λO0 M0 H0 ow m R q=>by
 obtain ⟨n,hn⟩:=EY (t:=ft) (b:=g) (m:=m) (λz=>by rw [z] at q;exact q);generalize lH ft g m=r at *;refine ⟨λn σ' H'=>∃ow' m',cY (gx X) O0 M0 H0 ow' σ' H' m'/\Go O0 ow H ow' H'/\wh ft g n m'=some r,⟨n,ow,m,R,Go.refl (aH.refl _),hn⟩,?_⟩;rintro n σ1 H1 ⟨ow1,m1,R1,g1,h1⟩;cases n with
 |zero=>cases h1
 |succ n=>
  refine ⟨O0,M0,H0,ow1,m1,R1.toRel,?_⟩;unfold wh at h1;cases e:ft m1 with
  |exc c=>
   rw [e] at h1;cases h1;exact λC H' e g'=>q C H' e λb o e n=>g' b o (R1.keep b o e n)
  |stuck=>rw [e] at h1;cases h1;exact q.elim
  |ok t=>
   rw [e] at h1;intro H2 g2;have R2:=R1.mono g2;have G2:=g1.trans (Go.refl g2);cases t with
   |false=>
    cases h1;rw [if_neg Bool.false_ne_true];exact q _ _ _ R2 G2
   |true=>
    rw [if_pos rfl];have h1:(match g m1 with
     | .ok (.nx,m')=>wh ft g n m'
     | .ok (.ct,m')=>wh ft g n m'
     | .ok (.bk,m')=>some (.ok (.nx,m'))
     | .ok (.rt fr d,m')=>some (.ok (.rt fr d,m'))
     | .exc c=>some (.exc c)
     | .stuck=>some .stuck)=some r:=h1
    refine ⟨λσ' H'=>∃ow' m',cY (gx X) O0 M0 H0 ow' σ' H' m'/\Go O0 ow H ow' H'/\wh ft g n m'=some r,λσ' H' z=>⟨n,Nat.lt_succ_self _,z⟩,O0,M0,H0,ow1,m1,R2,?_⟩;cases e2:g m1 with
    |exc c=>rw [e2] at h1;cases h1;exact q
    |stuck=>rw [e2] at h1;cases h1;exact q
    |ok a=>
     obtain ⟨f2,m2⟩:=a;rw [e2] at h1;cases f2 with
     |nx=>exact λow' σ' H' R' g'=>⟨ow',m2,R',G2.trans g',h1⟩
     |ct=>exact λow' σ' H' R' g'=>⟨ow',m2,R',G2.trans g',h1⟩
     |bk=>cases h1;exact λow' σ' H' R' g'=>q ow' σ' H' R' (G2.trans g')
     |rt fr d=>cases h1;exact λv ow' σ' H' R' g'=>q v ow' σ' H' R' (G2.trans g')
end
def NbP (m m':Me):Prop:=(∀(j:Nat) (d:D),m[j]?≠some (Sl.bw d))->∀(j:Nat) (d:D),m'[j]?≠some (Sl.bw d)
def tG (G:Gx)(k:Nat)(h:Zh):TG:=λv σ H Q=>∃O0 M0 H0 ow m d m',Rel G O0 M0 H0 ow σ H m/\DV G (Ow O0 ow) H v d/\h d m=some m'/\
 ∀ow' σ',Rel G O0 M0 H0 ow' σ' H m'->Go O0 ow H ow' H->NbP m m'->σ'.drop k=σ.drop k->Q σ' H
def tGs (G:Gx)(k:Nat)(h:List D->Me->Option Me):TGs:=λvs σ H Q=>∃O0 M0 H0 ow m ds m',Rel G O0 M0 H0 ow σ H m/\DVs G (Ow O0 ow) H vs ds/\h ds m=some m'/\
 ∀ow' σ',Rel G O0 M0 H0 ow' σ' H m'->Go O0 ow H ow' H->NbP m m'->σ'.drop k=σ.drop k->Q σ' H
abbrev FG (X:Cx)(k:Nat)(tg:Expr)(h:Zh):Prop:=PG X tg (tG (gx X) k h)
abbrev FGs (X:Cx)(k:Nat)(tgs:List Expr)(h:List D->Me->Option Me):Prop:=PGs X tgs (tGs (gx X) k h)
theorem Cj (h:PG X e T)(k:∀v σ H Q,T' v σ H Q->T v σ H Q):PG X e T':=λpins s σ H v u Q I r q=>h pins s σ H v u Q I r (k v σ H Q q)
theorem ye (h:PGs X es T)(k:∀v σ H Q,T' v σ H Q->T v σ H Q):PGs X es T':=λpins s σ H v u Q I r q=>h pins s σ H v u Q I r (k v σ H Q q)
def hName (i:Nat):Zh:=λd m=>some (m.set i (.fz d))
def iY:List D->Me->Option Me
 |[],m=>some m
 |_,_=>none
def bz (h:Zh)(hs:List D->Me->Option Me):List D->Me->Option Me
 |d::ds,m=>(h d m).bind λm'=>hs ds m'
 |_,_=>none
def iW (n:Nat)(hs:List D->Me->Option Me):Zh
 | .tup ds,m=>if ds.length=n then hs ds m else none
 |_,_=>none
section
theorem bj (hN:X.N.Nodup)(hi:X.N[i]? = some x)(hx:Loc X.env.scope x)(hk:i<k:=by decide)(hf:X.fn x=true\/X.env.scope.names.lookup x=some .local:=by first | exact .inl rfl | exact .inr rfl | assumption):FG X k (.Name x pos) (hName i):=
 Cj (M5 hN hi hx hf) λv σ H Q hE=>xq7 hE λO0 M0 H0 ow m d m' R hv e q=>by
  cases e;refine q _ _ (R.set hv) Go.set (λnb=>qi nb λ_ z=>by cases z) ?_;rw [List.drop_set,if_pos (by omega)]
theorem jr:FGs X k [] iY:=ye Np λvs σ H Q hE=>xq7 hE λO0 M0 H0 ow m ds m' R hv e q=>by
 cases hv with
 |nil=>cases e;exact ⟨rfl,q _ _ R (Go.refl (aH.refl _)) id rfl⟩
 |cons a t=>cases e
theorem bK (h1:FG X k e h)(h2:FGs X k es hs)(hst:(assignEach (e::es) X.env).map (·.2)=assign e X.env::(assignEach es X.env).map (·.2):=by rfl):FGs X k (e::es) (bz h hs):=
 ye (Ig h1 h2 hst) λvs σ H Q hE=>xq7 hE λO0 M0 H0 ow m ds m' R hv e q=>by
  cases hv with
  |nil=>cases e
  | @cons v vs' d ds' a t=>
   have e':(h d m).bind (λm'=>hs ds' m')=some m':=e;cases e1:h d m with
   |none=>rw [e1] at e';cases e'
   |some m1=>
    rw [e1] at e';exact ⟨v,vs',rfl,O0,M0,H0,ow,m,d,m1,R,a,e1,λow' σ' R' g' nb hd=>⟨O0,M0,H0,ow',m1,ds',m',R',t.go R.mutk g'.ev,e',λow2 σ2 R2 g2 nb2 hd2=>q ow2 σ2 R2 (g'.trans g2) (λz=>nb2 (nb z)) (hd2.trans hd)⟩⟩
theorem lQ (hc:X.calm=true)(h:FGs X k es hs)(hn:(assignEach es X.env).length=n:=by rfl)(hst:(assignEach es X.env).findIdx? (·.1)=none:=by rfl):FG X k (.Tuple es j pos) (iW n hs):=
 Cj (QK hc h hn hst) λv σ H Q hE=>xq7 hE λO0 M0 H0 ow m d m' R hv e q=>by
  cases d with
  |tup ds=>
   obtain ⟨a,xs,rfl,hx,hd⟩:=pP (.inl hv);have e':(if ds.length=n then hs ds m else none)=some m':=e;by_cases z:ds.length=n
   ·rw [if_pos z] at e';exact ⟨a,xs,rfl,hx,by rw [bx hd];exact z,O0,M0,H0,ow,m,ds,m',R,hd,e',q⟩
   ·rw [if_neg z] at e';cases e'
  |_=>cases e
end
def JL (f:Zl)(h:Zh):Zg:=λm=>(f m).bind λd=>(ofO (h d m)).bind λm'=>.ok (.nx,m')
theorem Rp (he:FE X E e f)(hg:FG X k tg h)(hs:swapsWithSole [tg] e pos.line X.env=pure false:=by rfl)(hw:swappedStores [tg] e X.env=pure none:=by rfl)
  (h1:(assignEach [tg] X.env).map (·.2)=[assign tg X.env]:=by rfl):FS X E (.Assign [tg] e pos) (JL f h):=cA (J4 he hg hs hw h1) λW σ H hE=>xq5 hE λO0 M0 H0 ow m R q=>
 ⟨O0,M0,H0,ow,m,R.toRel,(Ss.pu R.toRel q).imp (aH.refl _) λd q v H' g' hv=>by
  obtain ⟨m',e,q⟩:=Ss.ofO q;exact ⟨O0,M0,H0,ow,m,d,m',(R.mono g').toRel,hv,e,λow' σ' R' g2 nb _=>q _ _ _ ⟨R',nb R.nb⟩ ((Go.refl g').trans g2)⟩⟩
def qQ (G:Gx)(J:It)(ds:List D)(P:(Za)->Hp->Prop):Prop:=∀O H,P O H->
 (∀i,i<ds.length->J.go i H)/\(∀i x H',i<ds.length->J.yld i H x H'->aH H H'/\∃d,ds[i]? = some d/\DV G O H' x d)/\J.stop ds.length H
def tI (G:Gx)(E:XK)(f:Ze):TI:=λσ H R=>∃O0 M0 H0 ow m,Rel G O0 M0 H0 ow σ H m/\Pu G E (f m) H λds=>∀J H',aH H H'->qQ G J ds (λO H2=>Ev (Ow O0 ow) H' O H2)->R J H'
def tIw (G:Gx)(E:XK)(f:Ze):TI:=λσ H R=>∃O0 M0 H0 ow m,Rel G O0 M0 H0 ow σ H m/\Pu G E (f m) H λds=>∀J H',aH H H'->qQ G J ds (λO H2=>(∀b,O b->Ow O0 ow b\/H' b=none)/\aH H' H2)->R J H'
abbrev FI (X:Cx)(E:XK)(tg e:Expr)(f:Ze):Prop:=PI X tg e (tI (gx X) E f)
abbrev FIw (X:Cx)(E:XK)(tg e:Expr)(f:Ze):Prop:=PI X tg e (tIw (gx X) E f)
theorem jU (h:PI X tg e T)(k:∀σ H R,T' σ H R->T σ H R):PI X tg e T':=λpins s σ H R I q=>h pins s σ H R I (k σ H R q)
def kW (f:Zl):Ze:=λm=>(f m).bind λd=>match d with
 | .lst ds=>.ok ds
 |_=>.stuck
def yt (f:Zl):Ze:=λm=>(f m).bind λd=>match d with
 | .tup ds=>.ok ds
 |_=>.stuck
def jn (f:Ze):Ze:=λm=>(f m).bind λd=>match d with
 |[.int j]=>if -(2 ^ 62)<=j/\j<2 ^ 62 then .ok ((List.range j.toNat).map λ(i:Nat)=>D.int i) else .stuck
 |_=>.stuck
theorem Ls (m:∀b,O b->eE (H b))(hl:LstAt G.K O H a xs)(hd:DVs G O H xs ds):qQ G (Itl G.K a) ds (λO' H2=>Ev O H O' H2):=by
 intro O' H2 ev;have hq:SqL G.K H2 a xs:=(oJ ev.2 hl).sq;have hd2:=hd.go m ev;have hlen:=bx hd;refine ⟨λi hi=>⟨xs,xs[i]'(by omega),hq,by simp⟩,λi x H' hi y=>?_,xs,hq,by omega⟩;obtain ⟨e,y⟩:=y;subst e;obtain ⟨d,h1,h2⟩:=lK hd2 (y xs hq);exact ⟨aH.refl _,d,h1,h2⟩
theorem Jk (m:∀b,O b->eE (H b))(hl:SqL G.K H a xs)(hd:DVs G O H xs ds):qQ G (Itl G.K a) ds (λO' H2=>(∀b,O' b->O b\/H b=none)/\aH H H2):=by
 intro O' H2 ⟨sub,g⟩;have hq:SqL G.K H2 a xs:=yu hl g;have hd2:=hd.go m ⟨sub,.of g⟩;have hlen:=bx hd;refine ⟨λi hi=>⟨xs,xs[i]'(by omega),hq,by simp⟩,λi x H' hi y=>?_,xs,hq,by omega⟩;obtain ⟨e,y⟩:=y;subst e;obtain ⟨d,h1,h2⟩:=lK hd2 (y xs hq);exact ⟨aH.refl _,d,h1,h2⟩
theorem Qk (m:∀b,O b->eE (H b))(hl:SqT G.K H a xs)(hd:DVs G O H xs ds):qQ G (Itt G.K a) ds (λO' H2=>Ev O H O' H2):=by
 intro O' H2 ev;have hq:SqT G.K H2 a xs:=Hw m ev.2 hl;have hd2:=hd.go m ev;have hlen:=bx hd;refine ⟨λi hi=>⟨xs,xs[i]'(by omega),hq,by simp⟩,λi x H' hi y=>?_,xs,hq,by omega⟩;obtain ⟨e,y⟩:=y;subst e;obtain ⟨d,h1,h2⟩:=lK hd2 (y xs hq);exact ⟨aH.refl _,d,h1,h2⟩
theorem qQ.weak (h:qQ G J ds (λO' H2=>Ev O H O' H2)):qQ G J ds (λO' H2=>(∀b,O' b->O b\/H b=none)/\aH H H2):=
 λO' H2 ⟨s,g⟩=>h O' H2 ⟨s,.of g⟩
theorem G9 {G:Gx}{lo:Int}{n:Nat}{P:(Za)->Hp->Prop}:qQ G (Itr lo n) ((List.range n).map λ(k:Nat)=>D.int (lo+k)) P:=by
 intro O H _;refine ⟨λi hi=>(show i<n by simpa using hi),λi x H' hi y=>?_,by show n<=_;simp⟩;obtain ⟨e,y⟩:=y;subst e y;have hi':i<n:=by simpa using hi
 exact ⟨aH.refl _,_,by simp [List.getElem?_map,List.getElem?_range hi'],.int _⟩
section
variable {X:Cx}{E:XK}{tg e a b:Expr}{f:Zl}{fs:Ze}{p pos:Pos}
theorem Be (h:FE X E e f):FI X E tg e (kW f):=jU (CN h) λσ H R hE=>xq5 hE λO0 M0 H0 ow m Re q=>⟨O0,M0,H0,ow,m,Re,q.bind.imp (aH.refl _) λd q v H' g hv=>by
 cases d with
 |lst ds=>
  cases hv with
  |lst hl hd=>exact ⟨_,rfl,⟨_,hl.sq⟩,q _ H' g (Ls (Re.mono g).mutk hl hd)⟩
 |_=>exact q.elim⟩
theorem zf (h:FE X E e f):FI X E tg e (yt f):=jU (Ri h) λσ H R hE=>xq5 hE λO0 M0 H0 ow m Re q=>⟨O0,M0,H0,ow,m,Re,q.bind.imp (aH.refl _) λd q v H' g hv=>by
 cases d with
 |tup ds=>
  cases hv with
  |tup hl hd=>exact ⟨_,rfl,⟨_,hl.sq⟩,q _ H' g (Qk (Re.mono g).mutk hl.sq hd)⟩
 |_=>exact q.elim⟩
theorem kj (h:FB X E e f):FIw X E tg e (kW f):=jU (CN h) λσ H R hE=>xq5 hE λO0 M0 H0 ow m Re q=>⟨O0,M0,H0,ow,m,Re,q.bind.imp (aH.refl _) λd q v H' g hv=>by
 cases d with
 |lst ds=>
  obtain ⟨a,xs,rfl,hl,hd⟩:=jl hv;exact ⟨a,rfl,⟨_,hl⟩,q _ H' g (Jk (Re.mono g).mutk hl hd)⟩
 |_=>exact q.elim⟩
theorem rO (h:FI X E tg e fl):FIw X E tg e fl:=jU h λσ H R hE=>xq5 hE λO0 M0 H0 ow m Re q=>⟨O0,M0,H0,ow,m,Re,q.imp (aH.refl _) λds q J H' g hi=>q J H' g hi.weak⟩
theorem kh (hg:Gl X "range")(hm:X.mg "range" = none)(ha:FAB X E [a] fs)(hs:starEach [a] X.env=[(false,eval a X.env)]:=by rfl):FI X E tg (.Call (.Name "range" p) [a] [] pos) (jn fs):=
 jU (DQ hg hm ha hs) λσ H R hE=>xq5 hE λO0 M0 H0 ow m Re q=>⟨O0,M0,H0,ow,m,Re,q.bind.imp (aH.refl _) λds q vs H' g hv=>by
  cases hv with
  |nil=>exact q.elim
  | @cons v vs d ds h1 h2=>
   cases h2 with
   |cons _ _=>cases d<;>exact q.elim
   |nil=>
    cases d with
    |int j=>
     cases bV h1;obtain ⟨⟨z1,z2⟩,k⟩:=JP q;refine ⟨j,rfl,z1,z2,k _ H' g ?_⟩
     have:=G9 (G:=gx X) (lo:=0) (n:=j.toNat) (P:=λO H2=>Ev (Ow O0 ow) H' O H2)
     simpa using this
    |_=>exact q.elim⟩
end
def bZ (h:Zh)(g:Zg):List D->Zg
 |[],m=>.ok (.nx,m)
 |d::ds,m=>match h d m with
  |none=>.stuck
  |some m1=>match g m1 with
   | .ok (.nx,m2)=>bZ h g ds m2
   | .ok (.ct,m2)=>bZ h g ds m2
   | .ok (.bk,m2)=>.ok (.nx,m2)
   | .ok (.rt fr v,m2)=>.ok (.rt fr v,m2)
   | .exc c=>.exc c
   | .stuck=>.stuck
def pI (fi:Ze)(h:Zh)(g:Zg):Zg:=λm=>(fi m).bind λds=>bZ h g ds m
theorem nZ (hp:PassesOwn (model X.prog X.w) X.A X.env X.xe)(hc:X.calm=true)(hi:FI X E tg iter fi)(hg:FG X k tg h)(hb:FSs X E body g)
  (hs:∀x,foldedSetIterable iter X.env x=pure x:=by intro _;rfl):FS X E (.For tg iter body [] pos) (pI fi h g):=cA (Pa hp hc hi hg hb hs) λW σ H hE=>xq5 hE λO0 M0 H0 ow m R q=>
 ⟨O0,M0,H0,ow,m,R.toRel,(Ss.pu R.toRel q).imp (aH.refl _) λds q J H1 g1 it=>by
  have R1:=R.mono g1;have q1:=Ss.go q (Go.refl g1);generalize hr:bZ h g ds m=r at *;refine ⟨λi n σ' H'=>∃ow' m',cY (gx X) O0 M0 H0 ow' σ' H' m'/\Go O0 ow H1 ow' H'/\n=ds.length-i/\i<=ds.length/\bZ h g (ds.drop i) m'=r,⟨_,ow,m,R1,Go.refl (aH.refl _),rfl,Nat.zero_le _,hr⟩,?_⟩;rintro i n σ2 H2 ⟨ow2,m2,R2,g2,rfl,hi,e2⟩;obtain ⟨i1,i2,i3⟩:=it _ H2 g2.ev;by_cases hlt:i<ds.length
  ·refine .inr ⟨i1 i hlt,λσ' H'=>∃ow' m',cY (gx X) O0 M0 H0 ow' σ' H' m'/\Go O0 ow H1 ow' H'/\bZ h g (ds.drop (i+1)) m'=r,λσ' H' ⟨ow',m',R',g',e'⟩=>⟨ds.length-(i+1),by omega,ow',m',R',g',rfl,hlt,e'⟩,λx H3 y=>?_⟩;obtain ⟨s3,d,hd,dv⟩:=i2 i x H3 hlt y;have ed:ds.drop i=d::ds.drop (i+1):=by
    rw [List.drop_eq_getElem_cons hlt];rw [List.getElem?_eq_getElem hlt] at hd;cases hd;rfl
   rw [ed] at e2;unfold bZ at e2;cases eh:h d m2 with
   |none=>rw [eh] at e2;subst e2;exact q1.elim
   |some m3=>
    rw [eh] at e2;refine ⟨O0,M0,H0,ow2,m2,d,m3,(R2.mono s3).toRel,dv,eh,λow' σ' R' g' nb _=>?_⟩;have G3:=(g2.trans (Go.refl s3)).trans g';refine ⟨O0,M0,H0,ow',m3,⟨R',nb R2.nb⟩,?_⟩;cases eg:g m3 with
    |exc c=>simp only [eg] at e2;subst e2;exact q1
    |stuck=>simp only [eg] at e2;subst e2;exact q1
    |ok a=>
     obtain ⟨f4,m4⟩:=a;simp only [eg] at e2;cases f4 with
     |nx=>exact λow4 σ4 H4 R4 g4=>⟨ow4,m4,R4,G3.trans g4,e2⟩
     |ct=>exact λow4 σ4 H4 R4 g4=>⟨ow4,m4,R4,G3.trans g4,e2⟩
     |bk=>subst e2;exact λow4 σ4 H4 R4 g4=>q1 ow4 σ4 H4 R4 (G3.trans g4)
     |rt fr v=>subst e2;exact λv ow4 σ4 H4 R4 g4=>q1 v ow4 σ4 H4 R4 (G3.trans g4)
  ·have e:i=ds.length:=by omega
   subst e;rw [List.drop_length] at e2;unfold bZ at e2;subst e2;exact .inl ⟨i3,q1 ow2 σ2 H2 R2 g2⟩⟩
def Sl.bor:Sl->Sl
 | .ow d=>.bw d
 | .io d=>.bw d
 | .hd _ _ _=>.un
 |s=>s
def cMe (k:Nat)(cap:List Nat)(m:Me):Me:=List.replicate k .un++cap.map λj=>(m.getD j .un).bor
def dU (h:Zh)(ft:Zb)(fe:Zl)(m0:Me):List D->Res (List D)
 |[]=>.ok []
 |d::ds=>match h d m0 with
  |none=>.stuck
  |some m1=>match ft m1 with
   | .ok true=>match fe m1 with
    | .ok y=>match dU h ft fe m0 ds with
     | .ok ys=>.ok (y::ys)
     |_=>.stuck
    |_=>.stuck
   | .ok false=>dU h ft fe m0 ds
   |_=>.stuck
def dB (k:Nat)(cap:List Nat)(fi:Ze)(h:Zh)(ft:Zb)(fe:Zl):Zl:=λm=>(fi m).bind λds=>
 if ds.length<=sizeLine then match dU h ft fe (cMe k cap m) ds with
  | .ok ys=>.ok (.lst ys)
  |_=>.stuck
 else .stuck
abbrev Jr (X:Cx)(E:XK)(ifs:List Expr)(f:Zb):Prop:=Fi X ifs (tT (gx X) E f)
def iy:Zb:=λ_=>.ok true
theorem fG:Jr X E [] iy:=λpins s σ H Q I hE=>xq5 hE λO0 M0 H0 ow m R q=>Nr pins s σ H Q I (q H (aH.refl _))
theorem GJ (h:FT X E c f):Jr X E [c] f:=Nf h
section
theorem Gs (R:Rel G O0 M0 H0 ow σ H m)(g:aH H H2)(hl:H l=none)(hz:H2 l=some (.lst zs)):
  Rel G (Op (Ow O0 ow) l) (λ_=>False) (λ_=>none) (λ_=>none) (cSt k cap σ) H2 (cMe k cap m):=by
 have sub:∀b,Ow (Op (Ow O0 ow) l) (λ_=>none) b->Ow O0 ow b\/H b=none:=λb z=>by
  rw [oY] at z;exact z.elim .inl λe=>.inr (by rw [e];exact hl)
 have sup:∀b,Ow O0 ow b->Ow (Op (Ow O0 ow) l) (λ_=>none) b:=λb z=>.inl (.inl z);refine ⟨by simp [cSt,cMe],λb o e _=>(by cases e),λb z=>z.elim,λb z=>?_,λi a e=>(by cases e),λi j a e=>(by cases e),λ_ _=>rfl,λi s e=>?_⟩
 ·rw [oY] at z;rcases z with z | z
  ·exact pZ g (R.mutk b z)
  ·rw [z,hz];exact .inl ⟨zs,rfl⟩
 ·unfold cMe at e;by_cases hi:i<k
  ·rw [List.getElem?_append_left (by simpa using hi),List.getElem?_replicate,if_pos hi] at e;cases e;rfl
  ·rw [List.getElem?_append_right (by simp;omega),List.length_replicate,List.getElem?_map] at e;have eσ:(cSt k cap σ)[i]? = (cap[i-k]?).map λj=>(σ[j]?).join:=by
    unfold cSt;rw [List.getElem?_append_right (by simp;omega),List.length_replicate,List.getElem?_map]
   cases ec:cap[i-k]? with
   |none=>rw [ec] at e;cases e
   |some j=>
    rw [ec] at e eσ;rw [eσ];cases ej:m[j]? with
    |none=>
     have:m.getD j .un=.un:=by simp [List.getD,ej]
     rw [Option.map_some,this] at e;cases e;rfl
    |some s0=>
     have:m.getD j .un=s0:=by simp [List.getD,ej]
     rw [Option.map_some,this] at e;cases e;have z:=R.slot j s0 ej;cases s0 with
     |un=>rfl
     |fz d=>
      obtain ⟨_,x,e1,hv⟩:=z;exact ⟨rfl,x,by rw [Option.map_some,e1];rfl,(hv.bU sub).mono g⟩
     |ow d=>
      obtain ⟨a,h1,h2,h3,h4⟩:=z;exact ⟨rfl,.ref a,by rw [Option.map_some,h3];rfl,.inr ⟨a,rfl,sup a (.inr ⟨j,h1⟩),(h4.bU sub).mono g⟩⟩
     |io d=>
      obtain ⟨a,h1,h2,h3,h4⟩:=z;exact ⟨rfl,.ref a,by rw [Option.map_some,h3];rfl,.inr ⟨a,rfl,sup a (.inr ⟨j,h1⟩),(h4.bU sub).mono g⟩⟩
     |bw d=>
      obtain ⟨_,x,e1,hv⟩:=z;refine ⟨rfl,x,by rw [Option.map_some,e1];rfl,?_⟩;rcases hv with hv | ⟨a,e2,o,hv⟩
      ·exact .inl ((hv.bU sub).mono g)
      ·exact .inr ⟨a,e2,sup a o,(hv.bU sub).mono g⟩
     |hd w a d=>rfl
theorem wJ (hq:tN (gx X) E (dB k cap fi h ft fe) σ H Q):CT k cap (tIw (gx X) E fi) (tG (gx X) k h) (tT (gx X) E0 ft) (tE (gx X) E0 fe) σ H Q:=by
 obtain ⟨O0,M0,H0,ow,m,R,q⟩:=hq;refine ⟨O0,M0,H0,ow,m,R,q.bind.imp (aH.refl _) λds q J H1 g1 it l hl=>?_⟩;obtain ⟨hz,q⟩:=z8 q;cases hc:dU h ft fe (cMe k cap m) ds with
 |exc c=>rw [hc] at q;exact q.elim
 |stuck=>rw [hc] at q;exact q.elim
 |ok ys=>
  rw [hc] at q;have hlH:H l=none:=g1.free hl;have mk1:∀b,Op (Ow O0 ow) l b->Ow O0 ow b\/H1 b=none:=λb z=>z.elim .inl λe=>.inr (by rw [e];exact hl);refine ⟨λi n zs H'=>n=ds.length-i/\i<=ds.length/\zs.length<=i/\aH H1 H'/\H' l=some (.lst zs)/\∃es rest,DVs (gx X) (Op (Ow O0 ow) l) H' zs es/\dU h ft fe (cMe k cap m) (ds.drop i)=.ok rest/\es++rest=ys,
   ⟨ds.length,by simp,Nat.zero_le _,Nat.le_refl _,aR hl _,aU,[],ys,.nil,hc,rfl⟩,?_⟩
  rintro i n zs H' ⟨rfl,hi,hzi,g2,hH,es,rest,hes,hcr,hys⟩;obtain ⟨i1,i2,i3⟩:=it (Op (Ow O0 ow) l) H' ⟨mk1,g2⟩;by_cases hlt:i<ds.length
  ·refine .inr ⟨i1 i hlt,λx H2 y=>?_⟩;obtain ⟨g3,d,hd,dv⟩:=i2 i x H2 hlt y;have ed:ds.drop i=d::ds.drop (i+1):=by
    rw [List.drop_eq_getElem_cons hlt];rw [List.getElem?_eq_getElem hlt] at hd;cases hd;rfl
   rw [ed] at hcr;unfold dU at hcr;cases eh:h d (cMe k cap m) with
   |none=>rw [eh] at hcr;cases hcr
   |some m1=>
    rw [eh] at hcr;have G2:aH H H2:=(g1.trans g2).trans g3;have R2:=Gs (k:=k) (cap:=cap) (l:=l) (zs:=zs) R G2 hlH (g3 _ _ hH);refine ⟨_,_,_,_,_,d,m1,R2,by rw [oY];exact dv,eh,λow' σ' R' g' nb hdr=>⟨hdr,_,_,_,ow',m1,R',?_⟩⟩;simp only [] at hcr;cases et:ft m1 with
    |exc c=>rw [et] at hcr;cases hcr
    |stuck=>rw [et] at hcr;cases hcr
    |ok t=>
     rw [et] at hcr;intro H3 g4;cases t with
     |false=>
      rw [if_neg Bool.false_ne_true];exact ⟨ds.length-(i+1),by omega,rfl,hlt,by omega,(g2.trans g3).trans g4,g4 _ _ (g3 _ _ hH),es,rest,hes.mono (g3.trans g4),hcr,hys⟩
     |true=>
      rw [if_pos rfl];refine ⟨_,_,_,ow',m1,R'.mono g4,?_⟩;simp only [] at hcr;cases ee:fe m1 with
      |exc c=>rw [ee] at hcr;cases hcr
      |stuck=>rw [ee] at hcr;cases hcr
      |ok y'=>
       rw [ee] at hcr;intro v H5 g5 hv;simp only [] at hcr;cases er:dU h ft fe (cMe k cap m) (ds.drop (i+1)) with
       |exc c=>rw [er] at hcr;cases hcr
       |stuck=>rw [er] at hcr;cases hcr
       |ok rest'=>
        rw [er] at hcr;cases hcr;have G5:aH H' H5:=(g3.trans g4).trans g5;have mk5:∀b,Op (Ow O0 ow) l b->eE (H5 b):=λb z=>by
         rcases z with z | z
         ·exact pZ (((g1.trans g2).trans G5)) (R.mutk b z)
         ·rw [z,G5 _ _ hH];exact .inl ⟨zs,rfl⟩
        have kp5:Kp (Op (Ow O0 ow) l) H5 (upd H5 l (.lst (zs++[v]))):=λb o e n=>by
         rw [aV (show b≠l from λz=>n (.inr z))];exact e
        refine ⟨G5 _ _ hH,by omega,ds.length-(i+1),by omega,rfl,hlt,by rw [List.length_append,List.length_singleton];omega,?_,aU,es++[y'],rest',?_,er,by rw [List.append_assoc];exact hys⟩
        ·exact MF ((R6 (g2.trans G5)).trans Qo) hl
        ·exact gD ((hes.mono G5).kp mk5 kp5) (.cons ((hv.bU λb z=>.inl (.inl z)).kp mk5 kp5) .nil)
  ·have e:i=ds.length:=by omega
   subst e;rw [List.drop_length] at hcr;cases hcr;rw [List.append_nil] at hys;subst hys;exact .inl ⟨i3,q l H' (g1.trans g2) hlH ⟨zs,hH,hes⟩⟩
section
theorem jR (sc:Scope)(N' caps:List Str)(k:Nat)(cap:List Nat)(hcalm:X.calm=true)(S:CSc sc scope caps)(hcap:Paired (λj x=>X.N[j]? = some x) cap caps)
  (hi:FIw X E tg iter fi) (hg:∀cl C sE HE fp pins,FG (bW X N' scope cl C sE HE fp pins) k tg h) (ht:∀cl C sE HE fp pins,Jr (bW X N' scope cl C sE HE fp pins) E0 ifs ft) (he:∀cl C sE HE fp pins,FE (bW X N' scope cl C sE HE fp pins) E0 elt fe)
  (hsc:X.env.scope=sc:=by rfl) (hN:N'.drop k=caps:=by rfl) (hk:k<=N'.length:=by decide) (hs:∀x,foldedSetIterable iter X.env x=pure x:=by intro _;rfl):
  FN X E (.ListComp elt [⟨tg,iter,ifs,0⟩] scope pos) (dB k cap fi h ft fe):=bc (Km sc N' caps k cap hcalm S hcap hi hg ht he hsc hN hk hs) λ_ _ _ q=>wJ q
theorem nO (sc:Scope)(N' caps:List Str)(k:Nat)(cap:List Nat)(hnd:X.N.Nodup)(hi':X.N[i]? = some y)(hy:Loc X.env.scope y)(hcalm:X.calm=true)(S:CSc sc scope caps)(hcap:Paired (λj x=>X.N[j]? = some x) cap caps)
  (hi:FIw X E tg iter fi) (hg:∀cl C sE HE fp pins,FG (bW X N' scope cl C sE HE fp pins) k tg h) (ht:∀cl C sE HE fp pins,Jr (bW X N' scope cl C sE HE fp pins) E0 ifs ft) (he:∀cl C sE HE fp pins,FE (bW X N' scope cl C sE HE fp pins) E0 elt fe)
  (hsw:swapsWith (.ListComp elt [⟨tg,iter,ifs,0⟩] scope pos) (some (.Name y py)) spos.line X.env=pure true:=by rfl)
  (hsc:X.env.scope=sc:=by rfl) (hN:N'.drop k=caps:=by rfl) (hk:k<=N'.length:=by decide) (hs:∀x,foldedSetIterable iter X.env x=pure x:=by intro _;rfl)
  (hf:X.fn y=true\/X.env.scope.names.lookup y=some .local:=by first | exact .inl rfl | exact .inr rfl | assumption):
  FS X E (.Assign [.Name y py] (.ListComp elt [⟨tg,iter,ifs,0⟩] scope pos) spos) (bL i (dB k cap fi h ft fe)):=
 cA (tW sc N' caps k cap hnd hi' hy hcalm S hcap hi hg ht he hsw hsc hN hk hs hf) λW σ H q=>by
  refine wJ (h:=h) (ft:=ft) (fe:=fe) (Q:=λx H1=>sO i x σ H1 W.nx) ?_;obtain ⟨O0,M0,H0,ow,m,R,q⟩:=JQ q;exact ⟨O0,M0,H0,ow,m,R,q.imp (aH.refl _) λ_ k p H' g n o=>k _ H' g ((o.bU λb z=>.inl (.inl z)).dv (R.J0 n))⟩
theorem Ae (sc:Scope)(N' caps:List Str)(k:Nat)(cap:List Nat)(hnd:X.N.Nodup)(hi':X.N[i]? = some y)(hy:Loc X.env.scope y)(hcalm:X.calm=true)(S:CSc sc scope caps)(hcap:Paired (λj x=>X.N[j]? = some x) cap caps)
  (hi:FIw X E tg iter fi) (hg:∀cl C sE HE fp pins,FG (bW X N' scope cl C sE HE fp pins) k tg h) (ht:∀cl C sE HE fp pins,Jr (bW X N' scope cl C sE HE fp pins) E0 ifs ft) (he:∀cl C sE HE fp pins,FE (bW X N' scope cl C sE HE fp pins) E0 elt fe)
  (hsw:swapsWith (.ListComp elt [⟨tg,iter,ifs,0⟩] scope pos) (some (.Name y py)) spos.line X.env=pure true:=by rfl)
  (hsc:X.env.scope=sc:=by rfl) (hN:N'.drop k=caps:=by rfl) (hk:k<=N'.length:=by decide) (hs:∀x,foldedSetIterable iter X.env x=pure x:=by intro _;rfl)
  (hf:X.fn y=true\/X.env.scope.names.lookup y=some .local:=by first | exact .inl rfl | exact .inr rfl | assumption):
  FS X E (.Assign [.Name y py] (.ListComp elt [⟨tg,iter,ifs,0⟩] scope pos) spos) (jt i (dB k cap fi h ft fe)):=
 cA (tW sc N' caps k cap hnd hi' hy hcalm S hcap hi hg ht he hsw hsc hN hk hs hf) λW σ H q=>wJ (Q:=λx H1=>sO i x σ H1 W.nx) (Jy q)
end
end
def spF (G:Gx)(Φ:Zf):Sp:=λvs H Q E=>∃O ds,(∀b,O b->eE (H b))/\DVs G O H vs ds/\Pu G E (Φ ds) H λr=>∀v H',aH H H'->DV G O H' v r.2->(r.1=true->Fr G O H v H' r.2)->Q v H'
def bB (N n:Nat)(g:Zg):Zf:=λds=>if ds.length=n then match g (ds.map Sl.fz++List.replicate (N-n) Sl.un) with
  | .ok (.rt fr d,_)=>.ok (fr,d)
  | .ok (.nx,_)=>.ok (false,.non)
  | .exc c=>.exc c
  |_=>.stuck
 else .stuck
abbrev FF (P:Program)(w:World)(K:W.Frag)(mg:Zs)(base:Heap)(k:Nat)(x:Str)(ps:List Str)(Φ:Zf):Prop:=Hd.Fn P w K mg base k x ps (spF ⟨K,mg⟩ Φ)
theorem Ez (hm:∀b,O b->eE (H b))(hd:DVs G O H vs ds)(hn:ds.length=n):
  cY G O (λ_=>False) H (λ_=>none) (L2.start N vs) H (ds.map Sl.fz++List.replicate (N.length-n) Sl.un):=by
 have hl:=bx hd;refine ⟨⟨by simp [L2.start,hl,hn],λb o e _=>e,λb z=>z.elim,λb z=>by rw [oY] at z;exact hm b z,λi a e=>(by cases e),λi j a e=>(by cases e),λ_ _=>rfl,λi s e=>?_⟩,λj d e=>?_⟩
 ·by_cases hi:i<ds.length
  ·rw [List.getElem?_append_left (by simpa using hi),List.getElem?_map] at e;cases ed:ds[i]? with
   |none=>rw [ed] at e;cases e
   |some d=>
    rw [ed] at e;cases e;obtain ⟨x,hx,dx⟩:=qt hd ed;refine ⟨rfl,x,?_,by rw [oY];exact dx⟩;unfold L2.start;rw [List.getElem?_append_left (by simpa [hl] using hi),List.getElem?_map,hx];rfl
  ·rw [List.getElem?_append_right (by simp;omega),List.getElem?_replicate] at e;split at e
   ·cases e;rfl
   ·cases e
 ·by_cases hi:j<ds.length
  ·rw [List.getElem?_append_left (by simpa using hi),List.getElem?_map] at e;cases ed:ds[j]? with
   |none=>rw [ed] at e;cases e
   |some d=>rw [ed] at e;cases e
  ·rw [List.getElem?_append_right (by simp;omega),List.getElem?_replicate] at e;split at e<;>cases e
section
variable {P:Program}{w:World}{K:W.Frag}{mg:Zs}{base:Heap}
theorem cB {x qual:Str}{st:Stmt}{f:Addr}{fd:FuncData}{N ps:List Str}{k:Nat}{g:Zg}(Fu:Fun K x qual st f fd)(S:bC N ps (aJ st))
  (hbody:∀(cdv:Value) (A:Around) (outer:List Env) (s:Shared) (H:Hp) (E:XK),gW k (A.deeper (envOfC qual (aJ st) s.heap.objs.size f cdv))->
   FSs (mH (CX1 P w) P w K mg base N qual (aJ st) f cdv A outer s H E) E (iD st) g):dm P w K mg base (CX1 P w) (k+1) f fd ps (spF ⟨K,mg⟩ (bB N.length ps.length g)):=by
 refine CQ Fu S (λvs H Q E h=>?_) (λcdv A outer s H vs Q E hr h=>?_)
 ·obtain ⟨O,ds,_,hd,q⟩:=h;rw [bx hd];unfold bB at q;exact (z8 q).1
 ·obtain ⟨O,ds,hm,hd,q⟩:=h;unfold bB at q;obtain ⟨hn,q⟩:=z8 q;refine ⟨_,hbody cdv A outer s H E hr,O,λ_=>False,H,λ_=>none,_,Ez hm hd hn,?_⟩;have sm:∀{ow' σ' H' m'},cY (⟨K,mg⟩:Gx) O (λ_=>False) H ow' σ' H' m'->aH H H':=λR b o e=>R.keep b o e id;cases z:g (ds.map Sl.fz++List.replicate (N.length-ps.length) Sl.un) with
  |exc c=>rw [z] at q;exact λC H' e kp=>q C H' e λb o e=>kp b o e id
  |stuck=>rw [z] at q;exact q.elim
  |ok a=>
   obtain ⟨fl,m'⟩:=a;rw [z] at q;cases fl with
   |bk=>exact q.elim
   |ct=>exact q.elim
   |nx=>exact λow' σ' H' R' _=>q _ H' (sm R') .non λz=>by cases z
   |rt fr d=>
    intro v ow' σ' H' R' _ hv hf;refine q v H' (sm R') (hv.bU λb z=>.inl (.inl z)) λz=>?_;rcases hf z with ⟨p,e1,e2,e3⟩ | t
    ·exact .inl ⟨p,e1,e2,e3.bU λb z=>.inl (z.elim (λy=>.inl (.inl y)) .inr)⟩
    ·exact .inr t
theorem Og {k:Nat}{f:Addr}{fd:FuncData}{ps:List Str}:dm P w K mg base (CX1 P w) k f fd ps (spF ⟨K,mg⟩ λ_=>.stuck):=
 ⟨λ_ _ _ _ ⟨_,_,_,_,q⟩=>q.elim,λ_ _ _ _ _ _ _ _ _ _ _ _ _ ⟨_,_,_,_,q⟩=>q.elim⟩
end
def fFn (Φ:Zf)(fs:Ze):Zl:=λm=>(fs m).bind λds=>(Φ ds).bind λr=>.ok r.2
section
theorem cO (Fh:FF X.prog X.w X.K X.mg X.base k x ps Φ)(hr:gW j X.A)(hx:Passes (CX1 X.prog X.w) X E)(ha:FAE X E (e::es) fs)(hk:k<=j:=by decide)(hg:Gl X x:=by rfl)
  (hdb:(x == ("__debug__" : Str))=false:=by decide) (he:starEach (e::es) X.env=(false,eval e X.env)::starEach es X.env:=by rfl) (hpl:(backTo pos (starEach es X.env)).any (·.1)=false:=by rfl):
  FE X E (.Call (.Name x p) (e::es) [] pos) (fFn Φ fs):=by
 obtain ⟨f,fd,G,b,kp,m⟩:=Fh.ex;refine bc (BR G (hr.mono hk) hg m kp b .nil hx ha hdb he hpl) λσ H Q hE=>xq5 hE λO0 M0 H0 ow m R q=>⟨O0,M0,H0,ow,m,R,q.bind.imp (aH.refl _) λds q vs H1 g1 hv=>?_⟩;show spF _ _ (vs++[]) _ _ _;rw [List.append_nil];exact ⟨_,ds,(R.mono g1).mutk,hv,q.bind.imp g1 λr q v H' g2 hv' _=>q v H' (g1.trans g2) hv'⟩
end
def Bg (i:Int):Prop:=i.natAbs<lmM
instance (i:Int):Decidable (Bg i):=inferInstanceAs (Decidable (_<_))
def Bq (i:Int):Prop:=i.natAbs<lmD
instance (i:Int):Decidable (Bq i):=inferInstanceAs (Decidable (_<_))
theorem S6 (h:i.natAbs<2 ^ 60000):Bg i:=by unfold Bg;rw [Kg];exact h
theorem Td (h:i.natAbs<2 ^ 8900):Bq i:=by unfold Bq;rw [yV];exact h
@[simp] theorem SN (h:Bq i):Bg i:=by
 unfold Bq at h;rw [yV] at h;exact S6 (Nat.lt_of_lt_of_le h (Nat.pow_le_pow_right (by decide) (by decide)))
def dvI (i j:Int):Int:=if 0<j then i / j else i.fdiv j
def mdI (i j:Int):Int:=if 0<j then i % j else i.fmod j
def bM:D->D->Option D
 | .int i,.int j=>some (.int (i+j))
 | .str a,.str b=>if a.length+b.length<=sizeLine then some (.str (a++b)) else none
 | .lst a,.lst b=>if a.length+b.length<=sizeLine then some (.lst (a++b)) else none
 | .tup a,.tup b=>if a.length+b.length<=sizeLine then some (.tup (a++b)) else none
 |_,_=>none
def o8:D->D->Option D
 | .int i,.int j=>some (.int (i-j))
 |_,_=>none
def rZ:D->D->Option D
 | .int i,.int j=>if Bg i/\Bg j then some (.int (i*j)) else none
 |_,_=>none
def t8:D->D->Option D
 | .int i,.int j=>if j≠0/\Bq j then some (.int (dvI i j)) else none
 |_,_=>none
def lX:D->D->Option D
 | .int i,.int j=>if j≠0 then some (.int (mdI i j)) else none
 |_,_=>none
def Ie:D->D->Option D
 | .int i,.int j=>if 0<=j/\j<=1000000/\i.natAbs<2 ^ 64 then some (.int (i ^ j.toNat)) else none
 |_,_=>none
def uQ:D->Option D
 | .int i=>some (.int (-i))
 |_=>none
section
variable {X:Cx}
theorem oif [Decidable c]{α:Type}{a r:α}(h:(if c then some a else none)=some r):c/\a=r:=by simp_all
theorem Lp (I:Inv X pins σ H s)(q:∀v H',aH H H'->DV (gx X) O H' v (.str i)->Q v H'):EP X pins σ Q (.str i t) { s with toks:=tk }:=
 ⟨.str i,H,I.tok _,⟨t,rfl⟩,q _ _ (aH.refl _) (.str i)⟩
theorem Lh (I:Inv X pins σ H s)(m:∀b,O b->eE (H b))(hd:DVs (gx X) O H xs ds)(r:Vals xs its)(hz:xs.length<=sizeLine)
  (kp:∀b o,s.heap.get? b=some o->h'.get? b=some o) (e:∃n,h'.get? s.heap.objs.size=some { cls:=.type "list",data:=.seq its.toArray n }) (q:∀p H',aH H H'->H p=none->OV (gx X) (Op O p) H' p (.lst ds)->Q (.ref p) H'):EP X pins σ Q (.ref s.heap.objs.size) { s with heap:=h',toks:=tk }:=by
 have hf:H s.heap.objs.size=none:=I.hok.fresh (Nat.le_refl _);obtain ⟨n,e⟩:=e;refine ⟨.ref s.heap.objs.size,upd H s.heap.objs.size (.lst xs),I.laid kp (Nat.le_refl _) ⟨hz,its,n,r,e⟩,rfl,q _ _ (aR hf _) hf ⟨xs,aU,?_⟩⟩;exact (hd.bU λb z=>z.elim .inl λe=>.inr (by rw [e];exact hf)).mono (aR hf _)
theorem Ji {G:Gx}{O:Za}{H:Hp}{r:D}{Q:VK}(m:∀b,O b->eE (H b))(q:∀v H',aH H H'->DV G O H' v r->Q v H'):∀p H',aH H H'->H p=none->OV G (Op O p) H' p r->Q (.ref p) H':=λp H' g n o=>
 q _ H' g ((o.bU λb z=>.inl (.inl z)).dv λz=>by
  have:=m p z
  rw [n] at this;rcases this with ⟨_,e⟩ | ⟨_,e⟩ | ⟨_,e⟩ | ⟨_,e⟩<;>cases e)
def Uu (G:Gx):R2:=λx y H Q=>∃O ds es,(∀b,O b->eE (H b))/\DW G O H x (.lst ds)/\DW G O H y (.lst es)/\ds.length+es.length<=sizeLine/\∀p H',aH H H'->H p=none->OV G (Op O p) H' p (.lst (ds++es))->Q (.ref p) H'
theorem N8:OpR X (binaryOp .Add) (Uu (gx X)):=by
 intro pins s σ H x y v u Q I rx ry h;obtain ⟨O,ds,es,m,hx,hy,hz,q⟩:=h;obtain ⟨a,xs,rfl,ha,hd⟩:=jl hx;obtain ⟨b,ys,rfl,hb,he⟩:=jl hy;cases rx;cases ry;obtain ⟨its,r1,p1,_⟩:=I.list ha;obtain ⟨its2,r2,p2,_⟩:=I.list hb;have l1:=bx hd;have l2:=bx he;have k1:=r1.length;have k2:=r2.length;obtain ⟨⟨cls,dd,data,sl⟩,ho,hc,n,hdt⟩:=id p1.isList;obtain ⟨⟨cls2,dd2,data2,sl2⟩,ho2,hc2,n2,hd2⟩:=id p2.isList;simp only at hc hdt hc2 hd2;subst hc hdt hc2 hd2;refine concat_meets ⟨_,ho,rfl⟩ ⟨_,ho2,rfl⟩ noFill_list_add seq_list_add PySem.F.slot_list_add PySem.F.entry_list_add (PySem.F.args_list_add_2 _ _) (list_addW a b its.toArray its2.toArray n n2 dd dd2 sl sl2 (by simp;omega)) ⟨ho,ho2,?_⟩;rw [show its.toArray++its2.toArray=(its++its2).toArray by simp];exact Lh (tk:=s.toks) I m (gD hd he) (r1.append r2) (by rw [List.length_append];omega) (λb o e=>Heap.get?_push_of_some _ e) ⟨0,Heap.get?_push_size _ rfl⟩ q
theorem Ia:OpR X (binaryOp .Add) (λx y H Q=>∃O ds es,DW (gx X) O H x (.tup ds)/\DW (gx X) O H y (.tup es)/\ds.length+es.length<=sizeLine/\∀v H',aH H H'->DV (gx X) O H' v (.tup (ds++es))->Q v H'):=by
 intro pins s σ H x y v u Q I rx ry h;obtain ⟨O,ds,es,hx,hy,hz,q⟩:=h;obtain ⟨a,xs,rfl,ha,hd⟩:=rH hx;obtain ⟨b,ys,rfl,hb,he⟩:=rH hy;have l1:=bx hd;have l2:=bx he;by_cases hx0:xs=[]
 ·subst hx0;cases hd;cases rx;cases ry;obtain ⟨its,r1,p1,_⟩:=I.tuple ha.sq;obtain ⟨its2,r2,p2,_⟩:=I.tuple hb.sq;cases r1;obtain ⟨⟨cls,dd,data,sl⟩,ho,hc,n,hdt⟩:=id p1;obtain ⟨⟨cls2,dd2,data2,sl2⟩,ho2,hc2,n2,hd2⟩:=id p2;simp only at hc hdt hc2 hd2;subst hc hdt hc2 hd2;exact concat_meets ⟨_,ho,rfl⟩ ⟨_,ho2,rfl⟩ noFill_tuple_add seq_tuple_add PySem.F.slot_tuple_add PySem.F.entry_tuple_add (PySem.F.args_tuple_add_2 _ _)
   (tuple_addW0 a b ([]:List Value).toArray its2.toArray n n2 dd dd2 sl sl2 (by rfl)) ⟨ho,ho2,⟨.ref b,H,I,rfl,q _ _ (aH.refl _) (.tup hb he)⟩⟩
 ·refine LK pins s σ H _ _ v u Q I rx ry ⟨a,b,xs,ys,rfl,rfl,ha.sq,hb.sq,hx0,by omega,λz=>?_,λz p hp=>?_⟩
  ·subst z;cases he;exact q _ _ (aH.refl _) (by rw [List.append_nil];exact .tup ha hd)
  ·exact q _ _ (aR hp _) (.tup (SqU.of aU) ((gD hd he).mono (aR hp _)))
theorem bD:OpR X (binaryOp .Add) (rG (gx X) bM):=by
 intro pins s σ H x y v u Q I rx ry h;obtain ⟨O,d,e,r,m,hx,hy,hr,q⟩:=h
 match d,e,hr with
 | .int i,.int j,hr=>
  cases hr;exact Rq pins s σ H x y v u Q I rx ry ⟨i,j,bV hx,bV hy,q _ _ (aH.refl _) (.int _)⟩
 | .str i,.str j,hr=>
  obtain ⟨z,rfl⟩:=oif hr;exact zy pins s σ H x y v u Q I rx ry ⟨i,j,jA hx,jA hy,z,q _ _ (aH.refl _) (.str _)⟩
 | .lst ds,.lst es,hr=>
  obtain ⟨z,rfl⟩:=oif hr;exact N8 pins s σ H x y v u Q I rx ry ⟨O,ds,es,m,hx,hy,z,Ji m q⟩
 | .tup ds,.tup es,hr=>
  obtain ⟨z,rfl⟩:=oif hr;exact Ia pins s σ H x y v u Q I rx ry ⟨O,ds,es,hx,hy,z,q⟩
theorem oZ:OpR X (binaryOp .Sub) (rG (gx X) o8):=by
 intro pins s σ H x y v u Q I rx ry h;obtain ⟨O,d,e,r,m,hx,hy,hr,q⟩:=h
 match d,e,hr with
 | .int i,.int j,hr=>
  cases hr;exact Qq pins s σ H x y v u Q I rx ry ⟨i,j,bV hx,bV hy,q _ _ (aH.refl _) (.int _)⟩
theorem jP:OpR X (binaryOp .Mult) (rG (gx X) rZ):=by
 intro pins s σ H x y v u Q I rx ry h;obtain ⟨O,d,e,r,m,hx,hy,hr,q⟩:=h
 match d,e,hr with
 | .int i,.int j,hr=>
  obtain ⟨z,rfl⟩:=oif hr;exact Oc pins s σ H x y v u Q I rx ry ⟨i,j,bV hx,bV hy,z,q _ _ (aH.refl _) (.int _)⟩
theorem jO:OpR X (binaryOp .FloorDiv) (rG (gx X) t8):=by
 intro pins s σ H x y v u Q I rx ry h;obtain ⟨O,d,e,r,m,hx,hy,hr,q⟩:=h
 match d,e,hr with
 | .int i,.int j,hr=>
  obtain ⟨z,rfl⟩:=oif hr;refine Iw pins s σ H x y v u Q I rx ry ⟨i,j,bV hx,bV hy,z,?_⟩;have e:i.fdiv j=dvI i j:=by
   unfold dvI;split
   ·rw [Int.fdiv_eq_ediv_of_nonneg i (by omega)]
   ·rfl
  show Q (.int (i.fdiv j)) H;rw [e];exact q _ _ (aH.refl _) (.int _)
theorem fD:OpR X (binaryOp .Mod) (rG (gx X) lX):=by
 intro pins s σ H x y v u Q I rx ry h;obtain ⟨O,d,e,r,m,hx,hy,hr,q⟩:=h
 match d,e,hr with
 | .int i,.int j,hr=>
  obtain ⟨z,rfl⟩:=oif hr;refine Mq pins s σ H x y v u Q I rx ry ⟨i,j,bV hx,bV hy,z,?_⟩;have e:i.fmod j=mdI i j:=by
   unfold mdI;split
   ·rw [Int.fmod_eq_emod_of_nonneg i (by omega)]
   ·rfl
  show Q (.int (i.fmod j)) H;rw [e];exact q _ _ (aH.refl _) (.int _)
theorem Dl:OpR X (binaryOp .Pow) (rG (gx X) Ie):=by
 intro pins s σ H x y v u Q I rx ry h;obtain ⟨O,d,e,r,m,hx,hy,hr,q⟩:=h
 match d,e,hr with
 | .int i,.int j,hr=>
  obtain ⟨z,rfl⟩:=oif hr;exact Qi pins s σ H x y v u Q I rx ry ⟨i,j,bV hx,bV hy,z,q _ _ (aH.refl _) (.int _)⟩
theorem wN:UnR X (unaryOp .USub) (rG1 (gx X) uQ):=by
 intro pins s σ H x v Q I rx h;obtain ⟨O,d,r,m,hx,hr,q⟩:=h
 match d,hr with
 | .int i,hr=>
  cases hr;exact PJ pins s σ H x v Q I rx ⟨i,bV hx,q _ _ (aH.refl _) (.int _)⟩
mutual
def toPy:D->Option PyData
 | .non=>some .none
 | .bl b=>some (.bool b)
 | .int i=>some (.int i)
 | .str x=>some (.str x)
 | .tup xs=>(yQ xs).map .tuple
 | .lst xs=>(yQ xs).map .list
 | .exc _=>none
 | .dct _ _=>none
 | .dcu _ _=>none
 | .adr _=>none
 | .ins _ _ _=>none
 | .dcf _ _=>none
def yQ:List D->Option (List PyData)
 |[]=>some []
 |d::ds=>(toPy d).bind λp=>(yQ ds).map λps=>p::ps
end
mutual
theorem CP:∀{v:V} {d:D} {p:PyData},DV G O H v d->toPy d=some p->Hd.DV G.K H v p
 |_,_,_,.non,e=>by cases e;exact .non
 |_,_,_,.bl b,e=>by cases e;exact .bl b
 |_,_,_,.int i,e=>by cases e;exact .int i
 |_,_,_,.str x,e=>by cases e;exact .str x
 |_,_,_,.exc _ _,e=>by cases e
 |_,_,_,.tup h hs,e=>by
  obtain ⟨ps,e1,rfl⟩:=omap (by simpa [toPy] using e);exact .tup h.sq (tD hs e1)
 |_,_,_,.lst h hs,e=>by
  obtain ⟨ps,e1,rfl⟩:=omap (by simpa [toPy] using e);exact .lst h.sq (tD hs e1)
 |_,_,_,.dct _ _ _ _ _,e=>by cases e
 |_,_,_,.dcu _ _ _ _ _,e=>by cases e
 |_,_,_,.adr _,e=>by cases e
 |_,_,_,.ins _ _ _ _ _ _,e=>by cases e
 |_,_,_,.dcf _ _ _ _,e=>by cases e
theorem tD:∀{vs:List V} {ds:List D} {ps:List PyData},DVs G O H vs ds->yQ ds=some ps->Hd.DVs G.K H vs ps
 |_,_,_,.nil,e=>by cases e;exact .nil
 |_,_,_,.cons (d:=d) (ds:=ds) h hs,e=>by
  unfold yQ at e;cases e1:toPy d with
  |none=>rw [e1] at e;cases e
  |some p=>
   rw [e1] at e;obtain ⟨ps,e2,rfl⟩:=omap e;exact .cons (CP h e1) (tD hs e2)
end
theorem rC (h:DW G O H v d)(e:toPy d=some p):Hd.DV G.K H v p:=CP h.any e
def vY (d e:D):Option Bool:=match toPy d,toPy e with
 |some p,some q=>if SeqAt.shaped p=true/\SeqAt.shaped q=true then some (PyData.eqv p q) else none
 |_,_=>none
def gEq:D->D->Option Bool
 | .int i,.int j=>some (decide (i=j))
 | .str i,.str j=>some (decide (i=j))
 | .bl i,.bl j=>some (decide (i=j))
 | .non,.non=>some true
 |d,e=>vY d e
def gNe (d e:D):Option Bool:=(gEq d e).map (!·)
theorem vJ (h:vY d e=some b):∃p q,toPy d=some p/\toPy e=some q/\SeqAt.shaped p=true/\SeqAt.shaped q=true/\PyData.eqv p q=b:=by grind [vY]
theorem uZ (h:gEq d e=some b):(∃i j,d=.int i/\e=.int j/\b=decide (i=j))\/(∃i j,d=.str i/\e=.str j/\b=decide (i=j))\/(∃i j,d=.bl i/\e=.bl j/\b=decide (i=j))\/(d=.non/\e=.non/\b=true)\/vY d e=some b:=by
 unfold gEq at h;split at h
 ·cases h;exact .inl ⟨_,_,rfl,rfl,rfl⟩
 ·cases h;exact .inr (.inl ⟨_,_,rfl,rfl,rfl⟩)
 ·cases h;exact .inr (.inr (.inl ⟨_,_,rfl,rfl,rfl⟩))
 ·cases h;exact .inr (.inr (.inr (.inl ⟨rfl,rfl,rfl⟩)))
 ·exact .inr (.inr (.inr (.inr h)))
theorem gF (hu:X.A.units+64<cLine):OpR X (compareOp .Eq) (rGB (gx X) gEq):=by
 intro pins s σ H x y v u Q I rx ry h;obtain ⟨O,d,e,r,m,hx,hy,hr,q⟩:=h;rcases uZ hr with ⟨i,j,rfl,rfl,rfl⟩ | ⟨i,j,rfl,rfl,rfl⟩ | ⟨i,j,rfl,rfl,rfl⟩ | ⟨rfl,rfl,rfl⟩ | h
 ·cases bV hx;cases bV hy;exact Bm pins s σ H _ _ v u Q I rx ry ⟨rfl,by simpa using q⟩
 ·cases jA hx;cases jA hy;exact Bm pins s σ H _ _ v u Q I rx ry ⟨rfl,by simpa using q⟩
 ·cases Cr hx;cases Cr hy;exact Bm pins s σ H _ _ v u Q I rx ry ⟨rfl,by simpa using q⟩
 ·cases qj hx;cases qj hy;exact Bm pins s σ H _ _ v u Q I rx ry ⟨rfl,by simpa using q⟩
 ·obtain ⟨p,p',e1,e2,z1,z2,rfl⟩:=vJ h;exact O2 hu pins s σ H x y v u Q I rx ry ⟨p,p',rC hx e1,rC hy e2,z1,z2,q⟩
theorem ud (hu:X.A.units+64<cLine):OpR X (compareOp .NotEq) (rGB (gx X) gNe):=by
 intro pins s σ H x y v u Q I rx ry h;obtain ⟨O,d,e,r,m,hx,hy,hr,q⟩:=h;obtain ⟨c,hc,rfl⟩:=omap hr;rcases uZ hc with ⟨i,j,rfl,rfl,rfl⟩ | ⟨i,j,rfl,rfl,rfl⟩ | ⟨i,j,rfl,rfl,rfl⟩ | ⟨rfl,rfl,rfl⟩ | h
 ·cases bV hx;cases bV hy;exact Bb pins s σ H _ _ v u Q I rx ry ⟨rfl,by simpa using q⟩
 ·cases jA hx;cases jA hy;exact Bb pins s σ H _ _ v u Q I rx ry ⟨rfl,by simpa using q⟩
 ·cases Cr hx;cases Cr hy;exact Bb pins s σ H _ _ v u Q I rx ry ⟨rfl,by simpa using q⟩
 ·cases qj hx;cases qj hy;exact Bb pins s σ H _ _ v u Q I rx ry ⟨rfl,by simpa using q⟩
 ·obtain ⟨p,p',e1,e2,z1,z2,rfl⟩:=vJ h;exact Q7 hu pins s σ H x y v u Q I rx ry ⟨p,p',rC hx e1,rC hy e2,z1,z2,q⟩
def uD:List D->Option (List Int)
 |[]=>some []
 | .int i::ds=>(uD ds).map (i::·)
 |_::_=>none
theorem qY:∀{vs:List V} {ds:List D} {ns:List Int},DVs G O H vs ds->uD ds=some ns->vs=ns.map V.int
 |_,_,_,.nil,e=>by cases e;rfl
 |_,_,_,.cons (d:=d) h hs,e=>by
  cases d with
  |int i=>
   obtain ⟨ns,e1,rfl⟩:=omap (by simpa [uD] using e);cases h;rw [qY hs e1];rfl
  |_=>cases e
def gLt:D->D->Option Bool
 | .int i,.int j=>some (decide (i<j))
 | .tup a,.tup b=>match uD a,uD b with
  |some ns,some ms=>some (HT.lexLt ns ms)
  |_,_=>none
 |_,_=>none
def gGt:D->D->Option Bool
 | .int i,.int j=>some (decide (j<i))
 |_,_=>none
theorem PB (hu:X.A.units+64<cLine):OpR X (compareOp .Lt) (rGB (gx X) gLt):=by
 intro pins s σ H x y v u Q I rx ry h;obtain ⟨O,d,e,r,m,hx,hy,hr,q⟩:=h
 match d,e,hr with
 | .int i,.int j,hr=>cases hr;exact Sx pins s σ H x y v u Q I rx ry ⟨i,j,bV hx,bV hy,q⟩
 | .tup a,.tup b,hr=>
  unfold gLt at hr;cases e1:uD a with
  |none=>simp only [e1] at hr;cases hr
  |some ns=>
   cases e2:uD b with
   |none=>simp only [e1,e2] at hr;cases hr
   |some ms=>
    simp only [e1,e2] at hr;cases hr;obtain ⟨p,xs,rfl,hp,hd⟩:=pP hx;obtain ⟨p',ys,rfl,hp',hd'⟩:=pP hy;exact PN (by omega) pins s σ H _ _ v u Q I rx ry ⟨p,p',ns,ms,rfl,rfl,by rw [← qY hd e1];exact hp,by rw [← qY hd' e2];exact hp',q⟩
theorem j9:OpR X (compareOp .Gt) (rGB (gx X) gGt):=by
 intro pins s σ H x y v u Q I rx ry h;obtain ⟨O,d,e,r,m,hx,hy,hr,q⟩:=h
 match d,e,hr with
 | .int i,.int j,hr=>cases hr;exact T3 pins s σ H x y v u Q I rx ry ⟨i,j,bV hx,bV hy,q⟩
end
section
variable {X:Cx}{E:XK}{e a b:Expr}{es:List Expr}{f fa:Zl}{fs:Ze}{pos p:Pos}
def gIx:D->D->Option D
 | .lst ds,.int i=>atI ds i
 | .tup ds,.int i=>atI ds i
 | .str z,.int i=>if z.length<=sizeLine then (atI z.cps.toList i).map λc=>.str ⟨#[c]⟩ else none
 |_,_=>none
theorem Bu {G:Gx}{O:Za}{H:Hp}{xs:List V}{ds:List D}{i:Int}{d:D}(h:DVs G O H xs ds)(e:atI ds i=some d):∃x,atI xs i=some x/\DV G O H x d:=by
 unfold atI at e ⊢;rw [bx h];cases q:ixN ds.length i with
 |none=>rw [q] at e;cases e
 |some j=>rw [q] at e;exact qt h e
theorem bO:IxR X (rG (gx X) gIx):=by
 intro value slice pins s σ H x y v u Q I rx ry h hs;obtain ⟨O,d,e,r,m,hx,hy,hr,q⟩:=h
 match d,e,hr with
 | .lst ds,.int i,hr=>
  cases bV hy;obtain ⟨p,xs,rfl,hp,hd⟩:=jl hx;obtain ⟨z,hz,dz⟩:=Bu hd hr;exact NK value slice pins s σ H _ _ v u Q I rx ry ⟨p,xs,i,z,rfl,rfl,hp,hz,q _ _ (aH.refl _) dz⟩ hs
 | .tup ds,.int i,hr=>
  cases bV hy;obtain ⟨p,xs,rfl,hp,hd⟩:=pP hx;obtain ⟨z,hz,dz⟩:=Bu hd hr;exact Ro value slice pins s σ H _ _ v u Q I rx ry ⟨p,xs,i,z,rfl,rfl,hp,hz,q _ _ (aH.refl _) dz⟩ hs
 | .str z,.int i,hr=>
  cases bV hy;cases jA hx;have hr':(if z.length<=sizeLine then (atI z.cps.toList i).map λc=>D.str ⟨#[c]⟩ else none)=some r:=hr;by_cases hz:z.length<=sizeLine
  ·rw [if_pos hz] at hr';obtain ⟨c,hc,rfl⟩:=omap hr';exact Rg value slice pins s σ H _ _ v u Q I rx ry ⟨z,i,c,rfl,rfl,hz,hc,q _ _ (aH.refl _) (.str _)⟩ hs
  ·rw [if_neg hz] at hr';cases hr'
def tO (G:Gx)(E:XK)(f:Me->Res (Option Int)):TO:=λσ H Q=>∃O0 M0 H0 ow m,Rel G O0 M0 H0 ow σ H m/\Pu G E (f m) H λo=>∀H',aH H H'->Q o H'
abbrev FO (X:Cx)(E:XK)(e:Option Expr)(f:Me->Res (Option Int)):Prop:=PO X e (tO (gx X) E f)
theorem CV {e:Option Expr}{T T':TO}(h:PO X e T)(k:∀σ H Q,T' σ H Q->T σ H Q):PO X e T':=λpins s σ H Q I q=>h pins s σ H Q I (k σ H Q q)
def fO0:Me->Res (Option Int):=λ_=>.ok none
def fO1 (f:Zl):Me->Res (Option Int):=λm=>(f m).bind λd=>match d with
 | .int i=>.ok (some i)
 |_=>.stuck
theorem rA:FO X E none fO0:=CV Li λσ H Q hE=>xq5 hE λO0 M0 H0 ow m R q=>q H (aH.refl _)
theorem qZ (h:FB X E e f):FO X E (some e) (fO1 f):=CV (Kl h) λσ H Q hE=>xq5 hE λO0 M0 H0 ow m R q=>⟨O0,M0,H0,ow,m,R,q.bind.imp (aH.refl _) λd q v H' g hv=>by
 cases d with
 |int i=>cases bV hv;exact ⟨i,rfl,q H' g⟩
 |_=>exact q.elim⟩
def cut {α:Type}(xs:List α)(lo hi:Option Int):List α:=(xs.drop (HT.sIx xs.length 0 lo)).take (HT.sIx xs.length xs.length hi-HT.sIx xs.length 0 lo)
def gSl:D->Option Int->Option Int->Option D
 | .lst ds,lo,hi=>some (.lst (cut ds lo hi))
 | .tup ds,lo,hi=>if HT.sIx ds.length 0 lo=0/\HT.sIx ds.length ds.length hi=ds.length then none else some (.tup (cut ds lo hi))
 | .str z,lo,hi=>if z.length<=sizeLine then some (.str (Txt.slice z lo hi)) else none
 |_,_,_=>none
def rSl (G:Gx):V->Option Int->Option Int->Hp->VK->Prop:=λx lo hi H Q=>∃O d r,(∀b,O b->eE (H b))/\DW G O H x d/\gSl d lo hi=some r/\∀v H',aH H H'->DV G O H' v r->Q v H'
def U8:D->Option Int->Option Int->Option D
 | .lst ds,lo,hi=>some (.lst (cut ds lo hi))
 |_,_,_=>none
def Vf (G:Gx):V->Option Int->Option Int->Hp->VK->Prop:=λx lo hi H Q=>∃O d r,(∀b,O b->eE (H b))/\DW G O H x d/\U8 d lo hi=some r/\∀p H',aH H H'->H p=none->OV G (Op O p) H' p r->Q (.ref p) H'
theorem CJ {G:Gx}{O:Za}{H:Hp}{xs:List V}{ds:List D}{lo hi:Option Int}(h:DVs G O H xs ds):DVs G O H (yh xs lo hi) (cut ds lo hi):=by
 unfold yh cut;rw [bx h];exact ug _ (yl _ h)
theorem Tj:SlR X (Vf (gx X)):=by
 intro pins s σ H x v vl vu lo hi sl Q I rx hs pl pu h;obtain ⟨O,d,r,m,hx,hr,q⟩:=h
 match d,hr with
 | .lst ds,hr=>
  cases hr;obtain ⟨p,xs,rfl,hp,hd⟩:=jl hx;exact KC pins s σ H _ v vl vu lo hi sl Q I rx hs pl pu ⟨p,xs,rfl,hp,λp hp'=>q p _ (aR hp' _) hp' ⟨_,aU,((CJ hd).bU λb z=>z.elim .inl λe=>.inr (by rw [e];exact hp')).mono (aR hp' _)⟩⟩
theorem Ik {u:Value}{o:Option Int}(h:IsPart u o):∃l:Option (Int×Tok),u=partValue l/\l.map (·.1)=o:=by
 cases h with
 |none=>exact ⟨none,rfl,rfl⟩
 |int i t=>exact ⟨some (i,t),rfl,rfl⟩
theorem UJ:SlR X (rSl (gx X)):=by
 intro pins s σ H x v vl vu lo hi sl Q I rx hs pl pu h;obtain ⟨O,d,r,m,hx,hr,q⟩:=h
 match d,hr with
 | .lst ds,hr=>exact Tj pins s σ H x v vl vu lo hi sl Q I rx hs pl pu ⟨O,.lst ds,r,m,hx,hr,Ji m q⟩
 | .tup ds,hr=>
  obtain ⟨p,xs,rfl,hp,hd⟩:=pP hx;have hr':(if HT.sIx ds.length 0 lo=0/\HT.sIx ds.length ds.length hi=ds.length then none else some (D.tup (cut ds lo hi)))=some r:=hr;by_cases z:HT.sIx ds.length 0 lo=0/\HT.sIx ds.length ds.length hi=ds.length
  ·rw [if_pos z] at hr';cases hr'
  ·rw [if_neg z] at hr';cases hr';exact Qv pins s σ H _ v vl vu lo hi sl Q I rx hs pl pu ⟨p,xs,rfl,hp,by rw [bx hd];exact z,λp hp'=>q _ _ (aR hp' _) (.tup (SqU.of aU) ((CJ hd).mono (aR hp' _)))⟩
 | .str z,hr=>
  cases jA hx;obtain ⟨t,rfl⟩:=rx;obtain ⟨hz,rfl⟩:=oif hr;obtain ⟨l,rfl,rfl⟩:=Ik pl;obtain ⟨u,rfl,rfl⟩:=Ik pu;refine ⟨"str",_,PySem.F.slot_str_getitem.lookup,typeIs_str _ _ _,wpAny_getItem_str_slice (l:=l) (u:=u) (st:=none) hs rfl (post_val_or_str ⟨Nat.le_trans (Txt.slice_le z _ _) hz,λt' k=>Lp (tk:=k) I q⟩)⟩
def fSl (f:Zl)(lo hi:Me->Res (Option Int)):Zl:=λm=>(f m).bind λd=>(lo m).bind λl=>(hi m).bind λu=>ofO (gSl d l u)
variable {lo hi:Option Expr}{fl fh:Me->Res (Option Int)}{p2:Pos}
theorem o7 (he:FB X E e f)(hl:FO X E lo fl)(hu:FO X E hi fh):FE X E (.Subscript e (.Slice lo hi none p2) pos) (fSl f fl fh):=
 bc (Jd UJ he hl hu) λσ H Q hE=>xq5 hE λO0 M0 H0 ow m R q=>⟨O0,M0,H0,ow,m,R,q.bind.imp (aH.refl _) λd q v H1 g1 hv=>⟨O0,M0,H0,ow,m,R.mono g1,q.bind.imp g1 λl q H2 g2=>⟨O0,M0,H0,ow,m,R.mono (g1.trans g2),q.bind.imp (g1.trans g2) λu q H3 g3=>by
  obtain ⟨r,hr,k⟩:=q.ofO;exact ⟨_,d,r,(R.mono ((g1.trans g2).trans g3)).mutk,hv.mono (g2.trans g3),hr,λv H' g d=>k v H' (((g1.trans g2).trans g3).trans g) d⟩⟩⟩⟩
def ig:List D->Option D
 |[.lst ds]=>some (.int ds.length)
 |[.tup ds]=>some (.int ds.length)
 |[.str z]=>if z.length<=sizeLine then some (.int z.length) else none
 |[.dct ks _]=>some (.int ks.length)
 |_=>none
theorem oH {G:Gx}{O:Za}{H:Hp}{vs:List V}{d:D}(h:DWs G O H vs [d]):∃v,vs=[v]/\DW G O H v d:=by
 cases h with
 |cons a t=>cases t;exact ⟨_,rfl,a⟩
theorem UL {G:Gx}{O:Za}{H:Hp}{vs:List V}{d e:D}(h:DWs G O H vs [d,e]):∃v u,vs=[v,u]/\DW G O H v d/\DW G O H u e:=by
 cases h with
 |cons a t=>
  obtain ⟨v,rfl,b⟩:=oH t;exact ⟨_,_,rfl,a,b⟩
theorem dI:fB X (.builtin "len") (rGC (gx X) ig):=by
 intro pins s σ H xs us Q I r h;obtain ⟨O,ds,d,m,hx,hr,q⟩:=h
 match ds,hr with
 |[.lst ds],hr=>
  cases hr;obtain ⟨v,rfl,hv⟩:=oH hx;obtain ⟨p,xs,rfl,hp,hd⟩:=jl hv;exact pG pins s σ H _ us Q I r ⟨p,xs,rfl,.inl hp,by rw [bx hd];exact q _ _ (aH.refl _) (.int _)⟩
 |[.tup ds],hr=>
  cases hr;obtain ⟨v,rfl,hv⟩:=oH hx;obtain ⟨p,xs,rfl,hp,hd⟩:=pP hv;exact pG pins s σ H _ us Q I r ⟨p,xs,rfl,.inr hp,by rw [bx hd];exact q _ _ (aH.refl _) (.int _)⟩
 |[.str z],hr=>
  obtain ⟨hz,rfl⟩:=oif hr;obtain ⟨v,rfl,hv⟩:=oH hx;cases jA hv;exact wO pins s σ H _ us Q I r ⟨z,rfl,hz,q _ _ (aH.refl _) (.int _)⟩
 |[.dct ks vs],hr=>
  cases hr;obtain ⟨v,rfl,hv⟩:=oH hx;obtain ⟨p,kvs,ws,rfl,hp,e1,e2,hd⟩:=Qu hv;exact Es pins s σ H _ us Q I r ⟨p,kvs,rfl,hp,by rw [show kvs.length=ks.length by rw [← e1,List.length_map]];exact q _ _ (aH.refl _) (.int _)⟩
def V0:List D->Option D
 |[.int i]=>some (.int (if i<0 then -i else i))
 |_=>none
def xM:List D->Option D
 |[.int i]=>if i.natAbs.log2<1920 then some (.str (toString i:String)) else none
 |_=>none
theorem Dv:fB X (.type "str") (rGC (gx X) xM):=by
 intro pins s σ H xs us Q I r h;obtain ⟨O,ds,d,m,hx,hr,q⟩:=h
 match ds,hr with
 |[.int i],hr=>
  obtain ⟨hz,rfl⟩:=oif hr;obtain ⟨v,rfl,hv⟩:=oH hx;cases bV hv;exact wj pins s σ H _ us Q I r ⟨i,rfl,hz,q _ _ (aH.refl _) (.str _)⟩
def gG:List D->Option D
 |[.lst ds]=>some (.tup ds)
 |[.tup ds]=>some (.tup ds)
 |_=>none
theorem gM:fB X (.type "tuple") (rGC (gx X) gG):=by
 intro pins s σ H xs us Q I r h;obtain ⟨O,ds,d,m,hx,hr,q⟩:=h
 match ds,hr with
 |[.lst ds],hr=>
  cases hr;obtain ⟨v,rfl,hv⟩:=oH hx;obtain ⟨p,xs,rfl,hp,hd⟩:=jl hv;exact nM pins s σ H _ us Q I r ⟨p,xs,rfl,.inl ⟨hp,λl hl=>q _ _ (aR hl _) (.tup (SqU.of aU) (hd.mono (aR hl _)))⟩⟩
 |[.tup ds],hr=>
  cases hr;obtain ⟨v,rfl,hv⟩:=oH hx;obtain ⟨p,xs,rfl,hp,hd⟩:=rH hv;exact nM pins s σ H _ us Q I r ⟨p,xs,rfl,.inr ⟨hp.sq,q _ _ (aH.refl _) (.tup hp hd)⟩⟩
end
section
theorem cY.chg (R:cY G O0 M0 H0 ow σ H m)(ho:ow i=some a)(g:Kp (· = a) H H')(h:OV G (Ow O0 ow) H' a d')
  (hs:(m[i]? = some (.ow d)/\s'=.ow d')\/(m[i]? = some (.io d)/\s'=.io d')):cY G O0 M0 H0 ow σ H' (m.set i s'):=by
 have oa:Ow O0 ow a:=.inr ⟨i,ho⟩;have kp:Kp (Ow O0 ow) H H':=λb u e n=>g b u e λz=>n (z ▸ oa);have hi:i<m.length:=by rcases hs with ⟨e,_⟩ | ⟨e,_⟩<;>exact wU e
 have ne:∀b o,H b=some o->b≠a->H' b=H b:=λb o e n=>by rw [e];exact g b o e n
 refine ⟨⟨by simp [R.len],λb u e n=>?_,λb z=>?_,λb z=>?_,R.no0,R.inj,λj hj=>R.out j (by simpa using hj),λj s e=>?_⟩,qi R.nb λ_ z=>by rcases hs with ⟨_,w⟩ | ⟨_,w⟩<;>(rw [w] at z;cases z)⟩
 ·refine g b u (R.keep b u e n) λz=>?_;subst z;rcases hs with ⟨q,_⟩ | ⟨q,_⟩
  ·obtain ⟨a',e1,e2,_⟩:=R.slot i _ q;rw [ho] at e1;cases e1;rw [e2] at e;cases e
  ·obtain ⟨a',e1,e2,_⟩:=R.slot i _ q;rw [ho] at e1;cases e1;exact n e2
 ·by_cases q:b=a
  ·rw [q]
   have:=h.mut
   intro w;rw [w] at this;rcases this with ⟨_,e⟩ | ⟨_,e⟩ | ⟨_,e⟩ | ⟨_,e⟩<;>cases e
  ·cases w:H b with
   |none=>exact absurd w (R.m0 b z)
   |some o=>rw [g b o w q];simp
 ·by_cases q:b=a
  ·rw [q];exact h.mut
  ·have:=R.mutk b z
   rcases this with ⟨_,e⟩ | ⟨_,e⟩ | ⟨_,e⟩ | ⟨_,e⟩
   ·rw [ne b _ e q];exact .inl ⟨_,e⟩
   ·rw [ne b _ e q];exact .inr (.inl ⟨_,e⟩)
   ·rw [ne b _ e q];exact .inr (.inr (.inl ⟨_,e⟩))
   ·rw [ne b _ e q];exact .inr (.inr (.inr ⟨_,e⟩))
 ·by_cases q:j=i
  ·subst q;rw [List.getElem?_set_self hi] at e;cases e;rcases hs with ⟨q,rfl⟩ | ⟨q,rfl⟩
   ·obtain ⟨a',e1,e2,e3,_⟩:=R.slot j _ q;rw [ho] at e1;cases e1;exact ⟨a,ho,e2,e3,h⟩
   ·obtain ⟨a',e1,e2,e3,_⟩:=R.slot j _ q;rw [ho] at e1;cases e1;exact ⟨a,ho,e2,e3,h⟩
  ·rw [List.getElem?_set_ne (Ne.symm q)] at e;have z:=R.slot j s e;have other:∀{b:Addr} {d:D},ow j=some b->OV G (Ow O0 ow) H b d->OV G (Ow O0 ow) H' b d:=λ{b d} e1 h1=>by
    have nb:b≠a:=λw=>q (R.inj j i b e1 (w ▸ ho));rcases h1.mut with ⟨_,e⟩ | ⟨_,e⟩ | ⟨_,e⟩ | ⟨_,e⟩<;>exact h1.kp R.mutk kp (ne b _ e nb)
   cases s with
   |un=>exact z
   |fz d=>obtain ⟨b,x,e,q⟩:=z;exact ⟨b,x,e,q.kp R.mutk kp⟩
   |ow d=>obtain ⟨b,x,e,f,q'⟩:=z;exact ⟨b,x,e,f,other x q'⟩
   |io d=>obtain ⟨b,x,e,f,q'⟩:=z;exact ⟨b,x,e,f,other x q'⟩
   |bw d=>exact (R.nb j d e).elim
   |hd w b d=>obtain ⟨x,e,f,q'⟩:=z;exact ⟨x,e,f,other x q'⟩
theorem Go.chg (ho:ow i=some a)(g:Kp (· = a) H H')(h:OV G (Ow O0 ow) H' a d):Go O0 ow H ow H':=
 ⟨λb u e n=>g b u e λz=>n (z ▸ .inr ⟨i,ho⟩),λj b e=>.inl (.inr ⟨j,e⟩),λb n=>by
  by_cases q:b=a
  ·rw [q]
   have:=h.mut
   intro w;rw [w] at this;rcases this with ⟨_,e⟩ | ⟨_,e⟩ | ⟨_,e⟩ | ⟨_,e⟩<;>cases e
  ·cases w:H b with
   |none=>exact absurd w n
   |some o=>rw [g b o w q];simp⟩
theorem qx:Kp (· = a) H (L2.upd H a o):=λb u e n=>by rw [L2.aV n];exact e
def oV (m:Me)(i:Nat):Option (Bool×List D):=match m[i]? with
 |some (.ow (.lst ds))=>some (true,ds)
 |some (.io (.lst ds))=>some (false,ds)
 |_=>none
def putL (m:Me)(i:Nat)(k:Bool)(ds:List D):Me:=m.set i (if k then .ow (.lst ds) else .io (.lst ds))
theorem m9 (R:Rel G O0 M0 H0 ow σ H m){i:Nat}{k:Bool}{ds:List D}(e:oV m i=some (k,ds)):∃a xs,ow i=some a/\σ[i]? = some (some (.ref a))/\H a=some (.lst xs)/\DVs G (Ow O0 ow) H xs ds/\((m[i]? = some (.ow (.lst ds))/\k=true)\/(m[i]? = some (.io (.lst ds))/\k=false)):=by
 unfold oV at e;split at e
 ·rename_i q;cases e;obtain ⟨a,e1,e2,e3,xs,e4,e5⟩:=R.slot i _ q;exact ⟨a,xs,e1,e3,e4,e5,.inl ⟨q,rfl⟩⟩
 ·rename_i q;cases e;obtain ⟨a,e1,e2,e3,xs,e4,e5⟩:=R.slot i _ q;exact ⟨a,xs,e1,e3,e4,e5,.inr ⟨q,rfl⟩⟩
 ·cases e
theorem cY.put (R:cY G O0 M0 H0 ow σ H m)(ho:ow i=some a)(hm:(m[i]? = some (.ow (.lst ds))/\k=true)\/(m[i]? = some (.io (.lst ds))/\k=false))(hd:DVs G (Ow O0 ow) H ys es):
  cY G O0 M0 H0 ow σ (L2.upd H a (.lst ys)) (putL m i k es)/\Go O0 ow H ow (L2.upd H a (.lst ys)):=by
 have oa:Ow O0 ow a:=.inr ⟨i,ho⟩;have kp:Kp (Ow O0 ow) H (L2.upd H a (.lst ys)):=λb u e n=>qx b u e λz=>n (z ▸ oa);have ov:OV G (Ow O0 ow) (L2.upd H a (.lst ys)) a (.lst es):=⟨ys,L2.aU,hd.kp R.mutk kp⟩;refine ⟨R.chg (d:=.lst ds) (d':=.lst es) ho qx ov ?_,Go.chg ho qx ov⟩;rcases hm with ⟨e,rfl⟩ | ⟨e,rfl⟩
 ·exact .inl ⟨e,rfl⟩
 ·exact .inr ⟨e,rfl⟩
end
section
def jM (i:Nat)(f:Zl):Zg:=λm=>(ofO (oV m i)).bind λo=>(f m).bind λd=>if o.2.length<sizeLine then .ok (.nx,putL m i o.1 (o.2++[d])) else .stuck
theorem pN (i:Nat)(he:FE X E e f)(hN:X.N[i]? = some x:=by rfl)(hv:Vis X.env.scope x:=by first | exact Or.inl rfl | exact Or.inr (Or.inl rfl) | exact Or.inr (Or.inr rfl))(hd:(x == ("__debug__" : Str))=false:=by decide)(hcd:(x == ("__classdict__" : Str))=false:=by decide)
  (hbase:attributeBase (.Name x np) "append" X.env (eval (.Name x np) X.env)=eval (.Name x np) X.env:=by rfl)
  (hfew:((backTo cpos (starEach [e] X.env)).all (λx=>!x.1) && (backToKw cpos (keywordEach [] X.env)).all (λx=>x.1.isSome) && decide ([e].length+([]:List Keyword).length+(if ([]:List Keyword).isEmpty then 0 else 1)<30))=true:=by rfl)
  (hline:(apos.endLine == cpos.line)=true:=by rfl) (hs:starEach [e] X.env=(false,eval e X.env)::starEach [] X.env:=by rfl) (hplain:(backTo cpos (starEach [] X.env)).any (·.1)=false:=by rfl)
  (hsw:swapsWith (.Call (.Attribute (.Name x np) "append" apos) [e] [] cpos) none pos.line X.env=pure false:=by rfl):
  FS X E (.Expr (.Call (.Attribute (.Name x np) "append" apos) [e] [] cpos) pos) (jM i f):=
 cA (pq (Jp PySem.F.plainAttrs_list PySem.F.slot_list_append PySem.F.type_list_append qu (jk hN hv hd hcd) (dg he jh hs) hbase hfew hline hs hplain) hsw) λW σ H hE=>xq5 hE λO0 M0 H0 ow m R q=>by
  obtain ⟨o,ho,q⟩:=Ss.ofO q;obtain ⟨k,ds⟩:=o;obtain ⟨a,xs,e1,e2,e3,e4,e5⟩:=m9 R.toRel ho;refine ⟨_,e2,.inl ⟨rfl,xs,SqL.of e3⟩,O0,M0,H0,ow,m,R.toRel,(Ss.pu R.toRel q).imp (aH.refl _) λd q v H1 g1 hv=>?_⟩;have R1:=R.mono g1;by_cases hz:ds.length<sizeLine
  ·rw [if_pos hz] at q;obtain ⟨R2,g2⟩:=R1.put (es:=ds++[d]) (ys:=xs++[v]) e1 e5 (gD (e4.mono g1) (.cons hv .nil));exact ⟨a,xs,v,rfl,rfl,g1 _ _ e3,by rw [bx e4];exact hz,q _ _ _ R2 ((Go.refl g1).trans g2)⟩
  ·rw [if_neg hz] at q;exact q.elim
def wu (i:Nat)(f:Zl):Zg:=λm=>(ofO (oV m i)).bind λo=>(f m).bind λd=>match d with
 | .lst es=>if o.2.length+es.length<=sizeLine then .ok (.nx,putL m i o.1 (o.2++es)) else .stuck
 |_=>.stuck
theorem DY (i:Nat)(he:FN X E e f)(hN:X.N[i]? = some x:=by rfl)(hv:Vis X.env.scope x:=by first | exact Or.inl rfl | exact Or.inr (Or.inl rfl) | exact Or.inr (Or.inr rfl))(hd:(x == ("__debug__" : Str))=false:=by decide)(hcd:(x == ("__classdict__" : Str))=false:=by decide)
  (hbase:attributeBase (.Name x np) "extend" X.env (eval (.Name x np) X.env)=eval (.Name x np) X.env:=by rfl)
  (hfew:((backTo cpos (starEach [e] X.env)).all (λx=>!x.1) && (backToKw cpos (keywordEach [] X.env)).all (λx=>x.1.isSome) && decide ([e].length+([]:List Keyword).length+(if ([]:List Keyword).isEmpty then 0 else 1)<30))=true:=by rfl)
  (hline:(apos.endLine == cpos.line)=true:=by rfl) (hs:starEach [e] X.env=(false,eval e X.env)::starEach [] X.env:=by rfl) (hplain:(backTo cpos (starEach [] X.env)).any (·.1)=false:=by rfl)
  (hsw:swapsWith (.Call (.Attribute (.Name x np) "extend" apos) [e] [] cpos) none pos.line X.env=pure false:=by rfl):
  FS X E (.Expr (.Call (.Attribute (.Name x np) "extend" apos) [e] [] cpos) pos) (wu i f):=
 cA (pq (Jp PySem.F.plainAttrs_list PySem.F.slot_list_extend PySem.F.type_list_extend Ed (jk hN hv hd hcd) (dg he jh hs) hbase hfew hline hs hplain) hsw) λW σ H hE=>xq5 hE λO0 M0 H0 ow m R q=>by
  obtain ⟨o,ho,q⟩:=Ss.ofO q;obtain ⟨k,ds⟩:=o;obtain ⟨a,xs,e1,e2,e3,e4,e5⟩:=m9 R.toRel ho;refine ⟨_,e2,.inl ⟨rfl,xs,SqL.of e3⟩,O0,M0,H0,ow,m,R.toRel,(Ss.pu R.toRel q).imp (aH.refl _) λd q p H1 g1 n hv=>?_⟩;have R1:=R.mono g1;cases d with
  |lst es=>
   have q:Ss (gx X) E O0 M0 H0 ow H W (if ds.length+es.length<=sizeLine then .ok (.nx,putL m i k (ds++es)) else .stuck):=q;obtain ⟨zs,h1,h2⟩:=hv;by_cases hz:ds.length+es.length<=sizeLine
   ·rw [if_pos hz] at q;have h2':DVs (gx X) (Ow O0 ow) H1 zs es:=h2.bU λb z=>.inl (.inl z);obtain ⟨R2,g2⟩:=R1.put (es:=ds++es) (ys:=xs++zs) e1 e5 (gD (e4.mono g1) h2');exact ⟨a,p,xs,zs,rfl,rfl,g1 _ _ e3,h1,by rw [bx e4,bx h2];exact hz,q _ _ _ R2 ((Go.refl g1).trans g2)⟩
   ·rw [if_neg hz] at q;exact q.elim
  |_=>exact q.elim
def wV (j i:Nat):Zg:=λm=>(ofO (oV m i)).bind λo=>(ofO (o.2[o.2.length - 1]?)).bind λd=>.ok (.nx,(putL m i o.1 o.2.dropLast).set j (.fz d))
theorem wk (h:DVs G O H xs ds):DVs G O H xs.dropLast ds.dropLast:=by
 rw [List.dropLast_eq_take,List.dropLast_eq_take,bx h];exact ug _ h
theorem DR (j i:Nat)(hnd:X.N.Nodup)(hj:X.N[j]? = some y)(hy:Loc X.env.scope y)(hN:X.N[i]? = some x:=by rfl)(hv:Vis X.env.scope x:=by first | exact Or.inl rfl | exact Or.inr (Or.inl rfl) | exact Or.inr (Or.inr rfl))(hd:(x == ("__debug__" : Str))=false:=by decide)(hcd:(x == ("__classdict__" : Str))=false:=by decide)
  (hbase:attributeBase (.Name x np) "pop" X.env (eval (.Name x np) X.env)=eval (.Name x np) X.env:=by rfl) (hline:(apos.endLine == cpos.line)=true:=by rfl) {yp:Pos}
  (hsw:swapsWith (.Call (.Attribute (.Name x np) "pop" apos) [] [] cpos) (some (.Name y yp)) pos.line X.env=pure false:=by rfl) (hf:X.fn y=true\/X.env.scope.names.lookup y=some .local:=by first | exact .inl rfl | exact .inr rfl | assumption):
  FS X E (.Assign [.Name y yp] (.Call (.Attribute (.Name x np) "pop" apos) [] [] cpos) pos) (wV j i):=
 cA (wM hnd hj hy (zF PySem.F.plainAttrs_list PySem.F.slot_list_pop PySem.F.type_list_pop Rk (jk hN hv hd hcd) hbase hline) hsw hf) λW σ H hE=>xq5 hE λO0 M0 H0 ow m R q=>by
  obtain ⟨o,ho,q⟩:=Ss.ofO q;obtain ⟨k,ds⟩:=o;obtain ⟨d,hd',q⟩:=Ss.ofO q;obtain ⟨a,xs,e1,e2,e3,e4,e5⟩:=m9 R.toRel ho;obtain ⟨v,hv,dv⟩:=qt e4 hd';obtain ⟨R2,g2⟩:=R.put (es:=ds.dropLast) (ys:=xs.dropLast) e1 e5 (wk e4);have dv2:=dv.go R.mutk g2.ev;exact ⟨_,e2,.inl ⟨rfl,xs,SqL.of e3⟩,a,xs,v,rfl,rfl,e3,by rw [bx e4];exact hv,q _ _ _ (R2.set dv2) (g2.trans Go.set)⟩
def zX (i:Nat)(fk fv:Zl):Zg:=λm=>(fv m).bind λd=>(ofO (oV m i)).bind λo=>(fk m).bind λk=>match k with
 | .int n=>(ofO (ixN o.2.length n)).bind λj=>.ok (.nx,putL m i o.1 (o.2.set j d))
 |_=>.stuck
end
def Xs (G:Gx)(E:XK){α:Type}(O0 M0:Za)(H0:Hp)(ow:Os)(σ:L2.St)(H:Hp)(r:Res (α×Me))(k:α->Hp->Prop):Prop:=match r with
 | .ok (a,m')=>∀H',cY G O0 M0 H0 ow σ H' m'->Go O0 ow H ow H'->k a H'
 | .exc c=>∀C H',G.mg c=some (.ref C)->Kp M0 H0 H'->E (.ref C) none H'
 | .stuck=>False
def tX (G:Gx)(E:XK)(f:Me->Res (D×Me)):TE:=λσ H Q=>∃O0 M0 H0 ow m,cY G O0 M0 H0 ow σ H m/\Xs G E O0 M0 H0 ow σ H (f m) λd H'=>∀v,DV G (Ow O0 ow) H' v d->Q v H'
def tXA (G:Gx)(E:XK)(f:Me->Res (List D×Me)):TA:=λσ H Q=>∃O0 M0 H0 ow m,cY G O0 M0 H0 ow σ H m/\Xs G E O0 M0 H0 ow σ H (f m) λds H'=>∀vs,DVs G (Ow O0 ow) H' vs ds->Q vs H'
abbrev FX (X:Cx)(E:XK)(e:Expr)(f:Me->Res (D×Me)):Prop:=PE X e (tX (gx X) E f)
abbrev FXA (X:Cx)(E:XK)(es:List Expr)(f:Me->Res (List D×Me)):Prop:=PA X es (tXA (gx X) E f)
section
variable {G:Gx}{E:XK}{O0 M0:Za}{H0 H H1:Hp}{ow:Os}{σ:L2.St}{m:Me}
theorem Xs.imp (h:Xs G E O0 M0 H0 ow σ H r k)(g:Go O0 ow H ow H1)(hk:∀a H' m',cY G O0 M0 H0 ow σ H' m'->Go O0 ow H1 ow H'->r=.ok (a,m')->k a H'->k' a H'):Xs G E O0 M0 H0 ow σ H1 r k':=by
 cases r with
 |ok a=>obtain ⟨a,m'⟩:=a;exact λH' R g'=>hk a H' m' R g' rfl (h H' R (g.trans g'))
 |exc c=>exact h
 |stuck=>exact h
theorem Xs.bind {α β:Type}{r:Res (α×Me)}{f:α->Me->Res (β×Me)}{k:β->Hp->Prop}(h:Xs G E O0 M0 H0 ow σ H (r.bind λp=>f p.1 p.2) k):
  Xs G E O0 M0 H0 ow σ H r λa H'=>∀m',r=.ok (a,m')->cY G O0 M0 H0 ow σ H' m'->Xs G E O0 M0 H0 ow σ H' (f a m') k:=by
 cases r with
 |ok a=>
  obtain ⟨a,m1⟩:=a;intro H' R g m' e R';cases e;have h:Xs G E O0 M0 H0 ow σ H (f a m1) k:=h;cases z:f a m1 with
  |ok b=>obtain ⟨b,m2⟩:=b;rw [z] at h;exact λH2 R2 g2=>h H2 R2 (g.trans g2)
  |exc c=>rw [z] at h;exact h
  |stuck=>rw [z] at h;exact h
 |exc c=>exact h
 |stuck=>exact h
theorem Xs.pu (R:Rel G O0 M0 H0 ow σ H m)(h:Xs G E O0 M0 H0 ow σ H (r.bind f) k):Pu G E r H λa=>Xs G E O0 M0 H0 ow σ H (f a) k:=by
 cases r with
 |ok a=>exact h
 |exc c=>exact λC H' e g=>h C H' e λb o e n=>g b o (R.keep b o e n)
 |stuck=>exact h
end
def fX (f:Zl):Me->Res (D×Me):=λm=>(f m).bind λd=>.ok (d,m)
def IV:Me->Res (List D×Me):=λm=>.ok ([],m)
def v5 (fa:Me->Res (D×Me))(fs:Me->Res (List D×Me)):Me->Res (List D×Me):=λm=>(fa m).bind λp=>(fs p.2).bind λq=>.ok (p.1::q.1,q.2)
def Kf (fs:Me->Res (List D×Me)):Me->Res (D×Me):=λm=>(fs m).bind λq=>if q.1.length<=sizeLine then .ok (.tup q.1,q.2) else .stuck
section
variable {X:Cx}{E:XK}{e:Expr}{es:List Expr}{f:Zl}{fa:Me->Res (D×Me)}{fs:Me->Res (List D×Me)}{pos:Pos}{i:Nat}{x:Str}
theorem TF (h:FE X E e f):FX X E e (fX f):=bc h λσ H Q hE=>xq5 hE λO0 M0 H0 ow m R q=>⟨O0,M0,H0,ow,m,R.toRel,(Xs.pu R.toRel q).imp (aH.refl _) λd q v H' g hv=>q H' (R.mono g) (Go.refl g) v hv⟩
theorem Lb:FXA X E [] IV:=jT jh λσ H Q hE=>xq5 hE λO0 M0 H0 ow m R q=>q H R (Go.refl (aH.refl _)) [] .nil
theorem yD (ha:FX X E e fa)(hr:FXA X E es fs)(hs:starEach (e::es) X.env=(false,eval e X.env)::starEach es X.env:=by rfl):FXA X E (e::es) (v5 fa fs):=
 jT (dg ha hr hs) λσ H Q hE=>xq5 hE λO0 M0 H0 ow m R q=>⟨O0,M0,H0,ow,m,R,(Xs.bind (f:=λd m1=>(fs m1).bind λq=>.ok (d::q.1,q.2)) q).imp (Go.refl (aH.refl _)) λd H1 m1 R1 g1 e1 q v hv=>⟨O0,M0,H0,ow,m1,R1,?_⟩⟩
where finally
 refine (Xs.bind (f:=λds m2=>.ok (d::ds,m2)) (q m1 e1 R1)).imp (Go.refl (aH.refl _)) λds H2 m2 R2 g2 e2 q vs hvs=>?_;exact q m2 e2 R2 H2 R2 (Go.refl (aH.refl _)) (v::vs) (.cons (hv.go R1.mutk g2.ev) hvs)
theorem QQ {x1}(h:FXA X E es fs):FX X E (.Tuple es x1 pos) (Kf fs):=bc (Ci h) λσ H Q hE=>xq5 hE λO0 M0 H0 ow m R q=>by
 refine ⟨O0,M0,H0,ow,m,R,(Xs.bind (f:=λds m'=>if ds.length<=sizeLine then .ok (D.tup ds,m') else .stuck) q).imp (Go.refl (aH.refl _)) λds H1 m1 R1 g1 e1 q vs hv=>?_⟩;have q:=q m1 e1 R1;by_cases hz:ds.length<=sizeLine
 ·rw [if_pos hz] at q;exact ⟨by rw [bx hv];exact hz,λp H' g e=>q H' (R1.mono g) (Go.refl g) _ (.tup (SqU.of e) (hv.mono g))⟩
 ·rw [if_neg hz] at q;exact q.elim
def qF (i:Nat)(f:Me->Res (D×Me)):Zg:=λm=>(f m).bind λp=>.ok (.nx,p.2.set i (.fz p.1))
theorem Xs.ss {G:Gx}{O0 M0:Za}{H0 H:Hp}{ow:Os}{σ:L2.St}{W:Ends}{r:Res (D×Me)}{k:D->Zg}(h:Ss G E O0 M0 H0 ow H W (r.bind λp=>k p.1 p.2)):
  Xs G E O0 M0 H0 ow σ H r λd H'=>∀m',r=.ok (d,m')->cY G O0 M0 H0 ow σ H' m'->Ss G E O0 M0 H0 ow H' W (k d m'):=by
 cases r with
 |ok a=>
  obtain ⟨d,m1⟩:=a;intro H' R g m' e R';cases e;exact Ss.go h g
 |exc c=>exact h
 |stuck=>exact h
theorem Dg {pos':Pos}(hN:X.N.Nodup)(hi:X.N[i]? = some x)(hx:Loc X.env.scope x)(he:FX X E e fa)(hs:swapsWith e (some (.Name x pos')) pos.line X.env=pure false:=by rfl)
  (hf:X.fn x=true\/X.env.scope.names.lookup x=some .local:=by first | exact .inl rfl | exact .inr rfl | assumption):FS X E (.Assign [.Name x pos'] e pos) (qF i fa):=cA (wM hN hi hx he hs hf) λW σ H hE=>xq5 hE λO0 M0 H0 ow m R q=>by
 refine ⟨O0,M0,H0,ow,m,R,(Xs.ss (k:=λd m'=>.ok (.nx,m'.set i (.fz d))) q).imp (Go.refl (aH.refl _)) λd H1 m1 R1 g1 e1 q v hv=>?_⟩;exact q m1 e1 R1 _ _ _ (R1.set hv) Go.set
end
section
variable {P:Program}{w:World}{K:W.Frag}{mg:Zs}{base:Heap}
end
section
end
section
variable {G:Gx}{O0 M0:Za}{H0 H H':Hp}{ow:Os}{σ:L2.St}{m:Me}{k:Nat}{cap:List Nat}
end
section
theorem Ot (z:Ow (Op O0 l) ow b):Ow O0 ow b\/b=l:=z.elim (λy=>y.elim (λw=>.inl (.inl w)) .inr) λy=>.inl (.inr y)
end
def tM (G:Gx)(E:XK)(f:Me->Res Unit):TE:=λσ H Q=>∃O0 M0 H0 ow m,Rel G O0 M0 H0 ow σ H m/\Pu G E (f m) H λ_=>∀v H',aH H H'->Q v H'
abbrev FM (X:Cx)(E:XK)(e:Expr)(f:Me->Res Unit):Prop:=PE X e (tM (gx X) E f)
def fM (f:Zl):Me->Res Unit:=λm=>(f m).bind λ_=>.ok ()
def mR (c:Str)(f:Me->Res Unit):Zg:=λm=>(f m).bind λ_=>.exc c
section
theorem BP (h:FE X E e f):FM X E e (fM f):=bc h λσ H Q hE=>xq5 hE λO0 M0 H0 ow m R q=>⟨O0,M0,H0,ow,m,R,q.bind.imp (aH.refl _) λd k v H' g _=>k v H' g⟩
theorem HJ (FB:ExcBaseFacts B newId initId bmB)(hq:PySem.W.excIn X.K C bmB newId=true)(hg:Gl X x)(hm:X.mg x=some (.ref C))(hh:X.A.handled=none)(he:FM X E e fu)
  (hx:∀(pins:Zo) (σ:L2.St) (H:Hp) (s:Shared) (h':Heap) (ea:Addr) (vs:List Value),Inv X pins σ H s->Heap.MadeExcOf s.heap h' ea (.ref C) vs->E (.ref C) none H->X.xe (.ref ea) { s with heap:=h' })
  (hd:(x == ("__debug__" : Str))=false:=by decide) (hs:starEach [e] X.env=(false,eval e X.env)::starEach [] X.env:=by rfl):
  FS X E (.Raise (some (.Call (.Name x np) [e] [] cpos)) none pos) (mR x fu):=cA (JG (W:=E) FB hq hg hm hh he hx hd hs) λW σ H hE=>xq5 hE λO0 M0 H0 ow m R q=>
 ⟨O0,M0,H0,ow,m,R.toRel,(Ss.pu R.toRel q).imp (aH.refl _) λ_ q v H' g=>⟨rfl,q C H' hm λb o e n=>g b o (R.keep b o e n)⟩⟩
end
def tSx (G:Gx)(g:Zg):Ends->(L2.St->XK)->L2.St->Hp->Prop:=λW Ex σ H=>∃O0 M0 H0 ow m,cY G O0 M0 H0 ow σ H m/\match g m with
 | .exc c=>∀C H',G.mg c=some (.ref C)->aH H H'->Ex σ (.ref C) none H'
 |r=>Ss G E0 O0 M0 H0 ow H W r
abbrev FSx (X:Cx)(st:List Stmt)(g:Zg):Prop:=PSx X st (tSx (gx X) g)
def uR (i:Nat)(sub:Str->Bool)(b h:Zg):Zg:=λm=>match b m with
 | .exc c=>if sub c=true then match h (m.set i (.fz (.exc c))) with
   | .ok (fl,m')=>.ok (fl,m'.set i .un)
   |_=>.stuck
  else .stuck
 |r=>r
theorem JF {X:Cx}{st:List Stmt}{T T':Ends->(L2.St->XK)->L2.St->Hp->Prop}(h:PSx X st T)(k:∀W E σ H,T' W E σ H->T W E σ H):PSx X st T':=λpins s σ H W E I q=>h pins s σ H W E I (k W E σ H q)
section
variable {X:Cx}{j k:Nat}{x y:Str}{ps:List Str}{Φ:Zf}{p pos cpos pos':Pos}{e:Expr}{es:List Expr}{fs:Ze}{i:Nat}
theorem cY.unset (i:Nat)(R:cY G O0 M0 H0 ow σ H m):cY G O0 M0 H0 (owS ow i none) (σ.set i none) H (m.set i .un):=by
 have sub:∀b,Ow O0 (owS ow i none) b->Ow O0 ow b\/H b=none:=λb z=>.inl z.sub;refine ⟨⟨by simp [R.len],R.keep,R.m0,λb z=>R.mutk b z.sub,λj a e=>?_,λj k a e1 e2=>?_,λj hj=>?_,λj s e=>?_⟩,qi R.nb λ_ z=>by cases z⟩
 ·by_cases q:j=i
  ·subst q;rw [b8] at e;cases e
  ·rw [b7 q] at e;exact R.no0 j a e
 ·by_cases q:j=i
  ·subst q;rw [b8] at e1;cases e1
  ·by_cases q':k=i
   ·subst q';rw [b8] at e2;cases e2
   ·rw [b7 q] at e1;rw [b7 q'] at e2;exact R.inj j k a e1 e2
 ·by_cases q:j=i
  ·subst q;exact b8
  ·rw [b7 q];exact R.out j (by simpa using hj)
 ·by_cases q:j=i
  ·subst q;have hj:j<m.length:=by simpa using wU e
   rw [List.getElem?_set_self hj] at e;cases e;exact b8
  ·rw [List.getElem?_set_ne (Ne.symm q)] at e;rw [b7 q,List.getElem?_set_ne (Ne.symm q)];exact (R.slot j s e).bU sub λ_ _ b _=>Classical.em _
theorem Qj (sub:Str->Bool)
  (hst:X.stack=X.env::X.outer) (hfr:X.env.frame=some X.env.locals) (hb:FSx X body gb) (hN:X.N.Nodup) (hi:X.N[i]? = some n) (hn:X.env.scope.names.lookup n=some .local)
  (hg:Gl X x) (hm:X.mg x=some (.ref DC)) (hsub:∀c C,sub c=true->X.mg c=some (.ref C)->W.exmOne X.K (.ref C) (.ref DC)=some true) (hs:∀ea,FSs (inh X ea) E0 (b₀::suite) gh) (hd:(x == ("__debug__" : Str))=false:=by decide):
  FS X E (.Try body [.ExceptHandler (some (.Name x np)) (some n) (b₀::suite) hpos] [] [] pos) (uR i sub gb gh):=cA (Rf (ts:=tS (gx X) E0 gh) hst hfr hb hN hi hn hg hm (λea=>hs ea) hd) λW σ H hE=>xq5 hE λO0 M0 H0 ow m R q=>by
 refine ⟨O0,M0,H0,ow,m,R,?_⟩;unfold uR at q;cases z:gb m with
 |ok a=>
  obtain ⟨fl,m'⟩:=a;rw [z] at q;cases fl<;>exact q
 |stuck=>rw [z] at q;exact q.elim
 |exc c=>
  rw [z] at q;intro C H' hc g;by_cases hsc:sub c=true
  case neg=>simp only [if_neg hsc] at q;exact q.elim
  simp only [if_pos hsc] at q;refine ⟨hsub c C hsc hc,λea hea=>?_⟩;have R':=R.mono g;have g2:aH H' (upd H' ea (.ext (lA ea (.ref C)))):=aR hea _;have R2:=(R'.mono g2).set (i:=i) (v:=.ref ea) (d:=.exc c) (.exc hc aU);refine ⟨O0,M0,H0,_,_,R2,?_⟩;have G2:Go O0 ow H (owS ow i none) (upd H' ea (.ext (lA ea (.ref C)))):=(Go.refl (g.trans g2)).trans Go.set;cases w:gh (m.set i (.fz (.exc c))) with
  |exc c'=>rw [w] at q;exact q.elim
  |stuck=>rw [w] at q;exact q.elim
  |ok a=>
   obtain ⟨fl,m'⟩:=a;rw [w] at q;cases fl with
   |nx=>exact λow' σ' H2 R3 g3=>q _ _ H2 (R3.unset i) ((G2.trans g3).trans Go.set)
   |bk=>exact λow' σ' H2 R3 g3=>q _ _ H2 (R3.unset i) ((G2.trans g3).trans Go.set)
   |ct=>exact λow' σ' H2 R3 g3=>q _ _ H2 (R3.unset i) ((G2.trans g3).trans Go.set)
   |rt fr d=>
    intro v ow' σ' H2 R3 g3 hv hf;refine q v _ _ H2 (R3.unset i) ((G2.trans g3).trans Go.set) (hv.bU λb z=>.inl z.sub) λz=>?_;rcases hf z with ⟨p,e1,e2,e3⟩ | t
    ·exact .inl ⟨p,e1,e2,e3.bU λb z=>.inl (z.elim (λy=>.inl y.sub) .inr)⟩
    ·exact .inr t
end
theorem Rel.more (R:Rel G O0 M0 H0 ow σ H m)(g:aH H H1)(hl:H l=none)(ho:eE (H1 l)):Rel G (Op O0 l) M0 H0 ow σ H1 m:=by
 have nl:=R.J0 hl;have sub':∀b,Ow (Op O0 l) ow b->Ow O0 ow b\/H b=none:=λb z=>(Ot z).elim .inl λe=>.inr (by rw [e];exact hl);have R':=R.mono g;refine ⟨R.len,R'.keep,R'.m0,λb z=>?_,λi a e z=>?_,R.inj,R.out,λi s e=>?_⟩
 ·rcases Ot z with z | z
  ·exact R'.mutk b z
  ·rw [z];exact ho
 ·rcases z with z | z
  ·exact R.no0 i a e z
  ·exact nl (z ▸ .inr ⟨i,e⟩)
 ·exact ((R.slot i s e).bU sub' λ_ _ b _=>Classical.em _).mono g
section
end
def Am (K:W.Frag):Sp:=λvs H Q _=>∃(a:Addr) (ns:List Int),vs=[.ref a]/\SqL K H a (ns.map V.int)/\ns.length<=63/\∀H',Q (.bl true) H'
theorem yo:∀ns:List Int,DVs G O H (ns.map V.int) (ns.map D.int)
 |[]=>.nil
 |n::ns=>.cons (.int n) (yo ns)
theorem K8 {P:Program}{w:World}{K:W.Frag}{mg:Zs}{base:Heap}{CX:CXT}{k:Nat}{f:Addr}{fd:FuncData}{ps:List Str}{Φ:Zf}(h:∀ns:List Int,ns.length<=63->∃fr,Φ [.lst (ns.map D.int)]=.ok (fr,.bl true))
  (F:dm P w K mg base CX k f fd ps (spF ⟨K,mg⟩ Φ)):dm P w K mg base CX k f fd ps (Am K):=F.imp λvs H Q E ⟨a,ns,e,hS,hl,q⟩=>by
 subst e;obtain ⟨fr,e⟩:=h ns hl;refine ⟨λ_=>False,[.lst (ns.map D.int)],λ_ z=>z.elim,.cons (.lst (hS.elim (λz=>.inl ⟨id,z⟩) .inr) (yo ns)) .nil,?_⟩;rw [e];intro v H' _ hv _;cases hv;exact q H'
section
theorem m7 (Ex:∃C,X.mg x=some (.ref C)/\W.excIn X.K C [.type "ValueError",.type "Exception",.type "BaseException",.type "object"] "ValueError.__new__" = true)(hg:Gl X x)(hh:X.A.handled=none)(he:FM X E e fu)
  (hx:∀(C:Addr) (pins:Zo) (σ:L2.St) (H:Hp) (s:Shared) (h':Heap) (ea:Addr) (vs:List Value),Inv X pins σ H s->Heap.MadeExcOf s.heap h' ea (.ref C) vs->E (.ref C) none H->X.xe (.ref ea) { s with heap:=h' })
  (hd:(x == ("__debug__" : Str))=false:=by decide) (hs:starEach [e] X.env=(false,eval e X.env)::starEach [] X.env:=by rfl):
  FS X E (.Raise (some (.Call (.Name x np) [e] [] cpos)) none pos) (mR x fu):=by
 obtain ⟨C,hm,hq⟩:=Ex;exact HJ PySem.F.excBase_ValueError hq hg hm hh he (hx C) hd hs
theorem My (sub:Str->Bool)
  (hst:X.stack=X.env::X.outer) (hfr:X.env.frame=some X.env.locals) (hb:FSx X body gb) (hN:X.N.Nodup) (hi:X.N[i]? = some n) (hn:X.env.scope.names.lookup n=some .local)
  (hg:Gl X x) (Xc:∃C,X.mg x=some (.ref C)/\∀c D,sub c=true->X.mg c=some (.ref D)->W.exmOne X.K (.ref D) (.ref C)=some true) (hs:∀ea,FSs (inh X ea) E0 (b₀::suite) gh) (hd:(x == ("__debug__" : Str))=false:=by decide):
  FS X E (.Try body [.ExceptHandler (some (.Name x np)) (some n) (b₀::suite) hpos] [] [] pos) (uR i sub gb gh):=by
 obtain ⟨C,hm,hq⟩:=Xc;exact Qj sub hst hfr hb hN hi hn hg hm hq hs hd
def De (tab:Str->Option Bool)(f:Zl):Zl:=λm=>(f m).bind λd=>match d with
 | .exc c=>ofO ((tab c).map D.bl)
 |_=>.stuck
theorem Lf (hc:PK c=some cv)(ht:∀c D b,tab c=some b->X.mg c=some (.ref D)->XC X.K D/\W.kitOne X.K (.ref D) cv=some b)
  (h:tE (gx X) E (De tab fa) σ H Q):tCB (OJ X.K) (Jv (tB (gx X) E fa) (Jv (tC c) Ut)) σ H Q:=by
 obtain ⟨O0,M0,H0,ow,m,R,q⟩:=h;refine ⟨O0,M0,H0,ow,m,R,q.bind.imp (aH.refl _) λd q v H' g hv=>?_⟩;cases d with
 |exc k=>
  obtain ⟨r,hr,kk⟩:=q.ofO;obtain ⟨b,hb,rfl⟩:=omap hr;obtain ⟨ea,C,rfl,hC,hH⟩:=Aa hv;obtain ⟨z1,z2⟩:=ht k C b hb hC;exact ⟨ea,C,c,cv,b,rfl,hc,hH,z1,z2,kk _ _ g (.bl _)⟩
 |_=>exact q.elim
theorem Lj (ha:FB X E a fa)(hg:Gl X "isinstance")(hm:X.mg "isinstance" = none)(hv:bootBuiltins "isinstance" = some (.builtin "isinstance"))(hgy:Gl X y)(ht:X.mg y=none/\∀c D b,tab c=some b->X.mg c=some (.ref D)->XC X.K D/\W.kitOne X.K (.ref D) (.type T)=some b)(hvy:bootBuiltins y=some (.type T))
  (hny:y≠"__name__":=by decide) (hdy:(y == ("__debug__" : Str))=false:=by decide) (he:starEach [a,.Name y py] X.env=(false,eval a X.env)::starEach [.Name y py] X.env:=by rfl) (he2:starEach [.Name y py] X.env=(false,eval (.Name y py) X.env)::starEach [] X.env:=by rfl) (hpl:(backTo pos (starEach [.Name y py] X.env)).any (·.1)=false:=by rfl):
  FE X E (.Call (.Name "isinstance" p) [a,.Name y py] [] pos) (De tab fa):=
 bc (oM Eh hg hm hv (dg ha (dg (Kq (v:=.ty T) hgy ht.1 hvy rfl hny hdy) jh he2) he) (by decide) (by decide) he hpl) λ_ _ _ h=>Lf (c:=.ty T) (cv:=.type T) rfl ht.2 h
end
section
def qz:List D->Option (List Bool)
 |[]=>some []
 | .bl b::ds=>(qz ds).map (b::·)
 |_::_=>none
theorem xW:∀{vs:List V} {ds:List D} {bs:List Bool},DVs G O H vs ds->qz ds=some bs->vs=bs.map V.bl
 |_,_,_,.nil,e=>by cases e;rfl
 |_,_,_,.cons (d:=d) h hs,e=>by
  cases d with
  |bl b=>
   obtain ⟨bs,e1,rfl⟩:=omap (by simpa [qz] using e);cases h;rw [xW hs e1];rfl
  |_=>cases e
def V1:List D->Option D
 |[.lst ds]=>(qz ds).map λbs=>.bl (bs.all id)
 |_=>none
def RT:List D->Option D
 |[.lst ds]=>(qz ds).map λbs=>.bl (bs.any id)
 |_=>none
end
section
theorem xO:∀{bs:List Bool} {us:List Value},Vals (bs.map V.bl) us->LSm.BoolsAre us bs
 |[],_,.nil=>.nil
 |b::bs,_,.cons r t=>by cases r;exact .cons b (xO t)
theorem DK (hc:X.calm=true):fB X (.builtin "any") (rGC (gx X) RT):=by
 intro pins s σ H xs us Q I r h;obtain ⟨O,ds,d,m,hx,hr,q⟩:=h
 match ds,hr with
 |[.lst ds],hr=>
  obtain ⟨bs,e1,rfl⟩:=omap hr;obtain ⟨v,rfl,hv⟩:=oH hx;obtain ⟨p,xs,rfl,hp,hd⟩:=jl hv
  have:=xW hd e1
  subst this;obtain ⟨u,rfl,rx⟩:=vals1 r;cases rx;obtain ⟨wa,r',pl,hz⟩:=I.list hp;have ba:=xO r';have li:=pl.isList;have lt1:p<s.heap.objs.size:=by obtain ⟨_,e,_⟩:=li;exact Heap.lt_size e
  refine call_any_walk (wpAny_pyIter_list li ?_);refine ⟨s.heap.objs.size,[s.heap.objs.size,p],[s.heap.objs.size],wa.toArray.size,_,_,λi=>(bs[i]?).getD false,rfl,Walks.list (A:=X.A.in1) (I.ok.hd hc) _ p (Nat.ne_of_lt lt1) wa.toArray,
   ⟨⟨_,Heap.get?_push_size _ rfl,rfl,rfl⟩,li.push _⟩,λi v sn Qn En pv qv=>?_,λh' tk kp=>?_⟩
  ·obtain ⟨b,e,rfl⟩:=ba.get i v (by simpa using pv);simp only [e,Option.getD_some] at qv;exact wpAny_truthy_bool qv
  ·have e:((List.range wa.toArray.size).any λi=>(bs[i]?).getD false)=bs.any id:=by
    rw [List.size_toArray,ba.length];exact LSm.range_any bs
   rw [e];exact ⟨.bl _,H,I.kept (LSm.kept_iter kp),rfl,q _ _ (aH.refl _) (.bl _)⟩
end
def Ite (K:W.Frag)(a:Addr):It:=
 ⟨λi H=>∃xs x,SqL K H a xs/\xs[i]? = some x,λi H x H'=>∃y l,(∀xs,SqL K H a xs->xs[i]? = some y)/\x=.ref l/\H l=none/\H'=upd H l (.tup [.int i,y]),λi H=>∃xs,SqL K H a xs/\xs.length<=i⟩
theorem ux {X:Cx}{pins:Zo}{σ:L2.St}{H:Hp}{s:Shared}{e it:Addr}{h':Heap}{oe oi:Obj}(I:Inv X pins σ H s)(fe:o4 X pins H e)(fi:o4 X pins H it)(hne:e≠it)
  (he:∃o,s.heap.get? e=some o) (hi:∃o,s.heap.get? it=some o) (he':h'.get? e=some oe) (hi':h'.get? it=some oi) (de:oe.isFreed=false) (di:oi.isFreed=false)
  (k:∀b o,b≠e->b≠it->s.heap.get? b=some o->h'.get? b=some o):∃h1,Inv X pins σ H { s with heap:=h1 }/\h1.objs.size=s.heap.objs.size/\∀b u,h1.get? b=some u->h'.get? b=some u:=by
 obtain ⟨o1,he⟩:=he;obtain ⟨o2,hi⟩:=hi;obtain ⟨f0,f1,f2,f3,f4,f5⟩:=fe;obtain ⟨g0,g1,g2,g3,g4,g5⟩:=fi;have I1:Inv X pins σ H { s with heap:=s.heap.update e λ_=>oe }:=I.turned (t':=s.toks) (λb o hb x=>(Heap.get?_update_other _ _ (Ne.symm hb)).trans x) f0 f1 f3 f4 f5;have I2:Inv X pins σ H { s with heap:=(s.heap.update e λ_=>oe).update it λ_=>oi }:=I1.turned (t':=s.toks) (λb o hb x=>(Heap.get?_update_other _ _ (Ne.symm hb)).trans x) g0 g1 g3 g4 g5;refine ⟨_,I2,?_,λb u x=>?_⟩
 ·rw [(Heap.SameBut.update _ _ _).1,(Heap.SameBut.update _ _ _).1]
 ·by_cases z:b=it
  ·subst z;rw [Heap.get?_update_self (λ_=>oi) ((Heap.get?_update_other _ _ hne).trans hi) di] at x;cases x;exact hi'
  ·rw [Heap.get?_update_other _ _ (Ne.symm z)] at x;by_cases y:b=e
   ·subst y;rw [Heap.get?_update_self (λ_=>oe) he de] at x;cases x;exact he'
   ·rw [Heap.get?_update_other _ _ (Ne.symm y)] at x;exact k b u y z x
theorem tY {o:Obj}{vs:Array Value}(d:o.data=.fields vs):o.isFreed=false:=by
 obtain ⟨c,dd,da,sl⟩:=o;cases (show da=.fields vs from d);rfl
theorem Fb {P:Program}{w:World}{K:W.Frag}{elts:List Expr}{x1}{pos:Pos}(a e it:Addr)(hne:e≠it):
  Turn P w K (.Tuple elts x1 pos) (Ite K a) [e,it] e (λi h=>(∃old,IsEnum h e it i old)/\h.IsListIter it a i) where
 mem:=by simp
 obj:=λi h st b hb=>by
  obtain ⟨⟨old,q1⟩,q2⟩:=st;have eb:b=e\/b=it:=by simpa using hb
  rcases eb with rfl | rfl
  ·exact ⟨_,q1,λv z=>by cases (show Data.fields _=Data.cell v from z)⟩
  ·obtain ⟨o,e',c,d⟩:=q2;exact ⟨o,e',λv z=>by rw [d] at z;cases z⟩
 keep:=λi h h' st k=>by
  obtain ⟨⟨old,q1⟩,q2⟩:=st;exact ⟨⟨old,k e (by simp) _ q1⟩,q2.at λo x=>k it (by simp) o x⟩
 item:=by
  intro X hP hw hK hc i pins s σ H E I hf st hg;subst hP hw hK;obtain ⟨xs,x,hq,hx⟩:=hg;obtain ⟨⟨old,q1⟩,q2⟩:=st;obtain ⟨its,rv,p,hz⟩:=I.list hq;obtain ⟨u,hu,ru⟩:=rv.get hx;have fe:=hf e (by simp);have fi:=hf it (by simp);refine wpAny_pyNext_enum_item q1 q2 p.isList (x:=u) (by simpa using hu) hne λh' eo il ht hsz k=>?_;obtain ⟨oi,ei,ci,di⟩:=id il;obtain ⟨oj,ej,cj,dj⟩:=id q2;obtain ⟨h1,I1,z1,k1⟩:=ux I fe fi hne ⟨_,q1⟩ ⟨_,ej⟩ eo ei rfl (tY di) k;have I2:Inv X pins σ (upd H s.heap.objs.size (.tup [.int i,x])) { s with heap:=h',toks:=s.toks+1 }:=
   I1.laid (t':=s.toks+1) k1 (Nat.le_of_eq z1) (show cI X.prog X.w _ _ _ (.tup [.int i,x]) from ⟨(show 2<=sizeLine by decide),[.int i s.toks,u],.cons ⟨s.toks,rfl⟩ (.cons ru .nil),⟨_,ht,rfl,_,rfl⟩⟩)
  have fr:H s.heap.objs.size=none:=I.hok.fresh (Nat.le_refl _);have ne1:e≠s.heap.objs.size:=Nat.ne_of_lt (Heap.lt_size q1);have ne2:it≠s.heap.objs.size:=Nat.ne_of_lt (Heap.lt_size ej);have nn:∀b,b≠s.heap.objs.size->H b=none->upd H s.heap.objs.size (.tup [.int i,x]) b=none:=λb z y=>by rw [aV z];exact y
  refine ⟨_,rfl,wpAny_letOwnedTupleGo_enum eo λh2 e2 sb=>?_⟩;obtain ⟨f0,f1,f2,f3,f4,f5⟩:=fe;refine ⟨.ref s.heap.objs.size,_,I2.turned (t':=s.toks+1) (λb o hb y=>(sb.2 b hb).trans y) (nn e ne1 f0) f1 f3 f4 f5,rfl,⟨x,_,λys hy=>by rw [I.yP hy hq];exact hx,rfl,fr,rfl⟩,⟨⟨_,e2⟩,il.at λo y=>(sb.2 it (Ne.symm hne)).trans y⟩,λb hb=>?_⟩;have eb:b=e\/b=it:=by simpa using hb
  rcases eb with rfl | rfl
  ·exact nn _ ne1 f0
  ·exact nn _ ne2 fi.1
 done:=by
  intro X hP hw hK hc i pins s σ H E I hf st hg;subst hP hw hK;obtain ⟨xs,hq,hx⟩:=hg;obtain ⟨⟨old,q1⟩,q2⟩:=st;obtain ⟨its,rv,p,hz⟩:=I.list hq;obtain ⟨f0,f1,f2,f3,f4,f5⟩:=hf it (by simp);have hl:=rv.length;exact wpAny_pyNext_enum_end (I.ok.hd hc) q1 q2 p.isList (by simp;omega) λh' eb=>⟨rfl,I.turned (t':=s.toks) (λb o hb y=>eb b o hb y) f0 f1 f3 f4 f5⟩
 self:=λ_ _ _ _ _ st h=>by
  obtain ⟨⟨old,q1⟩,q2⟩:=st;exact wpAny_pyIter_enum q1 h
section
variable {X:Cx}{tg:Expr}
def R7 (K:W.Frag)(ta:TA):TI:=λσ H R=>ta σ H λvs H1=>∃p,vs=[.ref p]/\(∃xs,SqL K H1 p xs)/\R (Ite K p) H1
theorem Kz {elts:List Expr}{x1}{pt:Pos}{a:Expr}{ta:TA}{p pos:Pos}(hg:Gl X "enumerate")(hm:X.mg "enumerate" = none)(ha:PA X [a] ta)(hs:starEach [a] X.env=[(false,eval a X.env)]:=by rfl):PI X (.Tuple elts x1 pt) (.Call (.Name "enumerate" p) [a] [] pos) (R7 X.K ta):=by
 intro pins s σ H R I h;refine Call_ (mK I hg hm boot_enumerate (PyProof.Rows.callWith_type1 (thn (ha pos pins s σ H _ I h) λus s1 hE=>xq2 hE λvs H1 I1 r1 q1=>?_) hs rfl));obtain ⟨l,e,⟨xs,hq⟩,q⟩:=q1;subst e;obtain ⟨u,rfl,rx⟩:=vals1 r1;cases rx;obtain ⟨its,rv,pl,hz⟩:=I1.list hq;refine call_enumerate_list pl.isList λh' e1 e2 sz k=>?_;have I2:Inv X pins σ H1 { s1 with heap:=h' }:=I1.kept (t':=s1.toks) k;refine wpAny_pyIter_enum (s:={ s1 with heap:=h' }) e1 ?_;refine ⟨_,[s1.heap.objs.size+1,s1.heap.objs.size],_,_,H1,rfl,I2,Fb l _ _ (Nat.succ_ne_self _),⟨⟨_,e1⟩,e2⟩,λb hb=>?_,q⟩;have eb:b=s1.heap.objs.size+1\/b=s1.heap.objs.size:=by simpa using hb
 have hb':s1.heap.objs.size<=b:=eb.elim (λz=>by rw [z];exact Nat.le_succ _) λz=>Nat.le_of_eq z.symm;exact I1.FJ hb' (I1.hok.fresh hb')
def lV (ds:List D):List D:=ds.mapIdx λi d=>.tup [.int i,d]
theorem mX (ds:List D):(lV ds).length=ds.length:=by simp [lV]
theorem MK {G:Gx}{H:Hp}{a:Addr}{ds:List D}{P:(Za)->Hp->Prop}(h:∀O' H2,P O' H2->∃xs,SqL G.K H2 a xs/\DVs G O' H2 xs ds):qQ G (Ite G.K a) (lV ds) P:=by
 intro O' H2 ev;obtain ⟨xs,hq,hd⟩:=h O' H2 ev;have hlen:=bx hd;refine ⟨λi hi=>⟨xs,xs[i]'(by rw [mX] at hi;omega),hq,by simp⟩,λi x H' hi y=>?_,xs,hq,by rw [mX];omega⟩;obtain ⟨y,l,h1,rfl,fr,rfl⟩:=y;obtain ⟨d,e1,e2⟩:=lK hd (h1 xs hq);exact ⟨aR fr _,.tup [.int i,d],by simp [lV,List.getElem?_mapIdx,e1],.tup (SqU.of aU) (.cons (.int _) (.cons (e2.mono (aR fr _)) .nil))⟩
def Pr (f:Ze):Ze:=λm=>(f m).bind λd=>match d with
 |[.lst ds]=>.ok (lV ds)
 |_=>.stuck
theorem Gr {E:XK}{fs:Ze}{elts:List Expr}{x1}{pt:Pos}{a:Expr}{p pos:Pos}(hg:Gl X "enumerate")(hm:X.mg "enumerate" = none)(ha:FAB X E [a] fs)(hs:starEach [a] X.env=[(false,eval a X.env)]:=by rfl):FIw X E (.Tuple elts x1 pt) (.Call (.Name "enumerate" p) [a] [] pos) (Pr fs):=
 jU (Kz hg hm ha hs) λσ H R hE=>xq5 hE λO0 M0 H0 ow m Re q=>⟨O0,M0,H0,ow,m,Re,q.bind.imp (aH.refl _) λds q vs H' g hv=>by
  have z:∃xs,ds=[.lst xs]:=by
   cases ds with
   |nil=>exact q.elim
   |cons d ds=>cases d with
    |lst xs=>cases ds with
     |nil=>exact ⟨xs,rfl⟩
     |cons _ _=>exact q.elim
    |_=>exact q.elim
  obtain ⟨ds,rfl⟩:=z;cases hv with
  |cons h1 h2=>
   cases h2;obtain ⟨l,xs,rfl,hl,hd⟩:=jl h1;exact ⟨_,rfl,⟨_,hl⟩,q _ H' g (MK (H:=H') λO' H2 ⟨sub,g2⟩=>⟨_,yu hl g2,hd.go (Re.mono g).mutk ⟨sub,.of g2⟩⟩)⟩⟩
end
theorem HB:typeLookup (.type "list_reverseiterator") "__len__" = pure none:=by rfl
theorem Nv:typeLookup (.type "list_reverseiterator") "__length_hint__" = pure (some (.builtin "list_reverseiterator.__length_hint__")):=by rfl
section
variable {pr:Program}{wo:World}{A:Around}{s:Shared}{R:Result->Shared->Prop}
variable {St:Nat->Shared->Prop}{P:Nat->Value->Prop}{n:Nat}{I:Addr}{fp wr:List Addr}{G:Array GenState->Array GenState->Prop}
theorem Kv (W:WalksS pr wo A.in1 I fp wr G n P St)(ty:∀i s,St i s->s.TypeIs (.ref I) "list_reverseiterator")(S:Addr)(res:Value)(c:Nat)(st:St 0 s)(nf:S∉fp)(mi:I∈fp)
  (oS:s.heap.get? S=some { cls:=.type "list",data:=.seq #[] c })
  (fin:∀s' ac c',Moved (S::wr) G s s'->s'.heap.get? S=some { cls:=.type "list",dict:=none,data:=.seq ac c',slots:=#[] }->ItemsOf P ac n->R (.ok (.ret res)) s') (hn:n<=sizeLine):
  wpAny (model pr wo) A.in1 (Builtin.List.listExtendWith (.ref S) (.ref I) res)
   (λf t=>match f with | .done f=>R (.ok f) t | .again c'=>c'.quiet=true/\codeAny (model pr wo) A c' R t) (λe t=>R (.error e) t) s:=by
 have ne:S≠I:=λe=>nf (e ▸ mi);have sr:Builtin.List.listSameRef (.ref S) (.ref I)=false:=by simp [Builtin.List.listSameRef,ne]
 unfold Builtin.List.listExtendWith;refine wpAny_bind (wpAny_typeOf (ty 0 _ st) ?_);rw [if_neg (by rw [sr];decide)];refine wpAny_bind (W.self 0 _ _ _ st (wpAny_bind (wpAny_holding ?_)));unfold Builtin.List.listLengthHint;refine wpAny_bind (wpAny_specialOf (ty 0 _ st) HB ?_);show wpAny (model pr wo) A.in1 (specialOf (Value.ref I) (Str.ofString "__length_hint__") >>= _) _ _ _;refine wpAny_bind (wpAny_specialOf (ty 0 _ st) Nv ?_);generalize hid:("list_reverseiterator.__length_hint__" : String)=id0
 wp_delta
 rw [show splitId id0=some ("list_reverseiterator", "__length_hint__") from by subst hid;decide +kernel];subst hid;refine wpAny_bind (wpAny_isInstance (b:=true) (ty 0 _ st) (by rw [isSubtype_type];kernel_rfl) (wpAny_pure ?_));rw [if_neg (by decide)];exact wpAny_pure ⟨plainId_quiet F.plain_extend_loop _,codeAny_extend_loopS W hn _ nf _ n 0 _ _ _ rfl (Nat.zero_le _) st oS (ItemsOf.nil P) fin⟩
end
section
theorem Fe {items:Array Value}(h:ItemsOf (λi v=>items[items.size - 1-i]? = some v) ac items.size):ac=items.reverse:=by
 obtain ⟨z,h⟩:=h;refine Array.ext (by simp [z]) λi h1 h2=>?_
 have:=h i ac[i] (by simp)
 rw [Array.getElem_reverse];obtain ⟨_,e⟩:=Array.getElem?_eq_some_iff.mp this;exact e.symm
theorem uT {items:Array Value}(hh:A.handled=none)(li:s.heap.IsList l items)(ri:s.heap.IsRevIter I l ((items.size:Int) - 1))(ne:l≠I)(hn:items.size<=sizeLine)
  (fin:∀t tk c,(∀b o,b≠I->s.heap.get? b=some o->t.get? b=some o)->t.get? s.heap.objs.size=some { cls:=.type "list",dict:=none,data:=.seq items.reverse c,slots:=#[] }->Q (.ref s.heap.objs.size) { s with heap:=t,toks:=tk }):
  wpAny (model pr wo) A (call (.type "list") [.ref I]) Q E s:=by
 obtain ⟨oi,ei,ci,di⟩:=id ri;obtain ⟨ol,el,cl⟩:=id li;have ltI:I<s.heap.objs.size:=Heap.lt_size ei;have ltl:l<s.heap.objs.size:=Heap.lt_size el;have nf:s.heap.objs.size∉[I,l]:=λhm=>by
  rcases List.mem_cons.mp hm with z | z
  ·exact Nat.ne_of_gt ltI z
  ·exact Nat.ne_of_gt ltl (List.mem_singleton.mp z)
 have W:=(Walks.listRev (prog:=pr) (w:=wo) (A:=A.in1.in1) hh I l ne items).toS;refine callType_codes (Q₁:=λo t=>o=.ref s.heap.objs.size/\t={ s with heap:=s.heap.push { cls:=.type "list",data:=.seq #[] } }) F.called_list (F.typeCall_list_1 _) F.entry_list_init (code_list_new _ ⟨rfl,rfl⟩) λo t ht=>?_;obtain ⟨rfl,rfl⟩:=ht;have oS:(s.heap.push { cls:=.type "list",data:=.seq #[] }).get? s.heap.objs.size=some { cls:=.type "list",data:=.seq #[] }:=Heap.get?_push_size _ rfl;refine ⟨⟨_,oS,rfl⟩,F.args_list_init_2 _ _,?_⟩;show wpAny (model pr wo) A.in1.in1 (do let old ← Builtin.List.listItems (.ref s.heap.objs.size);Builtin.List.listUpdate (.ref s.heap.objs.size) (λ_=>#[]);letGo old.toList.reverse;Builtin.List.listExtendWith (.ref s.heap.objs.size) (.ref I) .none) _ _ _;refine wpAny_bind ?_;unfold Builtin.List.listItems;refine wpAny_bind (wpAny_seqItems oS rfl (wpAny_pure ?_));refine wpAny_bind (m:=updateSeq s.heap.objs.size (λ_=>#[])) (wpAny_updateSeq oS rfl ?_);have oS2:=Heap.get?_update_self (Obj.mapSeq (λ_=>(#[]:Array Value))) oS rfl;refine wpAny_bind (wpAny_letGo ?_);have kp:∀b o,b≠s.heap.objs.size->s.heap.get? b=some o->((s.heap.push { cls:=.type "list",data:=.seq #[] }).update s.heap.objs.size (Obj.mapSeq (λ_=>(#[]:Array Value)))).get? b=some o:=
  λb o hb e=>(Heap.get?_update_other _ _ (Ne.symm hb)).trans (Heap.get?_push_of_some _ e)
 have st0:(0:Nat)<=items.size/\s.heap.IsRevIter I l ((items.size:Int) - 1-((0:Nat):Int))/\s.heap.IsList l items:=⟨Nat.zero_le _,by simpa using ri,li⟩;refine Kv W (λi t x=>x.2.1.typeIs) _ .none _ ⟨st0.1,st0.2.1.at λo e=>kp I o (Nat.ne_of_lt ltI) e,st0.2.2.at λo e=>kp l o (Nat.ne_of_lt ltl) e⟩ nf (by simp) oS2 (λt ac c mv oS3 it=>?_) hn;refine ⟨rfl,?_⟩;rw [Moved.eq_with mv];rw [Fe it] at oS3;exact fin _ _ c (λb o hb e=>mv.heap b o (λhm=>by
  rcases List.mem_cons.mp hm with z | hm
  ·exact Nat.lt_irrefl _ (z ▸ Heap.lt_size e)
  ·exact hb (List.mem_singleton.mp hm)) (kp b o (Nat.ne_of_lt (Heap.lt_size e)) e)) oS3
end
section
theorem wQ:bootBuiltins "list" = some (.type "list"):=by decide +kernel
theorem Qp:bootBuiltins "reversed" = some (.type "reversed"):=by decide +kernel
def Us (K:W.Frag):List V->Hp->VK->Prop:=λxs H Q=>∃p ys,xs=[.ref p]/\SqL K H p ys/\∀l,H l=none->Q (.ref l) (upd H l (.lst ys.reverse))
theorem Lx (hc:X.calm=true)(hg:Gl X "list")(hm:X.mg "list" = none)(hg':Gl X "reversed")(hm':X.mg "reversed" = none)(ha:PA X [e] ta)
  (hs:starEach [e] X.env=[(false,eval e X.env)]:=by rfl) (hs':starEach [.Call (.Name "reversed" p') [e] [] pos'] X.env=[(false,eval (.Call (.Name "reversed" p') [e] [] pos') X.env)]:=by rfl):
  PE X (.Call (.Name "list" p) [.Call (.Name "reversed" p') [e] [] pos'] [] pos) (tCB (Us X.K) ta):=by
 intro pins s σ H Q I h;refine wpAny_Call_Name_kw (mK I hg hm wQ (PyProof.Rows.callWith_type1 ?_ hs' rfl));rw [hs'];refine Calls.spliced_cons (wpAny_Call_Name_kw (mK I hg' hm' Qp (PyProof.Rows.callWith_type1 (thn (ha pos' pins s σ H _ I h) λus s1 hE=>xq2 hE λvs H1 I1 r1 q1=>?_) hs rfl)));obtain ⟨l,ys,rfl,hq,q⟩:=q1;obtain ⟨u,rfl,rx⟩:=vals1 r1;cases rx;obtain ⟨its,rv,pl,hz⟩:=I1.list hq;have hlen:=rv.length;refine call_reversed_list pl.isList (Calls.spliced_nil ?_);have el:l<s1.heap.objs.size:=by obtain ⟨_,e,_⟩:=pl.isList;exact Heap.lt_size e
 refine uT (s:={ s1 with heap:=s1.heap.push (revObj l ((its.toArray.size:Int) - 1)) }) (I1.ok.hd hc) (pl.isList.push _) ⟨_,Heap.get?_push_size _ rfl,rfl,rfl⟩ (Nat.ne_of_lt el) (by simp only [List.size_toArray]<;>omega) λt tk c kp oS=>?_;have sz:s1.heap.objs.size<=(s1.heap.push (revObj l ((its.toArray.size:Int) - 1))).objs.size:=by rw [Heap.size_push];exact Nat.le_succ _
 refine ⟨.ref _,_,I1.laid (t':=tk) (λb o e=>kp b o (Nat.ne_of_lt (Heap.lt_size e)) (Heap.get?_push_of_some _ e)) sz (show cI X.prog X.w _ t _ (.lst ys.reverse) from ⟨by simp;omega,its.reverse,c,rv.reverse,by simpa using oS⟩),rfl,q _ (I1.hok.fresh sz)⟩
def G8:List D->Option D
 |[.lst ds]=>some (.lst ds.reverse)
 |_=>none
theorem Nm (hc:X.calm=true)(hg:Gl X "list")(hm:X.mg "list" = none)(hg':Gl X "reversed")(hm':X.mg "reversed" = none)(ha:FAB X E [e] fs)
  (hs:starEach [e] X.env=[(false,eval e X.env)]:=by rfl) (hs':starEach [.Call (.Name "reversed" p') [e] [] pos'] X.env=[(false,eval (.Call (.Name "reversed" p') [e] [] pos') X.env)]:=by rfl):
  FN X E (.Call (.Name "list" p) [.Call (.Name "reversed" p') [e] [] pos'] [] pos) (aM G8 fs):=
 bc (Lx hc hg hm hg' hm' ha hs hs') λσ H Q h=>by
  obtain ⟨O0,M0,H0,ow,m,R,q⟩:=h;refine ⟨O0,M0,H0,ow,m,R,q.bind.imp (aH.refl _) λds q vs H1 g1 hv=>?_⟩;obtain ⟨r,hr,k⟩:=q.ofO
  match ds,hr with
  |[.lst ds],hr=>
   cases hr;obtain ⟨v,rfl,hw⟩:=oH hv;obtain ⟨l,xs,rfl,hp,hd⟩:=jl hw;exact ⟨l,xs,rfl,hp,λb hb=>k b _ (g1.trans (aR hb _)) (g1.free hb) ⟨_,aU,((Aj hd).bU λc z=>z.elim .inl λe=>.inr (by rw [e];exact hb)).mono (aR hb _)⟩⟩
end
section
end
theorem ints_of:∀{ns:List Int} {us:List Value},Vals (ns.map V.int) us->∃xs:Array (Int×Tok),us.toArray=intItems xs/\xs.toList.map (·.1)=ns
 |[],_,.nil=>⟨#[],by simp [intItems],rfl⟩
 |n::ns,_,.cons r t=>by
  obtain ⟨xs,e1,e2⟩:=ints_of t;obtain ⟨k,rfl⟩:=r;refine ⟨#[(n,k)]++xs,?_,by simp [e2]⟩;have e3:=congrArg Array.toList e1;apply Array.toList_inj.mp;simp [intItems] at e3 ⊢;exact e3
def Qx:List D->Option D
 |[.lst ds]=>(uD ds).map λns=>.int ns.sum
 |_=>none
section
theorem Dw (hc:X.calm=true):fB X (.builtin "sum") (rGC (gx X) Qx):=by
 intro pins s σ H xs us Q I r h;obtain ⟨O,ds,d,m,hx,hr,q⟩:=h
 match ds,hr with
 |[.lst ds],hr=>
  obtain ⟨ns,e1,rfl⟩:=omap hr;obtain ⟨v,rfl,hv⟩:=oH hx;obtain ⟨p,xs,rfl,hp,hd⟩:=jl hv
  have:=qY hd e1
  subst this;obtain ⟨u,rfl,rx⟩:=vals1 r;cases rx;obtain ⟨its,r',pl,hz⟩:=I.list hp;obtain ⟨ys,e2,e3⟩:=ints_of r';refine sum_intListG (I.ok.hd hc) (xs:=ys) (e2 ▸ pl.isList) λh' tk t' kp=>?_;have e4:preSum (numAt ys) ys.size=ns.sum:=by rw [preSum_eq,List.take_of_length_le (by simp),e3]
  rw [e4];exact ⟨.int _,H,I.kept kp,⟨t',rfl⟩,q _ _ (aH.refl _) (.int _)⟩
end
theorem vB (h:DV G O H v d):∀{vs:List V} {ds:List D} (j:Nat),DVs G O H vs ds->DVs G O H (vs.set j v) (ds.set j d)
 |_,_,_,.nil=>.nil
 |_,_,0,.cons _ t=>.cons h t
 |_,_,j+1,.cons a t=>.cons a (vB h j t)
section
theorem Jz (i:Nat)(he:FE X E e f)(hk:FE X E ke fk)(hN:X.N[i]? = some x:=by rfl)(hv:Vis X.env.scope x:=by first | exact Or.inl rfl | exact Or.inr (Or.inl rfl) | exact Or.inr (Or.inr rfl))(hd:(x == ("__debug__" : Str))=false:=by decide)(hcd:(x == ("__classdict__" : Str))=false:=by decide)
  (ha:∀v,assign (.Subscript (.Name x np) ke spos) X.env v=(do
   let ov ← holding [v] (eval (.Name x np) X.env)
   let iv ← holding [v,ov] (eval ke X.env)
   standAt spos
   holding [v,ov,iv] (setItem ov iv v)
   release [v,ov,iv] []):=by intro _;rfl)
  (hs:swapsWithSole [.Subscript (.Name x np) ke spos] e pos.line X.env=pure false:=by rfl) (hw:swappedStores [.Subscript (.Name x np) ke spos] e X.env=pure none:=by rfl)
  (h1:(assignEach [.Subscript (.Name x np) ke spos] X.env).map (·.2)=[assign (.Subscript (.Name x np) ke spos) X.env]:=by rfl):FS X E (.Assign [.Subscript (.Name x np) ke spos] e pos) (zX i fk f):=
 cA (J4 he (PX (jk hN hv hd hcd) hk set_list ha) hs hw h1) λW σ H hE=>xq5 hE λO0 M0 H0 ow m R q=>
  ⟨O0,M0,H0,ow,m,R.toRel,(Ss.pu R.toRel q).imp (aH.refl _) λd q v H1 g1 hv=>by
   obtain ⟨o,ho,q⟩:=Ss.ofO q;obtain ⟨k,ds⟩:=o;have R1:=R.mono g1;obtain ⟨a,xs,e1,e2,e3,e4,e5⟩:=m9 R1.toRel ho;refine ⟨_,e2,O0,M0,H0,ow,m,R1.toRel,(Ss.pu R1.toRel (q.go (Go.refl g1))).imp (aH.refl _) λdk q vk H2 g2 hvk=>?_⟩;cases dk with
   |int n=>
    cases hvk;obtain ⟨j,hj,q⟩:=Ss.ofO q;have R2:=R1.mono g2;obtain ⟨R3,g3⟩:=R2.put (es:=ds.set j d) (ys:=xs.set j v) e1 e5 (vB (hv.mono g2) j (e4.mono g2));exact ⟨a,xs,n,j,rfl,rfl,g2 _ _ e3,by rw [bx e4];exact hj,q _ _ _ R3 ((Go.refl g2).trans g3)⟩
   |_=>exact q.elim⟩
end
def HY:D->Option Key
 | .int i=>some (.inl i)
 | .str z=>some (.inr z)
 |_=>none
def JH:List Key->List D->Key->Option D
 |k'::ks,d::ds,k=>if k'=k then some d else JH ks ds k
 |_,_,_=>none
def BK:List Key->List D->Key->D->List D
 |k'::ks,d'::ds,k,d=>(if k'=k then d else d')::BK ks ds k d
 |_,_,_,_=>[]
def putD (ks:List Key)(ds:List D)(k:Key)(d:D):List Key×List D:=if ks.any (λx=>decide (x=k))=true then (ks,BK ks ds k d) else (ks++[k],ds++[d])
theorem Hj (h:DW G O H v d)(e:HY d=some k):v=kV k:=by
 cases d with
 |int i=>cases e;cases bV h;rfl
 |str z=>cases e;cases jA h;rfl
 |_=>cases e
theorem KN:∀{kvs:List (Key×V)} {ds:List D},DVs G O H (kvs.map (·.2)) ds->
  (∃v d,kZ kvs k=some v/\JH (kvs.map (·.1)) ds k=some d/\DV G O H v d)\/(kZ kvs k=none/\JH (kvs.map (·.1)) ds k=none)
 |[],_,.nil=>.inr ⟨rfl,rfl⟩
 |(k',v)::kvs,_,.cons (d:=d) h hs=>by
  by_cases q:k'=k
  ·exact .inl ⟨v,d,mz q,by simp [JH,q],h⟩
  ·rw [mO (p:=(k',v)) q];simp only [List.map_cons,JH,if_neg q];exact KN hs
section
theorem mL (r:gW j A):A.units+16<cLine:=by have:=r.un;omega
end
theorem vK (k:Key)(v:V):∀kvs:List (Key×V),(kvs.map λkv=>if kv.1=k then (kv.1,v) else kv).map (·.1)=kvs.map (·.1)
 |[]=>rfl
 |p::kvs=>by
  rw [List.map_cons,List.map_cons,List.map_cons,vK k v kvs];split<;>rfl
theorem pQ (h:DV G O H v d):∀{kvs:List (Key×V)} {ds:List D},DVs G O H (kvs.map (·.2)) ds->DVs G O H ((kvs.map λkv=>if kv.1=k then (kv.1,v) else kv).map (·.2)) (BK (kvs.map (·.1)) ds k d)
 |[],_,.nil=>.nil
 |(k',v')::kvs,_,.cons h1 hs=>by
  simp only [List.map_cons,BK];split
  ·exact .cons h (pQ h hs)
  ·exact .cons h1 (pQ h hs)
theorem Ma (h:DV G O H v d)(hs:DVs G O H (kvs.map (·.2)) ds):
  (putK kvs k v).map (·.1)=(putD (kvs.map (·.1)) ds k d).1/\DVs G O H ((putK kvs k v).map (·.2)) (putD (kvs.map (·.1)) ds k d).2:=by
 have e:(kvs.any λkv=>decide (kv.1=k))=(kvs.map (·.1)).any λx=>decide (x=k):=by rw [List.any_map];rfl
 unfold putK putD;rw [e];split
 ·exact ⟨vK k v kvs,pQ h hs⟩
 ·exact ⟨by simp,by rw [List.map_append];exact gD hs (.cons h .nil)⟩
section
end
section
end
section
end
def VV:List D->Option D
 |[.int i,.int j]=>some (.int (if j<i then j else i))
 |_=>none
def N5:List D->Option D
 |[.int i,.int j]=>some (.int (if j > i then j else i))
 |_=>none
section
theorem Fp (hc:X.calm=true):fB X (.builtin "max") (rGC (gx X) N5):=by
 intro pins s σ H xs us Q I r h;obtain ⟨O,ds,d,m,hx,hr,q⟩:=h
 match ds,hr with
 |[.int i,.int j],hr=>
  cases hr;obtain ⟨v,w,rfl,hv,hw⟩:=UL hx;cases bV hv;cases bV hw;exact Gd hc pins s σ H _ us Q I r ⟨i,j,rfl,q _ _ (aH.refl _) (.int _)⟩
def uh:List D->Option D
 |[.bl b]=>some (.int (if b then 1 else 0))
 |[.str x]=>if x.length<=640 then (PySem.intText? x).map D.int else none
 |_=>none
theorem jw:fB X (.type "int") (rGC (gx X) uh):=by
 intro pins s σ H xs us Q I r h;obtain ⟨O,ds,d,m,hx,hr,q⟩:=h
 match ds,hr with
 |[.bl b],hr=>
  cases hr;obtain ⟨v,rfl,hv⟩:=oH hx;have e:v=.bl b:=by
   rcases hv with hv | ⟨_,_,_,z⟩
   ·cases hv;rfl
   ·exact z.elim
  subst e;obtain ⟨u,rfl,rx⟩:=vals1 r;cases rx;exact call_int_bool ⟨.int _,H,I.tok _,⟨_,rfl⟩,q _ _ (aH.refl _) (.int _)⟩
 |[.str x],hr=>
  obtain ⟨v,rfl,hv⟩:=oH hx;cases jA hv;have hr:(if x.length<=640 then (PySem.intText? x).map D.int else none)=some d:=hr;by_cases hl:x.length<=640
  ·rw [if_pos hl] at hr;obtain ⟨n,hn,rfl⟩:=omap hr;obtain ⟨u,rfl,rx⟩:=vals1 r;obtain ⟨t,rfl⟩:=rx;exact W.KIN.call_text hn hl ⟨.int n,H,I.tok _,⟨_,rfl⟩,q _ _ (aH.refl _) (.int _)⟩
  ·rw [if_neg hl] at hr;cases hr
end
section
end
section
end
def gj (f:D->Option Kt):List D->Option (List Kt)
 |[]=>some []
 |d::ds=>(f d).bind λk=>(gj f ds).map λks=>k::ks
def ktD:Nat->D->Option Kt
 |_,.int i=>some (.k (.inl i))
 |_,.str x=>some (.k (.inr x))
 |n+1,.tup ds=>(gj (ktD n) ds).map .t
 |_,_=>none
def ph:D->Option (List Kt)
 | .tup ds=>gj (ktD 7) ds
 |_=>none
def cU:List (List Kt)->List D->List Kt->Option D
 |k'::ks,d::ds,k=>if k'=k then some d else cU ks ds k
 |_,_,_=>none
def nF:List (List Kt)->List D->List Kt->D->List D
 |k'::ks,d'::ds,k,d=>(if k'=k then d else d')::nF ks ds k d
 |_,_,_,_=>[]
def nq (ks:List (List Kt))(ds:List D)(k:List Kt)(d:D):List (List Kt)×List D:=if ks.any (λx=>decide (x=k))=true then (ks,nF ks ds k d) else (ks++[k],ds++[d])
theorem xu (hf:∀{v d k},DV G O H v d->f d=some k->qb (KTp G.K) H n v k):∀{vs:List V} {ds:List D} {ks:List Kt},DVs G O H vs ds->gj f ds=some ks->kY (KTp G.K) H n vs ks
 |_,_,_,.nil,e=>by cases e;exact .nil
 |_,_,_,.cons (d:=d) (ds:=ds) h hs,e=>by
  have e:(f d).bind (λk=>(gj f ds).map λks=>k::ks)=some _:=e;obtain ⟨k,e1,e2⟩:=Option.bind_eq_some_iff.mp e;obtain ⟨ks,e3,rfl⟩:=omap e2;exact .cons (hf h e1) (xu hf hs e3)
theorem Oq:∀(n:Nat) {v:V} {d:D} {k:Kt},DV G O H v d->ktD n d=some k->qb (KTp G.K) H n v k
 |n,_,_,k,.int i,e=>by
  have:k=.k (.inl i):=by cases n<;>(rw [ktD] at e;exact (Option.some.inj e).symm)
  subst this;exact qb.k (x:=.inl i)
 |n,_,_,k,.str x,e=>by
  have:k=.k (.inr x):=by cases n<;>(rw [ktD] at e;exact (Option.some.inj e).symm)
  subst this;exact qb.k (x:=.inr x)
 |n+1,_,_,k,.tup h hs,e=>by
  rw [ktD] at e;obtain ⟨ks,e3,rfl⟩:=omap e;exact .t h (xu (λh e=>Oq n h e) hs e3)
 |0,_,_,k,.tup h hs,e=>by simp [ktD] at e
 |n,_,_,k,.non,e=>by cases n<;>simp [ktD] at e
 |n,_,_,k,.bl _,e=>by cases n<;>simp [ktD] at e
 |n,_,_,k,.adr _,e=>by cases n<;>simp [ktD] at e
 |n,_,_,k,.ins _ _ _ _ _ _,e=>by cases n<;>simp [ktD] at e
 |n,_,_,k,.exc _ _,e=>by cases n<;>simp [ktD] at e
 |n,_,_,k,.lst _ _,e=>by cases n<;>simp [ktD] at e
 |n,_,_,k,.dct _ _ _ _ _,e=>by cases n<;>simp [ktD] at e
 |n,_,_,k,.dcu _ _ _ _ _,e=>by cases n<;>simp [ktD] at e
 |n,_,_,k,.dcf _ _ _ _,e=>by cases n<;>simp [ktD] at e
theorem pg (h:DW G O H v d)(e:ph d=some k):∃b,v=.ref b/\TrT (KTp G.K) H b k:=by
 cases d with
 |tup ds=>
  obtain ⟨b,xs,rfl,hq,hd⟩:=rH h;exact ⟨b,rfl,xs,hq,xu (λh e=>Oq 7 h e) hd e⟩
 |_=>cases e
theorem rD:∀{kvs:List (List Kt×V)} {ds:List D},DVs G O H (kvs.map (·.2)) ds->
  (∃v d,kZ kvs k=some v/\cU (kvs.map (·.1)) ds k=some d/\DV G O H v d)\/(kZ kvs k=none/\cU (kvs.map (·.1)) ds k=none)
 |[],_,.nil=>.inr ⟨rfl,rfl⟩
 |(k',v)::kvs,_,.cons (d:=d) h hs=>by
  by_cases q:k'=k
  ·exact .inl ⟨v,d,mz q,by simp [cU,q],h⟩
  ·rw [mO (p:=(k',v)) q];simp only [List.map_cons,cU,if_neg q];exact rD hs
def dcK:D->Option (List (List Kt)×List D)
 | .dcu ks ds=>some (ks,ds)
 | .dcf ks ds=>some (ks,ds)
 |_=>none
theorem IW (h:DW G O H v d)(e:dcK d=some (ks,ds)):∃a kvs,v=.ref a/\Rd H a (.dT (KTp G.K) kvs)/\kvs.map (·.1)=ks/\DVs G O H (kvs.map (·.2)) ds:=by
 cases d with
 |dcu ks' ds'=>
  cases e;obtain ⟨p,kvs,ws,rfl,hp,e1,rfl,hd⟩:=Rr h;exact ⟨p,kvs,rfl,.inl hp,e1,hd⟩
 |dcf ks' ds'=>
  cases e;rcases h with h | ⟨_,_,_,h⟩
  ·cases h with
   |dcf e1 e2 e3 hs=>subst e3;exact ⟨_,_,rfl,.inr ⟨_,e1⟩,e2,hs⟩
  ·exact h.elim
 |_=>cases e
section
def yC (d k:D):Option D:=(dcK d).bind λc=>(ph k).bind (cU c.1 c.2)
theorem Od (hd:DVs G O H (kvs.map (·.2)) ds):(kZ kvs k).isSome=(cU (kvs.map (·.1)) ds k).isSome:=by
 rcases rD (k:=k) hd with ⟨_,_,a,b,_⟩ | ⟨a,b⟩<;>simp [a,b]
theorem Bw (hr:gW j X.A)(ha:FB X E a fa)(hb:FB X E b fb)(hs:Py b):FE X E (.Subscript a b pos) (aC yC fa fb):=
 bc (K5 (mL hr) ha hb hs) λσ H Q hE=>xq5 hE λO0 M0 H0 ow m R q=>two (r:=λx y H Q=>∃a v,x=.ref a/\KR X.K H a y (some v)/\Q v H) R (K:=λz H=>∀v H',aH H H'->DV (gx X) (Ow O0 ow) H' v z->Q v H') q (λ_ _ k g v H' g' d=>k v H' (g.trans g') d) λx y d e H' g hx hy q' R'=>by
  obtain ⟨r,hr,k⟩:=q'.ofO;obtain ⟨⟨ks,ds⟩,ec,hr⟩:=Option.bind_eq_some_iff.mp hr;obtain ⟨ky,e2,e3⟩:=Option.bind_eq_some_iff.mp hr;obtain ⟨p,kvs,rfl,hp,rfl,hd⟩:=IW hx ec;obtain ⟨b,rfl,hb⟩:=pg hy e2;rcases rD (k:=ky) hd with ⟨v,d,a,c,dv⟩ | ⟨a,c⟩
  ·have e3:cU (kvs.map (·.1)) ds ky=some r:=e3;rw [c] at e3;cases e3;exact ⟨p,v,rfl,.inr ⟨kvs,ky,b,hp,rfl,hb,a.symm⟩,k _ _ (aH.refl _) dv⟩
  ·have e3:cU (kvs.map (·.1)) ds ky=some r:=e3;rw [c] at e3;cases e3
def vO:Zl:=λ_=>.ok (.dcu [] [])
theorem Dt:FN X E (.Dict [] [] pos) vO:=bc Ka λσ H Q ⟨O0,M0,H0,ow,m,R,q⟩ p hp=>q p _ (aR hp _) hp ⟨[],[],aU,rfl,rfl,.nil⟩
end
theorem rT (k:List Kt)(v:V):∀kvs:List (List Kt×V),(kvs.map λkv=>if kv.1=k then (kv.1,v) else kv).map (·.1)=kvs.map (·.1)
 |[]=>rfl
 |p::kvs=>by
  rw [List.map_cons,List.map_cons,List.map_cons,rT k v kvs];split<;>rfl
theorem oG (h:DV G O H v d):∀{kvs:List (List Kt×V)} {ds:List D},DVs G O H (kvs.map (·.2)) ds->DVs G O H ((kvs.map λkv=>if kv.1=k then (kv.1,v) else kv).map (·.2)) (nF (kvs.map (·.1)) ds k d)
 |[],_,.nil=>.nil
 |(k',v')::kvs,_,.cons h1 hs=>by
  simp only [List.map_cons,nF];split
  ·exact .cons h (oG h hs)
  ·exact .cons h1 (oG h hs)
theorem Mg (h:DV G O H v d)(hs:DVs G O H (kvs.map (·.2)) ds):
  (putK kvs k v).map (·.1)=(nq (kvs.map (·.1)) ds k d).1/\DVs G O H ((putK kvs k v).map (·.2)) (nq (kvs.map (·.1)) ds k d).2:=by
 have e:(kvs.any λkv=>decide (kv.1=k))=(kvs.map (·.1)).any λx=>decide (x=k):=by rw [List.any_map];rfl
 unfold putK nq;rw [e];split
 ·exact ⟨rT k v kvs,oG h hs⟩
 ·exact ⟨by simp,by rw [List.map_append];exact gD hs (.cons h .nil)⟩
def vU (m:Me)(i:Nat):Option (Bool×List (List Kt)×List D):=match m[i]? with
 |some (.ow (.dcu ks ds))=>some (true,ks,ds)
 |some (.io (.dcu ks ds))=>some (false,ks,ds)
 |_=>none
def lU (m:Me)(i:Nat)(k:Bool)(ks:List (List Kt))(ds:List D):Me:=m.set i (if k then .ow (.dcu ks ds) else .io (.dcu ks ds))
section
theorem vV (R:Rel G O0 M0 H0 ow σ H m){i:Nat}{k:Bool}{ks:List (List Kt)}{ds:List D}(e:vU m i=some (k,ks,ds)):∃a kvs,ow i=some a/\σ[i]? = some (some (.ref a))/\H a=some (.dT (KTp G.K) kvs)/\kvs.map (·.1)=ks/\DVs G (Ow O0 ow) H (kvs.map (·.2)) ds/\((m[i]? = some (.ow (.dcu ks ds))/\k=true)\/(m[i]? = some (.io (.dcu ks ds))/\k=false)):=by
 unfold vU at e;split at e
 ·rename_i q;cases e;obtain ⟨a,e1,e2,e3,kvs,vs,e4,e5,rfl,e6⟩:=R.slot i _ q;exact ⟨a,kvs,e1,e3,e4,e5,e6,.inl ⟨q,rfl⟩⟩
 ·rename_i q;cases e;obtain ⟨a,e1,e2,e3,kvs,vs,e4,e5,rfl,e6⟩:=R.slot i _ q;exact ⟨a,kvs,e1,e3,e4,e5,e6,.inr ⟨q,rfl⟩⟩
 ·cases e
theorem cY.lU (R:cY G O0 M0 H0 ow σ H m)(ho:ow i=some a)(hm:(m[i]? = some (.ow (.dcu ks ds))/\k=true)\/(m[i]? = some (.io (.dcu ks ds))/\k=false))
  (hk:kvs.map (·.1)=ls) (hd:DVs G (Ow O0 ow) H (kvs.map (·.2)) es):cY G O0 M0 H0 ow σ (L2.upd H a (.dT (KTp G.K) kvs)) (F.lU m i k ls es)/\Go O0 ow H ow (L2.upd H a (.dT (KTp G.K) kvs)):=by
 have oa:Ow O0 ow a:=.inr ⟨i,ho⟩;have kp:Kp (Ow O0 ow) H (L2.upd H a (.dT (KTp G.K) kvs)):=λb u e n=>qx b u e λz=>n (z ▸ oa);have ov:OV G (Ow O0 ow) (L2.upd H a (.dT (KTp G.K) kvs)) a (.dcu ls es):=⟨kvs,_,L2.aU,hk,rfl,hd.kp R.mutk kp⟩;refine ⟨R.chg (d:=.dcu ks ds) (d':=.dcu ls es) ho qx ov ?_,Go.chg ho qx ov⟩;rcases hm with ⟨e,rfl⟩ | ⟨e,rfl⟩
 ·exact .inl ⟨e,rfl⟩
 ·exact .inr ⟨e,rfl⟩
end
def Jj (i:Nat)(fk fv:Zl):Zg:=λm=>(fv m).bind λd=>(ofO (vU m i)).bind λo=>(fk m).bind λk=>(ofO (ph k)).bind λk=>
 if o.2.1.length<sizeLine then .ok (.nx,lU m i o.1 (nq o.2.1 o.2.2 k d).1 (nq o.2.1 o.2.2 k d).2) else .stuck
section
theorem Lz (i:Nat)(hr:gW jj X.A)(he:FE X E e f)(hk:FE X E ke fk)(hN:X.N[i]? = some x:=by rfl)(hv:Vis X.env.scope x:=by first | exact Or.inl rfl | exact Or.inr (Or.inl rfl) | exact Or.inr (Or.inr rfl))(hd:(x == ("__debug__" : Str))=false:=by decide)(hcd:(x == ("__classdict__" : Str))=false:=by decide)
  (hs:swapsWith e (some (.Subscript (.Name x np) ke spos)) pos.line X.env=pure false:=by rfl):FS X E (.Assign [.Subscript (.Name x np) ke spos] e pos) (Jj i fk f):=
 cA (KH (mL hr) (jk hN hv hd hcd) hk he hs) λW σ H hE=>xq5 hE λO0 M0 H0 ow m R q=>
  ⟨O0,M0,H0,ow,m,R.toRel,(Ss.pu R.toRel q).imp (aH.refl _) λd q v H1 g1 hv=>by
   obtain ⟨o,ho,q⟩:=Ss.ofO q;obtain ⟨k,ks,ds⟩:=o;have R1:=R.mono g1;obtain ⟨a,kvs,e1,e2,e3,e4,e5,e6⟩:=vV R1.toRel ho;refine ⟨_,e2,O0,M0,H0,ow,m,R1.toRel,(Ss.pu R1.toRel (q.go (Go.refl g1))).imp (aH.refl _) λdk q vk H2 g2 hvk=>?_⟩;obtain ⟨ky,h1,q⟩:=Ss.ofO q;obtain ⟨b,rfl,hb⟩:=pg (.inl hvk) h1;by_cases hz:ks.length<sizeLine
   ·rw [if_pos hz] at q;have R2:=R1.mono g2;obtain ⟨p1,p2⟩:=Mg (k:=ky) (hv.mono g2) (e5.mono g2);rw [e4] at p1 p2;obtain ⟨R3,g3⟩:=R2.lU e1 e6 p1 p2;exact ⟨a,_,rfl,Ij.t (g2 _ _ e3) hb (by rw [← List.length_map (f:=(·.1)),e4];exact hz),q _ _ _ R3 ((Go.refl g2).trans g3)⟩
   ·rw [if_neg hz] at q;exact q.elim⟩
end
section
end
section
end
def La (i:Nat)(k:Zg):Zg:=λm=>match m[i]? with
 |some (.ow (.dcu ks ds))=>k (m.set i (.fz (.dcf ks ds)))
 |_=>.stuck
section
variable {X:Cx}{E:XK}{rest:List Stmt}{k:Zg}
theorem NZ (I:Inv X pins σ H s)(e:H a=some (.dT (KTp X.K) kvs)):∃o,Inv X pins σ (L2.upd H a (.frz o (.dT (KTp X.K) kvs))) s:=by
 have ok:=I.hok a _ e;obtain ⟨z,y,xs,r,o,es,ep,h1,rest⟩:=id ok;refine ⟨o,I.write (x:=a) (e:=a) (t':=s.toks) (h':=s.heap) (by rw [e];exact True.intro) (.inl rfl) (λb u _ q=>q) ⟨o,h1⟩ ⟨h1,?_⟩⟩;refine ok.stay (λ_ _ _ q=>q) (λb q=>?_) λb ys q=>?_
 ·rw [aV (xZ q e (λz=>nomatch z))];exact q
 ·rw [aV (xZ q e (λz=>nomatch z))];exact q
theorem M8 (i:Nat)(h:FSs X E rest k):FSs X E rest (La i k):=by
 intro pins s σ H W I ⟨O0,M0,H0,ow,m,R,q⟩;unfold La at q;split at q
 ·rename_i ks ds z;obtain ⟨a,h1,h2,h3,kvs,vs,e,e1,e2,hs⟩:=R.slot i _ z;obtain ⟨o,I'⟩:=NZ I e;have oa:Ow O0 ow a:=.inr ⟨i,h1⟩;have kp:Kp (Ow O0 ow) H (L2.upd H a (.frz o (.dT (KTp X.K) kvs))):=λb u eb n=>by
   have nb:b≠a:=λw=>n (by rw [w];exact oa);rw [aV nb];exact eb
  have na:∀b,Ow O0 (owS ow i none) b->b≠a:=λb w eb=>by
   subst eb;rcases w with w | ⟨j,w⟩
   ·exact R.no0 i _ h1 w
   ·by_cases ej:j=i
    ·subst ej;rw [b8] at w;cases w
    ·rw [b7 ej] at w;exact ej (R.inj j i _ w h1)
  have ev:Ev (Ow O0 ow) H (Ow O0 (owS ow i none)) (L2.upd H a (.frz o (.dT (KTp X.K) kvs))):=⟨λb w=>.inl w.sub,kp⟩;have hi:=wU z;have R2:cY (gx X) O0 M0 H0 (owS ow i none) σ (L2.upd H a (.frz o (.dT (KTp X.K) kvs))) (m.set i (.fz (.dcf ks ds))):=by
   refine ⟨⟨by simp [R.len],λb u eb n=>?_,λb w=>?_,λb w=>?_,λj b eb=>?_,λj l b e1 e2=>?_,λj hj=>?_,λj sl ej=>?_⟩,qi R.nb λ_ w=>by cases w⟩
   ·have nb:b≠a:=λw=>by rw [w,h2] at eb;cases eb
    rw [aV nb];exact R.keep b u eb n
   ·by_cases eb:b=a
    ·subst eb;rw [aU];exact λw=>nomatch w
    ·rw [aV eb];exact R.m0 b w
   ·rw [aV (na b w)];exact R.mutk b w.sub
   ·by_cases q:j=i
    ·subst q;rw [b8] at eb;cases eb
    ·rw [b7 q] at eb;exact R.no0 j b eb
   ·by_cases q:j=i
    ·subst q;rw [b8] at e1;cases e1
    ·by_cases q':l=i
     ·subst q';rw [b8] at e2;cases e2
     ·rw [b7 q] at e1;rw [b7 q'] at e2;exact R.inj j l b e1 e2
   ·by_cases q:j=i
    ·subst q;exact b8
    ·rw [b7 q];exact R.out j (by simpa using hj)
   ·by_cases q:j=i
    ·subst q;rw [List.getElem?_set_self hi] at ej;cases ej;rw [b8];exact ⟨rfl,.ref a,h3,.dcf aU e1 e2 (hs.go R.mutk ev)⟩
    ·rw [List.getElem?_set_ne (Ne.symm q)] at ej;rw [b7 q];have sl0:=R.slot j sl ej;have ne:∀c,ow j=some c->c≠a:=λc w z=>q (R.inj j i a (z ▸ w) h1);cases sl with
     |un=>exact sl0
     |fz d=>obtain ⟨w1,x,w2,w3⟩:=sl0;exact ⟨w1,x,w2,w3.go R.mutk ev⟩
     |ow d=>obtain ⟨c,w1,w2,w3,w4⟩:=sl0;exact ⟨c,w1,w2,w3,(w4.kp R.mutk kp (aV (ne c w1))).bU λb w=>.inl w.sub⟩
     |io d=>obtain ⟨c,w1,w2,w3,w4⟩:=sl0;exact ⟨c,w1,w2,w3,(w4.kp R.mutk kp (aV (ne c w1))).bU λb w=>.inl w.sub⟩
     |bw d=>exact (R.nb j d ej).elim
     |hd w c d=>obtain ⟨w1,w2,w3,w4⟩:=sl0;exact ⟨w1,w2,w3,(w4.kp R.mutk kp (aV (ne c w1))).bU λb w=>.inl w.sub⟩
  refine h pins s σ _ W I' ⟨O0,M0,H0,_,_,R2,Ss.go q ⟨kp,λj b eb=>?_,λb n=>?_⟩⟩
  ·by_cases q:j=i
   ·subst q;rw [b8] at eb;cases eb
   ·rw [b7 q] at eb;exact .inl (.inr ⟨j,eb⟩)
  ·by_cases eb:b=a
   ·subst eb;rw [aU];exact λw=>nomatch w
   ·rw [aV eb];exact n
 ·exact q.elim
end
theorem wR:∀{vs:List V} {us:List Value} {i:Nat} {u:Value},Vals vs us->us[i]? = some u->∃v,vs[i]? = some v/\RelV v u
 |_,_,_,_,.nil,e=>by simp at e
 |_,_,0,_,.cons r _,e=>by simp at e;subst e;exact ⟨_,rfl,r⟩
 |_,_,i+1,_,.cons _ t,e=>by
  obtain ⟨v,h1,h2⟩:=wR (i:=i) t (by simpa using e);exact ⟨v,by simpa using h1,h2⟩
def keyV:Key->D
 | .inl i=>.int i
 | .inr z=>.str z
mutual
def ktV:Kt->D
 | .k x=>keyV x
 | .t xs=>.tup (DG xs)
def DG:List Kt->List D
 |[]=>[]
 |x::xs=>ktV x::DG xs
end
def tupK (k:List Kt):D:=.tup (DG k)
theorem K3:∀k:Key,DV G O H (kV k) (keyV k)
 | .inl i=>.int i
 | .inr z=>.str z
mutual
theorem O6:∀{n:Nat} {v:V} {k:Kt},qb (KTp G.K) H n v k->DV G O H v (ktV k)
 |_,_,_,.k (x:=x)=>by rw [ktV];exact K3 x
 |_,_,_,.t h hs=>by rw [ktV];exact .tup h (sV hs)
theorem sV:∀{n:Nat} {vs:List V} {ks:List Kt},kY (KTp G.K) H n vs ks->DVs G O H vs (DG ks)
 |_,_,_,.nil=>by rw [DG];exact .nil
 |_,_,_,.cons h hs=>by rw [DG];exact .cons (O6 h) (sV hs)
end
theorem KQ (h:TrT (KTp G.K) H b k):DV G O H (.ref b) (tupK k):=let ⟨_,h1,h2⟩:=h;.tup h1 (sV h2)
theorem Rz {K:W.Frag}{O:Za}{H H':Hp}{b:Addr}{k:List Kt}(m:∀b,O b->eE (H b))(g:Kp O H H')(h:TrT (KTp K) H b k):TrT (KTp K) H' b k:=h.imp λb xs e=>g b _ e (ju m e w6)
def KeysOf (K:W.Frag)(H:Hp):List (List Kt×V)->List V->Prop:=Paired λp v=>∃b,v=.ref b/\TrT (KTp K) H b p.1
theorem KeysOf.len {K:W.Frag}{H:Hp}{kvs:List (List Kt×V)}{keys:List V}(h:KeysOf K H kvs keys):keys.length=kvs.length:=(Paired.length h).symm
theorem KeysOf.at {K:W.Frag}{H:Hp}:∀{kvs:List (List Kt×V)} {keys:List V} {i:Nat} {v:V},KeysOf K H kvs keys->keys[i]? = some v->∃p b,kvs[i]? = some p/\v=.ref b/\TrT (KTp K) H b p.1
 |_,_,_,_,.nil,e=>by simp at e
 |_,_,0,_,.cons ⟨b,h1,h2⟩ _,e=>by simp at e;subst e;exact ⟨_,b,rfl,h1,h2⟩
 |_,_,i+1,_,.cons _ t,e=>by
  obtain ⟨p,b,q1,q2,q3⟩:=KeysOf.at (i:=i) t (by simpa using e);exact ⟨p,b,by simpa using q1,q2,q3⟩
theorem Cv {K:W.Frag}{H:Hp}:∀{kvs:List (List Kt×V)} {xs:List (List Kt×Addr×Value)},KT (KTp K) H kvs xs->KeysOf K H kvs (xs.map λq=>V.ref q.2.1)
 |_,_,.nil=>.nil
 |_,_,.cons h t=>.cons ⟨_,rfl,h.2.1⟩ (Cv t)
theorem vm:∀xs:List (List Kt×Addr×Value),Vals (xs.map λq=>V.ref q.2.1) ((xs.map (entryOfKey (gq P w))).map (·.key))
 |[]=>.nil
 |q::xs=>.cons rfl (vm xs)
section
variable {X:Cx}{tg:Expr}
theorem Aw {K:W.Frag}{O:Za}{H H':Hp}(m:∀b,O b->eE (H b))(g:Kp O H H'):∀{kvs:List (List Kt×V)} {keys:List V},KeysOf K H kvs keys->KeysOf K H' kvs keys
 |_,_,.nil=>.nil
 |_,_,.cons ⟨b,h1,h2⟩ t=>.cons ⟨b,h1,Rz m g h2⟩ (Aw m g t)
end
section
end
section
variable {pr:Program}{wo:World}{A:Around}{R:Result->Shared->Prop}{I:Addr}{fp wr:List Addr}{G:Array GenState->Array GenState->Prop}{n:Nat}{P:Nat->Value->Prop}{St:Nat->Shared->Prop}
end
section
end
section
end
section
variable {X:Cx}{E:XK}{e a b c ke:Expr}{es:List Expr}{st:Stmt}{rest sa sb:List Stmt}{f fa fb fk:Zl}{fs:Ze}{ft:Zb}{gg k ga gb:Zg}{pos pos' apos cpos np spos p:Pos}{i:Nat}{x:Str}
end
section
variable {pr:Program}{wo:World}{A:Around}{E:Zv}{s:Shared}{κ:Type}[DecidableEq κ]{kn:HeapKind pr wo κ}
theorem N7 (hu:kn.room A)(hk:kn.is s.heap k a)(hm:s.heap.DictOfH kn d xs)(hz:xs.length<=sizeLine)
  (old:∀p,atKey xs k=some p->Q p.2 { s with toks:=s.toks+kn.draws k })
  (new:atKey xs k=none->∀h',h'.DictOfH kn d (xs++[(k,a,v)])->Heap.SameBut d s.heap h'->Q v { s with heap:=h',toks:=s.toks+kn.draws k }):
  wpAny (model pr wo) A (dictSetDefault d (.ref a) v) Q E s:=by
 obtain ⟨o,es,ep,ho,hc,hd,he,hi,hn⟩:=id hm;unfold dictSetDefault;refine wpAny_holding (wpAny_bind (kn.pyHash hu hk (wpAny_bind (wpAny_dictFind_heap (s:={ s with toks:=s.toks+kn.draws k }) hu hk ho hd he hi hn (λno=>?_) λj p hj=>?_))))
 ·have h0:=atKey_none_of_get no;have nk:=not_mem_keys_of_get no;have es1:=size_of_entries he;refine wpAny_bind (wpAny_rule (wpAny_bind (wpAny_updateDictKeys (hz:=by omega) (s:={ s with toks:=s.toks+kn.draws k }) ho hd (wpAny_pure (new h0 _ ⟨_,_,ep+1,Heap.get?_update_self _ ho (Obj.isFreed_of_dict (Obj.data_mapDictKeys hd _)),hc.mapDictKeys _,Obj.data_mapDictKeys hd _,?_,λy hy=>?_,?_⟩ (Heap.SameBut.update ..))))))
  ·simp [he,entryOfKey]
  ·rcases List.mem_append.mp hy with z | z
   ·exact kn.keeps (hi y z) ho hd (Heap.SameBut.update ..)
   ·rw [List.mem_singleton.mp z];exact kn.keeps hk ho hd (Heap.SameBut.update ..)
  ·rw [List.map_append,List.nodup_append];refine ⟨hn,by simp,λy hy z hz' e=>nk ?_⟩;have e2:z=k:=List.mem_singleton.mp hz';rw [← e2,← e];exact hy
 ·refine wpAny_bind (wpAny_dictEntries (s:={ s with toks:=s.toks+kn.draws k }) ho hd ?_);rw [entry_at he j,hj];exact wpAny_bind (wpAny_rule (wpAny_pure (old p (atKey_of_get hn hj))))
theorem Jl (hu:kn.room A.in1)(hk:kn.is s.heap k a)(hm:s.heap.DictOfH kn d xs)(hz:xs.length<=sizeLine)(hd:(d == sysModules)=false)
  (old:∀p,atKey xs k=some p->Q p.2 { s with toks:=s.toks+kn.draws k })
  (new:atKey xs k=none->∀h',h'.DictOfH kn d (xs++[(k,a,v)])->Heap.SameBut d s.heap h'->Q v { s with heap:=h',toks:=s.toks+kn.draws k }):
  wpAny (model pr wo) A (call (.builtin "dict.setdefault") [.ref d,.ref a,v]) Q E s:=by
 refine wpAny_call_entry PySem.F.slot_dict_setdefault hm.typeIs PySem.F.entry_dict_setdefault ?_ (PySem.F.args_dict_setdefault_3 _ _ _);unfold Builtin.«dict.setdefault»;refine wpAny_bind ?_;unfold Builtin.Dict.keyAndDefault;refine wpAny_bind (wpAny_notOrdered_dict hm.typeIs ?_);show wpAny _ _ (pure (d,Value.ref a,some v)) _ _ s;refine wpAny_pure ?_;show wpAny _ _ (if (d == sysModules)=true then _ else (dictSetDefault d (.ref a) v >>= _)) _ _ s;rw [if_neg (by rw [hd];exact Bool.false_ne_true)];exact wpAny_bind (N7 hu hk hm hz (λp e=>wpAny_pure ⟨p.2,rfl,old p e⟩) λe h' x y=>wpAny_pure ⟨v,rfl,new e h' x y⟩)
end
def VL (K:W.Frag)(td ty tx:TE):TE:=λσ H Q=>td σ H λx H1=>∃a,x=.ref a/\IsD K H1 a/\ty σ H1 λy H2=>tx σ H2 λz H3=>∃kvs k b,H3 a=some (.dT (KTp K) kvs)/\y=.ref b/\TrT (KTp K) H3 b k/\kvs.length<sizeLine/\
 (∀v,kZ kvs k=some v->Q v H3)/\(kZ kvs k=none->Q z (upd H3 a (.dT (KTp K) (kvs++[(k,z)]))))
section
theorem Hq (hu:X.A.units+16<cLine)(ho:PE X o td)(he:PE X e ty)(hf:PE X f tx)(m:M2 X o "setdefault" apos e f cpos):PE X (.Call (.Attribute o "setdefault" apos) [e,f] [] cpos) (VL X.K td ty tx):=by
 intro pins s σ H Q I h;refine wpAny_Call_method m.base m.few m.line PySem.F.plainAttrs_dict PySem.F.slot_dict_setdefault PySem.F.type_dict_setdefault (thn (ho pins s σ H _ I h) λu s1 ⟨x,H1,I1,rx,a,ex,d,q1⟩=>?_);subst ex;cases (show u=Value.ref a from rx);obtain ⟨t1,t2,_⟩:=RL I1 d;refine ⟨t1,t2,?_⟩;rw [m.trees];refine Calls.callWith_builtin rfl (Calls.evalArgs_plain (Calls.spliced_cons (thn (he pins s1 σ H1 _ I1 q1) λiv s2 hE=>xq2 hE λy H2 I2 ry q2=>
  Calls.spliced_cons (thn (hf pins s2 σ H2 _ I2 q2) λfv s3 ⟨z,H3,I3,rz,kvs,k,b,e3,ey,eb,l,q3,q4⟩=>Calls.spliced_nil ?_))))
 subst ey;cases (show iv=Value.ref b from ry);obtain ⟨sz,hd,xs,rel,dd⟩:=G7 (vH I3) I3.hok e3;have hz:xs.length<=sizeLine:=by rw [← Paired.length rel];exact sz
 have rv:=rel.val k;refine Jl (qw hu) (sy I3 eb) dd hz hd (λp hp=>?_) λhn h' dd' hs=>?_
 ·rw [hp] at rv;cases ev:kZ kvs k with
  |none=>rw [ev] at rv;cases rv
  |some v=>
   rw [ev] at rv;exact ⟨v,H3,I3.tok _,rv,q3 v ev⟩
 ·rw [hn] at rv;cases ev:kZ kvs k with
  |some v=>rw [ev] at rv;cases rv
  |none=>
   have rp:=rel.put k eb rz;rw [Jo _ ev,storedH_new hn] at rp;obtain ⟨q,es,ep,hq,h2,h3,h4,_,h5⟩:=dd';refine ⟨z,upd H3 a (.dT (KTp X.K) (kvs++[(k,z)])),rn I3 (by rw [e3];exact True.intro) hs ⟨q,hq⟩ ⟨by rw [List.length_append,List.length_singleton];omega,hd,_,rp.keeps λc ys ec=>?_,q,es,ep,hq,h2,h3,h4,h5⟩,rz,q4 ev⟩;rw [aV (xZ ec e3 (λz=>nomatch z))];exact ec
end
def Nq (i:Nat)(fk fv:Zl):Zg:=λm=>(ofO (vU m i)).bind λo=>(fk m).bind λk=>(fv m).bind λd=>(ofO (ph k)).bind λk=>
 if o.2.1.length<sizeLine then .ok (.nx,if (cU o.2.1 o.2.2 k).isSome then m else lU m i o.1 (o.2.1++[k]) (o.2.2++[d])) else .stuck
section
theorem Rn (i:Nat)(hr:gW jj X.A)(hk:FE X E ke fk)(he:FE X E e f)(hm:M2 X (.Name x np) "setdefault" apos ke e cpos)(hN:X.N[i]? = some x:=by rfl)(hv:Vis X.env.scope x:=by first | exact Or.inl rfl | exact Or.inr (Or.inl rfl) | exact Or.inr (Or.inr rfl))(hd:(x == ("__debug__" : Str))=false:=by decide)(hcd:(x == ("__classdict__" : Str))=false:=by decide)
  (hsw:swapsWith (.Call (.Attribute (.Name x np) "setdefault" apos) [ke,e] [] cpos) none pos.line X.env=pure false:=by rfl):FS X E (.Expr (.Call (.Attribute (.Name x np) "setdefault" apos) [ke,e] [] cpos) pos) (Nq i fk f):=
 cA (pq (Hq (mL hr) (jk hN hv hd hcd) hk he hm) hsw) λW σ H hE=>xq5 hE λO0 M0 H0 ow m R q=>by
  obtain ⟨o,ho,q⟩:=Ss.ofO q;obtain ⟨k,ks,ds⟩:=o;obtain ⟨a,kvs,e1,e2,e3,e4,e5,e6⟩:=vV R.toRel ho;refine ⟨_,e2,a,rfl,.inr ⟨kvs,.inl e3⟩,O0,M0,H0,ow,m,R.toRel,(Ss.pu R.toRel q).imp (aH.refl _) λdk q vk H1 g1 hvk=>?_⟩;have R1:=R.mono g1;refine ⟨O0,M0,H0,ow,m,R1.toRel,(Ss.pu R1.toRel (q.go (Go.refl g1))).imp (aH.refl _) λd q v H2 g2 hv=>?_⟩;obtain ⟨ky,h1,q⟩:=Ss.ofO q;obtain ⟨b,rfl,hb⟩:=pg (.inl (hvk.mono g2)) h1;have R2:=R1.mono g2;have e3':=g2 _ _ (g1 _ _ e3);have e5':=(e5.mono g1).mono g2;have uf:=Od (k:=ky) e5';rw [e4] at uf;by_cases hz:ks.length<sizeLine
  ·rw [if_pos hz] at q;refine ⟨kvs,ky,b,e3',rfl,hb,by rw [← List.length_map (f:=(·.1)),e4];exact hz,λv' ev=>?_,λev=>?_⟩
   ·rw [ev] at uf;rw [← uf] at q;exact q _ _ _ R2 (Go.refl g2)
   ·rw [ev] at uf;rw [← uf] at q;obtain ⟨R3,g3⟩:=R2.lU (ls:=ks++[ky]) (es:=ds++[d]) (kvs:=kvs++[(ky,v)]) e1 e6 (by simp [e4]) (by rw [List.map_append];exact gD e5' (.cons hv .nil));exact q _ _ _ R3 ((Go.refl g2).trans g3)
  ·rw [if_neg hz] at q;exact q.elim
end
def lY (h:Heap)(d:Addr)(es:Array DictEntry)(ep:Nat):Prop:=∃o,h.get? d=some o/\o.ExactDict/\o.data=.dict es ep
section
variable {prog:Program}{w:World}{A:Around}{E:Zv}{s:Shared}{d it v:Addr}{es:Array DictEntry}{ep i:Nat}
theorem lY.ty (x:lY s.heap d es ep):s.TypeIs (.ref d) "dict":=let ⟨o,h,c,_⟩:=x;⟨o,h,c.1⟩
theorem lY.up (x:lY h d es ep)(k:∀o,h.get? d=some o->h'.get? d=some o):lY h' d es ep:=let ⟨o,e,r⟩:=x;⟨o,k o e,r⟩
theorem Hg (nd:(d == sysModules)=false)(x:lY s.heap d es ep)
  (k:Q (.ref s.heap.objs.size) { s with heap:=s.heap.push { cls:=.type "dict_values",data:=.fields #[.ref d] } }):wpAny (model prog w) A (call (.builtin "dict.values") [.ref d]) Q E s:=by
 refine wpAny_call_entry PySem.F.slot_dict_values x.ty PySem.F.entry_dict_values ?_ (PySem.F.args_dict_values_1 _);refine wpAny_bind ?_;unfold Builtin.Dict.noArgs;refine wpAny_bind (wpAny_notOrdered_dict x.ty (show wpAny _ _ (pure d) _ _ s from wpAny_pure ?_));show wpAny _ _ (Builtin.Dict.showsAll d >>= _) _ _ s;unfold Builtin.Dict.showsAll;rw [if_neg (λz=>by rw [nd] at z;cases z)];exact wpAny_bind (wpAny_pure (wpAny_bind (wpAny_newObj_type (wpAny_pure ⟨_,rfl,k⟩))))
theorem TQ (hv:s.heap.IsValuesView v d)(x:lY s.heap d es ep)
  (k:Q (.ref s.heap.objs.size) { s with heap:=s.heap.push { cls:=.type "dict_valueiterator",data:=.fields #[.ref d,.int 0 0,.int es.size 0,.int ep 0] } }):wpAny (model prog w) A (pyIter (.ref v)) Q E s:=by
 obtain ⟨q,hq,hc,hf⟩:=id hv;obtain ⟨o,ho,hx,ht⟩:=id x;have no:Builtin.Dict_items.ownsTuple "dict_valueiterator" = false:=by decide
 refine wpAny_pyIter_slot hv.typeIs PySem.F.slot_dict_values_iter (wpAny_call_entry PySem.F.slot_dict_values_iter hv.typeIs PySem.F.entry_dict_values_iter ?_ (PySem.F.args_dict_values_iter_1 _));unfold Builtin.«dict_values.__iter__»;refine wpAny_bind (wpAny_pure (wpAny_bind ?_));unfold Builtin.Dict_items.dictOf;refine wpAny_bind (wpAny_field hq hf (x:=.ref d) rfl (wpAny_pure (wpAny_bind ?_)));unfold Builtin.Dict_items.newIterator;refine wpAny_bind (wpAny_dictEntries ho ht (wpAny_bind (wpAny_dictEpoch ho ht ?_)));simp only [no,Bool.false_eq_true,if_false];exact wpAny_newObj_type (wpAny_pure ⟨_,rfl, "dict_valueiterator",_,⟨_,Heap.get?_push_size _ rfl,rfl⟩,PySem.F.slot_dict_valueiterator_next.lookup,by simpa [rawInt] using k⟩)
theorem Ul (hit:s.heap.IsValIter it d i es.size ep)(x:lY s.heap d es ep)
  (lt:i<es.size) (go:∀h',h'.IsValIter it d (i+1) es.size ep->Heap.SameBut it s.heap h'->Q (some es[i].val) { s with heap:=h' }):wpAny (model prog w) A (pyNext (.ref it)) Q E s:=by
 obtain ⟨q,hq,hc,hf⟩:=id hit;obtain ⟨o,ho,hx,ht⟩:=id x;have ty:=hit.typeIs;have e1:es[i]? = some es[i]:=Array.getElem?_eq_getElem lt;have no:Builtin.Dict_items.ownsTuple "dict_valueiterator" = false:=by decide
 have turned:(s.heap.update it (Obj.mapFields (·.setIfInBounds 1 (rawInt ((i:Int)+1))))).IsValIter it d (i+1) es.size ep:=
  ⟨_,Heap.get?_update_self _ hq (Obj.isFreed_of_fields (Obj.data_mapFields hf _)),(Obj.cls_mapFields ..).trans hc,by rw [Obj.data_mapFields hf];simp [rawInt]⟩
 have fin:=go _ turned (Heap.SameBut.update ..);unfold pyNext;refine wpAny_bind (wpAny_attempt (wpAny_callSpecial?_slot (name:=Str.ofString "__next__") ty PySem.F.slot_dict_valueiterator_next (wpAny_call_entry PySem.F.slot_dict_valueiterator_next ty PySem.F.entry_dict_valueiterator_next ?_ (PySem.F.args_dict_valueiterator_next_1 _))));refine wpAny_bind (wpAny_pure (wpAny_bind (wpAny_bind ?_)))
 first
 |refine wpAny_bind (wpAny_typeNameOfWhole_valiter ty (wpAny_pure (wpAny_bind (wpAny_fieldsOf hq hf ?_))))
 |refine wpAny_bind (wpAny_typeNameOf_valiter ty (wpAny_pure (wpAny_bind (wpAny_fieldsOf hq hf ?_))))
 simp only [no,Bool.false_eq_true,if_false];show wpAny _ _ (if (Value.ref d == Value.none)=true then _ else _) _ _ s;rw [if_neg (λz=>by cases (show false=true from z))];refine wpAny_bind (wpAny_pure (wpAny_bind (wpAny_dictEntries ho ht ?_)));rw [if_neg (by simp)];refine wpAny_bind (wpAny_pure (wpAny_bind (wpAny_dictEpoch ho ht ?_)));rw [if_neg (by simp)];refine wpAny_pure ?_;simp only [show ¬((i:Int)<0) by omega,if_false,Int.toNat_natCast,e1];refine wpAny_bind ?_
 first
 |refine wpAny_bind (wpAny_typeNameOfWhole_valiter ty (wpAny_pure (wpAny_bind (wpAny_isOneOf_valiter ty ?_))))
 |refine wpAny_bind (wpAny_typeNameOf_valiter ty (wpAny_pure (wpAny_bind (wpAny_isOneOf_valiter ty ?_))))
 show wpAny _ _ (setField (.ref it) 1 (rawInt ((i:Int)+1)) >>= _) _ _ s;refine wpAny_bind (wpAny_setField hq hf (by simp) (wpAny_bind (wpAny_holding ?_)));refine wpAny_bind (wpAny_isOneOf_valiter (s:={ s with heap:=s.heap.update it (Obj.mapFields (·.setIfInBounds 1 (rawInt ((i:Int)+1)))) }) turned.typeIs ?_);refine wpAny_bind (wpAny_isOneOf_valiter (s:={ s with heap:=s.heap.update it (Obj.mapFields (·.setIfInBounds 1 (rawInt ((i:Int)+1)))) }) turned.typeIs ?_);exact (show wpAny _ _ (pure es[i].val) _ _ _ from wpAny_pure (wpAny_pure ⟨_,rfl,wpAny_pure fin⟩))
theorem Ea (hh:A.handled=none)(hit:s.heap.IsValIter it d es.size es.size ep)(x:lY s.heap d es ep)
  (go:∀h',Heap.ExtBut it s.heap h'->Q none { s with heap:=h' }):wpAny (model prog w) A (pyNext (.ref it)) Q E s:=by
 obtain ⟨q,hq,hc,hf⟩:=id hit;obtain ⟨o,ho,hx,ht⟩:=id x;have ty:=hit.typeIs;have e1:es[es.size]? = none:=Array.getElem?_eq_none (Nat.le_refl _);have no:Builtin.Dict_items.ownsTuple "dict_valueiterator" = false:=by decide
 unfold pyNext;refine wpAny_bind (wpAny_attempt (wpAny_callSpecial?_slot (name:=Str.ofString "__next__") ty PySem.F.slot_dict_valueiterator_next (wpAny_call_entry PySem.F.slot_dict_valueiterator_next ty PySem.F.entry_dict_valueiterator_next ?_ (PySem.F.args_dict_valueiterator_next_1 _))));refine wpAny_bind (wpAny_pure (wpAny_bind (wpAny_bind ?_)))
 first
 |refine wpAny_bind (wpAny_typeNameOfWhole_valiter ty (wpAny_pure (wpAny_bind (wpAny_fieldsOf hq hf ?_))))
 |refine wpAny_bind (wpAny_typeNameOf_valiter ty (wpAny_pure (wpAny_bind (wpAny_fieldsOf hq hf ?_))))
 simp only [no,Bool.false_eq_true,if_false];show wpAny _ _ (if (Value.ref d == Value.none)=true then _ else _) _ _ s;rw [if_neg (λz=>by cases (show false=true from z))];refine wpAny_bind (wpAny_pure (wpAny_bind (wpAny_dictEntries ho ht ?_)));rw [if_neg (by simp)];refine wpAny_bind (wpAny_pure (wpAny_bind (wpAny_dictEpoch ho ht ?_)));rw [if_neg (by simp)];refine wpAny_pure ?_;simp only [show ¬((es.size:Int)<0) by omega,if_false,Int.toNat_natCast,e1];refine wpAny_bind ?_
 first
 |refine wpAny_bind (wpAny_typeNameOfWhole_valiter ty (wpAny_pure ?_))
 |refine wpAny_bind (wpAny_typeNameOf_valiter ty (wpAny_pure ?_))
 show wpAny _ _ (setField (.ref it) 0 .none >>= _) _ _ s;refine wpAny_bind (wpAny_setField hq hf (by simp) (show wpAny _ _ (newExc (.type "StopIteration") [] >>= _) _ _ _ from wpAny_bind ?_));simp only [newExc,newTuple];refine wpAny_bind (wpAny_newObj_type (wpAny_bind (m:=firstArgMember _ _) (wpAny_of_eq (a:=Value.none) (by first | rfl | (simp only [firstArgMember];rfl)) (wpAny_newObj_type ?_ (by size_fits)))) (by size_fits));simp only [raiseNew];refine wpAny_bind (wpAny_handled ?_);rw [show A.in1.handled=none from hh];refine wpAny_bind (wpAny_pure (wpAny_throw (wpAny_bind ?_)));refine wpAny_isInstance (T:="StopIteration") (b:=true) ⟨_,Heap.get?_push_size _ rfl,rfl⟩ isSubtype_stop (wpAny_pure ?_);exact go _ (((Heap.SameBut.update ..).extBut.push _).push _)
theorem Sq (hh:A.handled=none)(ne:d≠it):Walks prog w A it [it,d] [it] es.size (λi v=>∃e,es[i]? = some e/\v=e.val) (λi h=>h.IsValIter it d i es.size ep/\lY h d es ep) where
 sub:=λb hb=>by simp at hb;simp [hb]
 frame:=λ_ _ _ st hk=>⟨let ⟨o,e,r⟩:=st.1;⟨o,hk it (by simp) o e,r⟩,st.2.up λo e=>hk d (by simp) o e⟩
 item:=λi s Q E hi st go=>Ul st.1 st.2 hi λh' a b=>go _ h' s.toks ⟨_,Array.getElem?_eq_getElem hi,rfl⟩ ⟨a,st.2.up λo e=>(b.2 d ne).trans e⟩ λc o hc e=>(b.2 c λz=>hc (by simp [z])).trans e
 done:=λs Q E st go=>Ea hh st.1 st.2 λh' a=>go h' s.toks λc o hc e=>a c o (λz=>hc (by simp [z])) e
 self:=λ_ _ _ _ st k=>wpAny_pyIter_valiter st.1 k
end
section
variable {X:Cx}
def wH (p a:Addr)(h:Heap):Prop:=h.IsValuesView p a
theorem HD (I:Inv X pins σ H s)(e:H a=some (.dT T kvs)):
  kvs.length<=sizeLine/\(a == sysModules)=false/\∃es ep,lY s.heap a es ep/\es.size=kvs.length/\Vals (kvs.map (·.2)) (es.toList.map (·.val)):=by
 obtain ⟨hz,hd,xs,rel,o,es,ep,ho,hx,ht,he,nd⟩:=I.hok a _ e;refine ⟨hz,hd,es,ep,⟨o,ho,hx,ht⟩,?_,?_⟩
 ·rw [size_of_entries he,Paired.length rel]
 ·rw [he,List.map_map];clear he hz hd nd e;induction rel with
  |nil=>exact .nil
  |cons h _ ih=>exact .cons h.2.2 ih
def Uo (X:Cx):V->List V->Hp->VK->Prop:=λx vs H Q=>∃a kvs,x=.ref a/\vs=[]/\H a=some (.dT (KTp X.K) kvs)/\∀p,H p=none->Q (.ref p) (upd H p (.ext (wH p a)))
theorem Mr:MtR X "dict.values" (Uo X):=by
 intro pins s σ H x vs v us Q I rx rv h;obtain ⟨a,kvs,rfl,rfl,e,q⟩:=h;cases rx;have hus:=rv.zero;subst hus;obtain ⟨hz,hd,es,ep,x,_⟩:=HD I e;refine Hg hd x ?_;refine ⟨.ref _,_,I.laid (t':=s.toks) (λb o e=>Heap.get?_push_of_some _ e) (Nat.le_refl _) (show cI X.prog X.w _ _ _ (.ext (wH s.heap.objs.size a)) from ⟨⟨_,Heap.get?_push_size _ rfl,rfl,rfl⟩,⟨_,Heap.get?_push_size _ rfl⟩,λh1 h2 ⟨o,e,r⟩ k=>⟨o,k o e,r⟩⟩),rfl,q _ (I.hok.fresh (Nat.le_refl _))⟩
theorem Vj {es:Array DictEntry}:W.KdlSrc X.prog X.w "dict_values" r d es.size (λi v=>∃e,es[i]? = some e/\v=e.val) (λh=>h.IsValuesView r d/\lY h d es ep) where
 type:=λ_ m=>m.1.typeIs
 there:=λ_ m=>⟨let ⟨_,e,_⟩:=m.1;Heap.lt_size e,let ⟨_,e,_⟩:=m.2;Heap.lt_size e⟩
 keep:=λ_ _ m k=>⟨let ⟨o,e,x⟩:=m.1;⟨o,k r (.inl rfl) o e,x⟩,m.2.up λo e=>k d (.inr rfl) o e⟩
 notList:=by decide
 notTuple:=by decide
 hint:=λ_ _ _ _ m q=>W.kdl_hint_values m.1.typeIs q
 iter:=λ_ _ hh m=>⟨_,_,(λ_ _ q=>TQ m.1 m.2 q),Sq hh (let ⟨_,e,_⟩:=m.2;Nat.ne_of_lt (Heap.lt_size e)),⟨⟨_,Heap.get?_push_size _ rfl,rfl,rfl⟩,m.2.up λo e=>Heap.get?_push_of_some _ e⟩⟩
def rLV (X:Cx):List V->Hp->VK->Prop:=λxs H Q=>∃p a kvs,xs=[.ref p]/\H p=some (.ext (wH p a))/\H a=some (.dT (KTp X.K) kvs)/\∀l,H l=none->Q (.ref l) (upd H l (.lst (kvs.map (·.2))))
theorem yX (hc:X.calm=true):fB X (.type "list") (rLV X):=by
 intro pins s σ H xs us Q I r h;obtain ⟨p,a,kvs,rfl,hp,e,q⟩:=h;obtain ⟨u,rfl,rx⟩:=vals1 r;cases rx;obtain ⟨hz,hd,es,ep,x,sz,rel⟩:=HD I e;obtain ⟨vw,_⟩:=I.hok p _ hp;refine W.kdl_call (Vj (ep:=ep)) (I.ok.hd hc) ⟨vw,x⟩ (by omega) λh' tk acc c kp oS it=>?_;have ea:acc.toList=es.toList.map (·.val):=by
  obtain ⟨z,h⟩:=it;refine List.ext_getElem (by simp [z]) λi h1 h2=>?_;obtain ⟨y,ey,ev⟩:=h i acc[i] (by simp at h1;simp [h1]);obtain ⟨lt,ey⟩:=Array.getElem?_eq_some_iff.mp ey;simp only [Array.getElem_toList,List.getElem_map];rw [ev,ey]
 refine ⟨.ref _,_,I.laid (t':=tk) kp (Nat.le_refl _) (show cI X.prog X.w _ h' _ (.lst (kvs.map (·.2))) from ⟨by rw [List.length_map];exact hz,es.toList.map (·.val),c,rel,?_⟩),rfl,q _ (I.hok.fresh (Nat.le_refl _))⟩;rw [← ea];simpa using oS
end
def zq (fo:Zl):Zl:=λm=>(fo m).bind λd=>match d with
 | .dcu _ ds=>.ok (.lst ds)
 |_=>.stuck
section
theorem HQ (hc:X.calm=true)(hg:Gl X "list")(hm:X.mg "list" = none)(ho:FB X E o fo)(hbase:attributeBase o "values" X.env (eval o X.env)=eval o X.env:=by rfl)(hline:(apos.endLine == cpos.line)=true:=by rfl)
  (hs:starEach [.Call (.Attribute o "values" apos) [] [] cpos] X.env=(false,eval (.Call (.Attribute o "values" apos) [] [] cpos) X.env)::starEach [] X.env:=by rfl):
  FN X E (.Call (.Name "list" p) [.Call (.Attribute o "values" apos) [] [] cpos] [] pos) (zq fo):=
 bc (pM (yX hc) hg hm wQ (dg (zF PySem.F.plainAttrs_dict PySem.F.slot_dict_values PySem.F.type_dict_values Mr ho hbase hline) jh hs) (by decide) (by decide) hs rfl) λσ H Q h=>by
  obtain ⟨O0,M0,H0,ow,m,R,q⟩:=h;refine ⟨O0,M0,H0,ow,m,R,q.bind.imp (aH.refl _) λd q v H1 g1 hv=>?_⟩;cases d with
  |dcu ks ds=>
   obtain ⟨a,kvs,rfl,e,e1,hd⟩:∃a kvs,v=.ref a/\H1 a=some (.dT (KTp X.K) kvs)/\kvs.map (·.1)=ks/\DVs (gx X) (Ow O0 ow) H1 (kvs.map (·.2)) ds:=by
    rcases hv with hv | ⟨a,rfl,_,hv⟩
    ·cases hv with
     |dcu n e a b hs=>subst b;exact ⟨_,_,rfl,e,a,hs⟩
    ·obtain ⟨kvs,vs,e,a1,b1,hs⟩:=hv;subst b1;exact ⟨a,kvs,rfl,e,a1,hs⟩
   refine ⟨.inr (.inr (.inl ⟨rfl,.inr ⟨_,kvs,.inl e⟩⟩)),a,kvs,rfl,rfl,e,λb hb=>?_⟩;have ne:a≠b:=λz=>by rw [z,hb] at e;cases e
   refine ⟨b,a,kvs,rfl,aU,by rw [aV ne];exact e,λl hl=>?_⟩;have nb:l≠b:=λz=>by rw [z,aU] at hl;cases hl
   have hl1:H1 l=none:=by rw [aV nb] at hl;exact hl
   have gg:aH H1 (upd (upd H1 b (.ext (wH b a))) l (.lst (kvs.map (·.2)))):=(aR hb _).trans (aR hl _);exact q l _ (g1.trans gg) (g1.free hl1) ⟨_,aU,(hd.bU λc z=>z.elim .inl λe=>.inr (by rw [e];exact hl1)).mono gg⟩
  |_=>exact q.elim
end
def RP (K:W.Frag)(tk tv:TE):TE:=λσ H Q=>∀p,H p=none->tk σ (upd H p (.dT (KTp K) [])) λx H1=>tv σ H1 λy H2=>
 H2 p=some (.dT (KTp K) [])/\∃ks b,x=.ref b/\TrT (KTp K) H2 b ks/\Q (.ref p) (upd H2 p (.dT (KTp K) [(ks,y)]))
section
theorem JN (hu:X.A.units+16<cLine)(hk:PE X k tk)(hv:PE X v tv):PE X (.Dict [some k] [v] pos) (RP X.K tk tv):=by
 intro pins s σ H Q I q;have hn:=I.hok.fresh (Nat.le_refl s.heap.objs.size);have I1:=I.laid (a:=s.heap.objs.size) (o:=.dT (KTp X.K) []) (h':=s.heap.push { cls:=.type "dict",data:=.dict #[] }) (t':=s.toks) (λ_ _ q=>Heap.get?_push_of_some _ q) (Nat.le_refl _) (xT s.heap I.big);have pl:(pairTrees [some k] [v] X.env pos).length=1:=pairTrees_length [some k] [v] X.env pos rfl rfl;rw [arm_eval_Dict,zip_pairTrees [some k] [v] X.env pos rfl rfl,dictDisplay_pairs _ (λz=>by rw [z] at pl;cases pl) (by rw [pl];decide)];refine wpAny_bind (wpAny_standAt (wpAny_bind ?_));unfold subDict;refine wpAny_bind (wpAny_alloc (wpAny_bind (wpAny_holding ?_)));rw [if_pos (by rw [pl];decide)];refine wpAny_bind (pairTrees_cons_walk (thn (hk pins _ σ _ _ I1 (q _ hn)) λu s1 ⟨x,H1,J1,rx,q1⟩=>thn (hv pins s1 σ H1 _ J1 q1) λr s2 ⟨y,H2,I2,ry,e,ks,b,ex,eb,q2⟩=>pairTrees_nil_walk (wpAny_holding ?_)));subst ex;cases (show u=Value.ref b from rx);obtain ⟨z,hd,xs,rel,dd⟩:=G7 (vH I2) I2.hok e;cases rel;rw [List.forIn_cons];refine wpAny_bind (wpAny_bind ?_);show wpAny _ _ (dictSet s.heap.objs.size (.ref b) r >>= _) _ _ s2;refine (wpAny_bind (wpAny_dictSet_heap (hsz:=Nat.zero_le _) (show X.A.units+8<cLine by omega) (sy I2 eb) dd λh' dd' hs=>wpAny_pure ?_));dsimp only;rw [List.forIn_nil];refine wpAny_pure (wpAny_pure (wpAny_pure (wpAny_pure ?_)));obtain ⟨qo,es,ep,hq,h2,h3,h4,_,h5⟩:=dd';refine ⟨.ref s.heap.objs.size,upd H2 s.heap.objs.size (.dT (KTp X.K) [(ks,y)]),rn I2 (by rw [e];exact True.intro) hs ⟨qo,hq⟩ ⟨by show 1<=_;decide,hd,_,?_,qo,es,ep,hq,h2,h3,h4,h5⟩,rfl,q2⟩;refine KT.keeps (H:=H2) (Paired.cons ⟨rfl,eb,ry⟩ .nil) λc ys ec=>?_;rw [aV (xZ ec e (λz=>nomatch z))];exact ec
end
def zK (fk fv:Zl):Zl:=λm=>(fk m).bind λk=>(fv m).bind λd=>(ofO (ph k)).bind λks=>.ok (.dcu [ks] [d])
section
theorem Jw (hr:gW j X.A)(hk:FE X E k fk)(hv:FE X E v fv):FN X E (.Dict [some k] [v] pos) (zK fk fv):=
 bc (JN (mL hr) hk hv) λσ H Q ⟨O0,M0,H0,ow,m,R,q⟩ p hp=>by
  have g0:aH H (upd H p (.dT (KTp X.K) [])):=aR hp _;have R1:=R.more g0 hp (by rw [aU];exact .inr (.inr (.inl ⟨(KTp X.K,[]),rfl⟩)));refine ⟨Op O0 p,M0,H0,ow,m,R1,q.bind.imp g0 λkd q x H1 g1 hx=>⟨Op O0 p,M0,H0,ow,m,R1.mono g1,q.bind.imp (g0.trans g1) λd q y H2 g2 hy=>?_⟩⟩;obtain ⟨ks,h1,q⟩:=q.bind.ofO;obtain ⟨b,rfl,hb⟩:=pg (.inl (hx.mono g2)) h1;have e2:H2 p=some (.dT (KTp X.K) []):=g2 _ _ (g1 _ _ aU);have R2:=(R1.mono g1).mono g2;have kp:Kp (Ow (Op O0 p) ow) H2 (upd H2 p (.dT (KTp X.K) [(ks,y)])):=λc o e n=>by rw [aV (λz=>n (.inl (.inr z)))];exact e
  refine ⟨e2,ks,b,rfl,hb,q p _ (λc o e=>?_) hp ⟨_,_,aU,rfl,rfl,.cons ((hy.kp R2.mutk kp).bU λc z=>.inl ?_) .nil⟩⟩
  ·rw [aV (λz=>by rw [z,hp] at e;cases e)];exact g2 _ _ (g1 _ _ (g0 _ _ e))
  ·rcases z with (z | z) | z
   ·exact .inl (.inl z)
   ·exact .inr z
   ·exact .inl (.inr z)
end
inductive DPs (G:Gx)(O:Za)(H:Hp):List (V×V)->List (D×D)->Prop where
 |nil:DPs G O H [] []
 |cons {x y:V} {k d:D} {ps:List (V×V)} {l:List (D×D)}:DV G O H x k->DV G O H y d->DPs G O H ps l->DPs G O H ((x,y)::ps) ((k,d)::l)
def wW:List Key->List D->List (D×D)->Option (List Key×List D)
 |ks,ds,[]=>some (ks,ds)
 |ks,ds,p::r=>(HY p.1).bind λk=>wW (putD ks ds k p.2).1 (putD ks ds k p.2).2 r
section
theorem Gq:∀{l:List (D×D)} {ps:List (V×V)} {ks rk:List Key} {ds rd:List D} {acc:List (Key×V)},DPs G O H ps l->wW ks ds l=some (rk,rd)->acc.map (·.1)=ks->DVs G O H (acc.map (·.2)) ds->
  ∃kvs:List (Key×V),ps=kvs.map (λkv=>(kV kv.1,kv.2))/\(nP acc kvs).map (·.1)=rk/\DVs G O H ((nP acc kvs).map (·.2)) rd
 |_,_,ks,rk,ds,rd,acc,.nil,e,e1,e2=>by cases e;exact ⟨[],rfl,e1,e2⟩
 |_,_,ks,rk,ds,rd,acc,.cons (x:=x) (y:=y) a b r,e,e1,e2=>by
  obtain ⟨k,hk,e⟩:=Option.bind_eq_some_iff.mp e;have ex:=Hj (.inl a) hk;obtain ⟨p1,p2⟩:=Ma (k:=k) b e2;rw [e1] at p1 p2;obtain ⟨kvs,q1,q2,q3⟩:=Gq (acc:=putK acc k y) r e p1 p2;exact ⟨(k,y)::kvs,by rw [List.map_cons,← q1,ex],q2,q3⟩
end
theorem Dr:entryFor table "dict.update.loop" = some Builtin.«dict.update.loop»:=entryFor_of_tree (by kernel_rfl)
theorem xG:plainId "dict.update.loop" = true:=by decide +kernel
theorem xx:typeLookup (.type "list") "keys" = pure none:=by rfl
section
theorem Ew (hx:s.heap.get? a=some { cls:=.type "list",dict:=none,data:=.seq its n,slots:=sl })(hA:A.handled=none)
  (k:∀h' tk,(∀b o,s.heap.get? b=some o->h'.get? b=some o)->Q none { s with heap:=h',toks:=tk }):wpAny (model pr wo) A (getAttr? (.ref a) "keys") Q E s:=by
 obtain ⟨hp,g,d,tk,os⟩:=s;have hT:∀t,(⟨hp,g,d,t,os⟩:Shared).TypeIs (.ref a) "list":=λ_=>⟨_,hx,rfl⟩;have f1:=sub_AttributeError;have f3:=PySem.F.slot_list_getattribute.lookup;have f4:=PySem.F.slot_list_getattribute.bind (.ref a);have f5:=am_list_getattr_none;unfold getAttr? getAttrBy? getAttrBy
 repeat (any_goals (first | (assumption) | exact hT _ | ((with_reducible show wpAny _ _ (call (Value.builtin "list.__getattribute__") _ _) _ _ _);refine call_meets PySem.F.slot_list_getattribute (hT _) am_entry_list_getattribute (PySem.F.args_list_getattribute_2 _ _) (meets_getattribute_miss_list a its n sl "keys" _ xx (by decide +kernel) (by decide +kernel)) ⟨hx,hA,λh' t' e ne=>?_⟩) | (wp_step)))
 obtain ⟨t2,u2,he⟩:=ne.there;show wpAny _ _ (getattributeRaised _ _ _ _ _ _ _) _ _ _;unfold getattributeRaised
 repeat (any_goals (first | (assumption) | (wp_step)))
 exact k _ _ ne.keeps
end
section
variable {pr:Program}{wo:World}{κ:Type}[DecidableEq κ]{kn:KeyKind pr wo κ}{A:Around}{R:Result->Shared->Prop}{I:Addr}{fp wr:List Addr}{G:Array GenState->Array GenState->Prop}{n:Nat}{P:Nat->Value->Prop}{St:Nat->Shared->Prop}
theorem NT (W:WalksS pr wo A.in1 I fp wr G n P St)(S:Addr)(nf:S∉fp)(kvs:List (κ×Value))(h0:Heap)(hn:n<=sizeLine)
  (hP:∀i v,P i v->∃b k u kv,v=.ref b/\kvs[i]? = some (k,u)/\b∉S::wr/\IsTup h0 b #[kv,u]/\kn.is k kv=true):
  ∀(j i:Nat) (s:Shared) (t0:Tok),n-i=j->i<=n->St i s->(∀b o,b∉S::wr->h0.get? b=some o->s.heap.get? b=some o)->s.heap.DictOf kn S (merged [] (kvs.take i))->
   (∀t,Moved (S::wr) G s t->t.heap.DictOf kn S (merged [] (kvs.take n))->R (.ok (.ret .none)) t)->
   codeAny (model pr wo) A (.builtin "dict.update.loop" ⟨[.ref S,.ref I,.int (i:Int) t0,.none],[]⟩) R s:=by
 have nw:S∉wr:=λz=>nf (W.sub _ z);have up:∀b∈wr,b∈S::wr:=λb z=>.tail _ z;have at_:∀{h h':Heap} {l:List (κ×Value)},h.DictOf kn S l->(∀o,h.get? S=some o->h'.get? S=some o)->h'.DictOf kn S l:=λx k=>by
  obtain ⟨o,es,ep,e,r⟩:=x;exact ⟨o,es,ep,k _ e,r⟩
 intro j;induction j with
 |zero=>
  intro i s t0 ej hi st kp x fin;obtain rfl:i=n:=by omega
  refine codeAny_builtin Dr ?_;rw [Around.under_plainId xG _];show wpAny (model pr wo) A.in1 (pyNext (.ref I) >>= _) _ _ _;refine wpAny_bind (W.done s _ _ st λt mv=>?_);show wpAny (model pr wo) A.in1 (Builtin.Dict.addKeywords S [] >>= _) _ _ t;exact wpAny_bind (wpAny_pure (wpAny_pure (fin t (mv.mono up) (at_ x λo e=>mv.heap S o nw e))))
 |succ j ih=>
  intro i s t0 ej hi st kp x fin;have lt:i<n:=by omega
  refine codeAny_builtin Dr ?_;rw [Around.under_plainId xG _];show wpAny (model pr wo) A.in1 (pyNext (.ref I) >>= _) _ _ _;refine wpAny_bind (W.item i s _ _ lt st λv t hv st' mv=>?_);obtain ⟨b,k,u,kv,rfl,ek,nb,tu,hk⟩:=hP i v hv;have x':=at_ (h':=t.heap) x λo e=>mv.heap S o nw e;have kp':∀c o,c∉S::wr->h0.get? c=some o->t.heap.get? c=some o:=λc o hc e=>mv.heap c o (λz=>hc (up c z)) (kp c o hc e);obtain ⟨o,ho,hc,m,hd⟩:=tu;have hot:=kp' b o nb ho;show wpAny (model pr wo) A.in1 (holding [Value.ref b] _ >>= _) _ _ t;refine wpAny_bind (wpAny_holding (wpAny_bind (wpAny_tryCatch ?_)));unfold Builtin.Dict.pairItems;refine wpAny_bind (wpAny_typeOf (T:="tuple") ⟨o,hot,hc⟩ ?_);rw [if_pos (by decide)];obtain ⟨c0,d0,dt0,sl0⟩:=o;simp only at hc hd;subst hc hd;refine wpAny_bind ?_;unfold seqItems?;refine wpAny_bind (wpAny_load hot ?_);refine wpAny_pure (wpAny_pure ?_);show wpAny (model pr wo) A.in1 (holding [kv,u] (dictSet S kv u)) _ _ t;have len:(merged [] (kvs.take i)).length<=sizeLine:=by
   have h1:∀(l acc:List (κ×Value)),(merged acc l).length<=acc.length+l.length:=by
    intro l;induction l with
    |nil=>intro acc;exact Nat.le_refl _
    |cons p l ih2=>
     intro acc;have h2:=ih2 (stored acc p.1 p.2);have h3:=stored_length_le acc p.1 p.2;show (merged (stored acc p.1 p.2) l).length<=_;rw [List.length_cons];omega
   have h2:=h1 (kvs.take i) [];rw [List.length_take,List.length_nil] at h2;omega
  refine wpAny_holding (wpAny_dictSet_pairs (hsz:=len) hk x' λh' x2 sb=>?_);rw [← merged_take_succ [] kvs i (k,u) ek] at x2;refine wpAny_pure ⟨plainId_quiet xG _,ih (i+1) _ 0 (by omega) lt (W.frame _ t _ _ st' (Nat.le_succ _) λc hc o e=>?_) (λc o hc e=>?_) x2 λt2 mv2 x4=>?_⟩
  ·rw [sb.2 c λz=>nf (z ▸ hc)];exact e
  ·rw [sb.2 c λz=>hc (z ▸ .head _)];exact kp' c o hc e
  ·refine fin t2 (Moved.trans W.gtrans ((mv.mono up).then_heap (Nat.le_succ _) λc o hc e=>?_) mv2) x4;rw [sb.2 c λz=>hc (z ▸ .head _)];exact e
end
section
variable {pr:Program}{wo:World}{κ:Type}[DecidableEq κ]{kn:KeyKind pr wo κ}{A:Around}{E:Zv}{s:Shared}
theorem Af (hh:A.handled=none)(li:∃n sl,s.heap.get? l=some { cls:=.type "list",dict:=none,data:=.seq its n,slots:=sl })(hz:its.size<=sizeLine)(hl:kvs.length=its.size)
  (hP:∀(i:Nat) (v:Value),its[i]? = some v->∃b k u kv,v=Value.ref b/\kvs[i]? = some (k,u)/\IsTup s.heap b #[kv,u]/\kn.is k kv=true)
  (fin:∀(h':Heap) (tk:Nat),h'.DictOf kn s.heap.objs.size (merged [] kvs)->(∀b o,s.heap.get? b=some o->h'.get? b=some o)->Q (.ref s.heap.objs.size) { s with heap:=h',toks:=tk }):
  wpAny (model pr wo) A (call (.type "dict") [.ref l]) Q E s:=by
 obtain ⟨n,sl,ol⟩:=li;have ltl:l<s.heap.objs.size:=Heap.lt_size ol;refine callType_codes (Q₁:=λo t=>o=.ref s.heap.objs.size/\t={ s with heap:=s.heap.push { cls:=.type "dict",data:=.dict #[] } }) PySem.F.kt_called_dict (PySem.F.kt_typeCall_dict_1 _) PySem.F.entry_dict_init (kt_code_dict_new _ ⟨rfl,rfl⟩) λo t ht=>?_;obtain ⟨rfl,rfl⟩:=ht;have x0:(s.heap.push { cls:=.type "dict",data:=.dict #[] }).DictOf kn s.heap.objs.size []:=Heap.DictOf.new s.heap;have ol':=Heap.get?_push_of_some { cls:=.type "dict",data:=.dict #[] } ol;refine ⟨x0.typeIs,PySem.F.args_dict_init_2 _ _,?_⟩;unfold Builtin.«dict.__init__»;refine wpAny_bind ?_;unfold Builtin.Dict.selfAndRest;refine wpAny_bind (wpAny_notOrdered_dict x0.typeIs ?_);show wpAny _ _ (pure (s.heap.objs.size,[Value.ref l])) _ _ _;refine wpAny_pure ?_;show wpAny _ _ (Builtin.Dict.updateFrom "dict.__init__" s.heap.objs.size (.ref l) [] .none) _ _ _;unfold Builtin.Dict.updateFrom;refine wpAny_bind (wpAny_typeOf (T:="list") ⟨_,ol',rfl⟩ ?_);rw [if_pos (by decide)];refine wpAny_bind (Ew ol' hh λh1 t1 k1=>?_);rw [if_pos (by decide)];refine wpAny_bind (wpAny_rule (wpAny_bind ?_));have ol1:=k1 _ _ ol';have li1:h1.IsList l its:=⟨_,ol1,rfl,n,rfl⟩;refine wpAny_pyIter_list (s:={ s with heap:=h1,toks:=t1 }) li1 ?_;have szS:s.heap.objs.size<(s.heap.push { cls:=.type "dict",data:=.dict #[] }).objs.size:=by rw [Heap.size_push];exact Nat.lt_succ_self _
 have lt1:s.heap.objs.size<h1.objs.size:=by
  obtain ⟨oS,_,_,e,_⟩:=x0;exact Heap.lt_size (k1 _ _ e)
 have ltl1:l<h1.objs.size:=Nat.lt_trans ltl lt1;refine wpAny_pure ⟨plainId_quiet xG _,?_⟩;have W:=(Walks.list (prog:=pr) (w:=wo) (A:=A.in1.in1) (show A.in1.in1.handled=none from hh) h1.objs.size l (Nat.ne_of_lt ltl1) its).toS;refine NT (A:=A.in1) (kn:=kn) W s.heap.objs.size ?_ kvs (h1.push _) hz (λi v hv=>?_) its.size 0 _ 0 rfl (Nat.zero_le _) ⟨⟨_,Heap.get?_push_size _ rfl,rfl,rfl⟩,li1.push _⟩ (λb o _ e=>e) ?_ λt mv x=>?_
 ·intro m;rcases List.mem_cons.mp m with z | z
  ·exact Nat.ne_of_lt lt1 z
  ·exact Nat.ne_of_gt ltl (List.mem_singleton.mp z)
 ·obtain ⟨b,k,u,kv,rfl,e1,⟨ob,hb,rest⟩,e2⟩:=hP i v hv;have ltb:=Heap.lt_size hb;refine ⟨b,k,u,kv,rfl,e1,λm=>?_,⟨ob,Heap.get?_push_of_some _ (k1 _ _ (Heap.get?_push_of_some _ hb)),rest⟩,e2⟩;rcases List.mem_cons.mp m with z | z
  ·exact Nat.ne_of_lt ltb z
  ·exact Nat.ne_of_lt (Nat.lt_trans ltb lt1) (List.mem_singleton.mp z)
 ·obtain ⟨oS,es,ep,e,r⟩:=x0;exact ⟨oS,es,ep,Heap.get?_push_of_some _ (k1 _ _ e),r⟩
 ·rw [List.take_of_length_le (by omega)] at x;refine ⟨rfl,?_⟩;rw [Moved.eq_with mv];refine fin _ _ x λb o e=>mv.heap b o (λm=>?_) (Heap.get?_push_of_some _ (k1 _ _ (Heap.get?_push_of_some _ e)));have ltb:=Heap.lt_size e;rcases List.mem_cons.mp m with z | z
  ·exact Nat.ne_of_lt ltb z
  ·exact Nat.ne_of_lt (Nat.lt_trans ltb lt1) (List.mem_singleton.mp z)
end
def DX:List D->Option (List (D×D))
 |[]=>some []
 | .tup [k,v]::r=>(DX r).map ((k,v)::·)
 |_=>none
def xJ:List D->Option D
 |[.lst ds]=>(DX ds).bind λl=>(wW [] [] l).map λr=>.dct r.1 r.2
 |_=>none
theorem xQ:∀{l:List (D×D)} {ks rk:List Key} {ds rd:List D},wW ks ds l=some (rk,rd)->∀p∈l,∃k,HY p.1=some k
 |p::r,ks,rk,ds,rd,e,q,hq=>by
  obtain ⟨k,hk,e⟩:=Option.bind_eq_some_iff.mp e;rcases List.mem_cons.mp hq with z | z
  ·exact ⟨k,z ▸ hk⟩
  ·exact xQ e q z
section
theorem Ha (I:Inv X pins σ H s){O:Za}:∀{ds:List D} {xs:List V} {its:List Value} {l:List (D×D)},DVs (gx X) O H xs ds->Vals xs its->DX ds=some l->(∀p∈l,∃k,HY p.1=some k)->
  ∃(kv:List (Key×V)) (kw:List (Key×Value)),KV kv kw/\kw.length=its.length/\DPs (gx X) O H (kv.map λp=>(kV p.1,p.2)) l/\
   ∀(i:Nat) (v:Value),its[i]? = some v->∃b k u kl,v=Value.ref b/\kw[i]? = some (k,u)/\IsTup s.heap b #[kl,u]/\(gC X.prog X.w).is k kl=true
 |[],_,_,_,.nil,.nil,e,_=>by cases e;exact ⟨[],[],.nil,rfl,.nil,λi v z=>by cases z⟩
 |d::ds,_,_,l,.cons a r,.cons (b:=u0) ra rr,e,hk=>by
  match d,e with
  | .tup [k,v],e=>
   obtain ⟨l',e',rfl⟩:=Option.map_eq_some_iff.mp e;obtain ⟨kv,kw,q1,q2,q3,q4⟩:=Ha I r rr e' λp hp=>hk p (List.mem_cons_of_mem _ hp);obtain ⟨ky,hky⟩:=hk (k,v) List.mem_cons_self;cases a with
   |tup sq hs=>
    cases hs with
    |cons a1 r1=>
     cases r1 with
     |cons a2 r2=>
      cases r2;rename_i b x1 x2;have ex:=Hj (.inl a1) hky;subst ex;obtain ⟨ts,rt,pt,_⟩:=I.tuple sq.sq;cases rt with
      |cons t1 rt=>
       cases rt with
       |cons t2 rt=>
        cases rt;rename_i u1 u2;cases (show u0=Value.ref b from ra);refine ⟨(ky,x2)::kv,(ky,u2)::kw,.cons ⟨rfl,t2⟩ q1,by simp [q2],.cons a1 a2 q3,λi v hv=>?_⟩;cases i with
        |zero=>cases hv;exact ⟨b,ky,u2,u1,rfl,rfl,pt,Bf t1⟩
        |succ i=>exact q4 i v hv
theorem yR (hc:X.calm=true):fB X (.type "dict") (Qs (gx X) xJ):=by
 intro pins s σ H xs us Q I r h;obtain ⟨O,ds,d,m,hx,hr,q⟩:=h
 match ds,hr with
 |[.lst ds],hr=>
  obtain ⟨l,e1,e2⟩:=Option.bind_eq_some_iff.mp hr;obtain ⟨⟨rk,rd⟩,e3,rfl⟩:=Option.map_eq_some_iff.mp e2;obtain ⟨v,rfl,hv⟩:=oH hx;obtain ⟨a,ys,rfl,hp,hd⟩:=jl hv;obtain ⟨u,rfl,rx⟩:=vals1 r;cases rx;obtain ⟨its,rv,⟨o,n,ho,hc1,hd1,hs1⟩,hz⟩:=I.list hp;obtain ⟨c0,d0,dt0,sl0⟩:=o;simp only at hc1 hd1 hs1;subst hc1 hd1 hs1;have ll:=rv.length;obtain ⟨kv,kw,q1,q2,q3,q4⟩:=Ha I hd rv e1 (xQ e3);obtain ⟨kv',z1,z2,z3⟩:=Gq (acc:=[]) q3 e3 rfl .nil;have ek:kv=kv':=(List.map_inj_right λp p' e=>by
   have e':=Prod.mk.inj e;exact Prod.ext (RW e'.1) e'.2).mp z1
  subst ek;refine Af (kn:=gC X.prog X.w) (I.ok.hd hc) ⟨n,sl0,ho⟩ (by simp only [List.size_toArray];omega) (by simpa using q2) (λi v hv=>q4 i v (by simpa using hv)) λh' tk x kp=>?_;have hf:H s.heap.objs.size=none:=I.hok.fresh (Nat.le_refl _);have hm:=q1.merge (kvs:=[]) (vs:=[]) .nil;have lz:(nP [] kv).length<=sizeLine:=by
   have h1:=nH kv [];have h2:=q1.length;rw [List.length_nil] at h1;omega
  have hns:(s.heap.objs.size == sysModules)=false:=by
   have:=I.big
   simpa using Nat.ne_of_gt this
  refine ⟨.ref _,_,I.laid (t':=tk) kp (Nat.le_refl _) (show cI X.prog X.w _ h' _ (.dK (nP [] kv)) from ⟨lz,hns,_,hm,x⟩),rfl,q _ _ (aR hf _) hf ⟨_,_,aU,z2,rfl,?_⟩⟩;exact (z3.bU λc z=>z.elim .inl λe=>.inr (by rw [e];exact hf)).mono (aR hf _)
end
section
end
section
theorem DP (nd:(d == sysModules)=false)(x:lY s.heap d es ep)
  (k:Q (.ref s.heap.objs.size) { s with heap:=s.heap.push { cls:=.type "dict_items",data:=.fields #[.ref d] } }):wpAny (model prog w) A (call (.builtin "dict.items") [.ref d]) Q E s:=by
 refine wpAny_call_entry PySem.F.slot_dict_items x.ty PySem.F.entry_dict_items ?_ (PySem.F.args_dict_items_1 _);unfold Builtin.«dict.items»;refine wpAny_bind ?_;unfold Builtin.Dict.noArgs;refine wpAny_bind (wpAny_notOrdered_dict x.ty (show wpAny _ _ (pure d) _ _ s from wpAny_pure ?_));show wpAny _ _ (Builtin.Dict.showsAll d >>= _) _ _ s;unfold Builtin.Dict.showsAll;rw [if_neg (λz=>by rw [nd] at z;cases z)];exact wpAny_bind (wpAny_pure (wpAny_bind (wpAny_newObj_type (wpAny_pure ⟨_,rfl,k⟩))))
theorem TY (hv:s.heap.IsItemsView v d)(x:lY s.heap d es ep)
  (hQ:Q (.ref s.heap.objs.size) { s with heap:=s.heap.push { cls:=.type "dict_itemiterator",data:=.fields #[.none,.bool false,.ref d,.int 0 0,.int es.size 0,.int ep 0,.none,.none] } }):
  wpAny (model prog w) A (pyIter (.ref v)) Q E s:=by
 obtain ⟨ov,hov,hcv,hdv⟩:=id hv;obtain ⟨o,ho,hc,hdat⟩:=id x;refine wpAny_pyIter_slot hv.typeIs PySem.F.slot_dict_items_iter (wpAny_call_entry PySem.F.slot_dict_items_iter hv.typeIs PySem.F.entry_dict_items_iter ?_ (PySem.F.args_dict_items_iter_1 _));unfold Builtin.«dict_items.__iter__»;refine wpAny_bind (wpAny_pure ?_);refine wpAny_bind ?_;unfold Builtin.Dict_items.dictOf;refine wpAny_bind (wpAny_field hov hdv (x:=.ref d) rfl (wpAny_pure ?_));refine wpAny_bind ?_;unfold Builtin.Dict_items.newIterator;refine wpAny_bind (wpAny_dictEntries ho hdat ?_);refine wpAny_bind (wpAny_dictEpoch ho hdat ?_);have hown:Builtin.Dict_items.ownsTuple "dict_itemiterator" = true:=by decide
 simp only [hown,if_true];refine wpAny_newObj_type (wpAny_pure ⟨_,rfl, "dict_itemiterator",_,⟨_,Heap.get?_push_size _ rfl,rfl⟩,PySem.F.slot_dict_itemiterator_next.lookup,?_⟩)
  (by simp only [sizeOk,Builtin.Dict_items.ownedTupleFields,List.size_toArray,List.length_append,List.length_cons,List.length_nil,sizeLine_eq];omega)
 simpa [rawInt,Builtin.Dict_items.ownedTupleFields] using hQ
theorem Sg (hit:IsItemIter s.heap it d i es.size ep ok ov)(x:lY s.heap d es ep)(lt:i<es.size)
  (hQ:∀h',IsItemIterOut h' it d (i+1) es.size ep es[i].key es[i].val s.heap.objs.size->
   h'.get? s.heap.objs.size=some { cls:=.type "tuple",data:=.seq #[es[i].key,es[i].val] }->h'.objs.size=s.heap.objs.size+1->
   (∀b o,b≠it->s.heap.get? b=some o->h'.get? b=some o)->Q (some (.ref s.heap.objs.size)) { s with heap:=h' }):
  wpAny (model prog w) A (pyNext (.ref it)) Q E s:=by
 obtain ⟨hp,g,dr,tk,os⟩:=s;obtain ⟨od,hod,hcd,hdd⟩:=id x;have hT:Shared.TypeIs ⟨hp,g,dr,tk,os⟩ (.ref it) "dict_itemiterator":=⟨_,hit,rfl⟩;unfold pyNext;refine wpAny_bind (wpAny_attempt (wpAny_callSpecial?_slot (name:=Str.ofString "__next__") hT PySem.F.slot_dict_itemiterator_next
  (wpAny_call_entry PySem.F.slot_dict_itemiterator_next hT PySem.F.entry_dict_itemiterator_next ?_ (PySem.F.args_dict_itemiterator_next_1 _))))
 refine wpAny_bind (wpAny_pure ?_);refine wpAny_bind ?_;refine wpAny_bind ?_
 first | refine wpAny_bind (wpAny_typeNameOfWhole_itemiter hT (wpAny_pure ?_)) | refine wpAny_bind (wpAny_typeNameOf_itemiter hT (wpAny_pure ?_))
 refine wpAny_bind (wpAny_fieldsOf hit rfl ?_);have hown:Builtin.Dict_items.ownsTuple "dict_itemiterator" = true:=by decide
 simp only [hown,if_true];show wpAny _ _ (if (Value.ref d == Value.none)=true then _ else _) _ _ _;rw [if_neg (show ¬((Value.ref d == Value.none)=true) from Bool.false_ne_true)];refine wpAny_bind (wpAny_pure ?_);refine wpAny_bind (wpAny_dictEntries hod hdd ?_);rw [if_neg (by simp)];refine wpAny_bind (wpAny_pure ?_);refine wpAny_bind (wpAny_dictEpoch hod hdd ?_);rw [if_neg (by simp)];refine wpAny_pure ?_;simp only [show ¬((i:Int)<0) from by omega,if_false,Int.toNat_natCast,Array.getElem?_eq_getElem lt];refine wpAny_bind ?_
 first | refine wpAny_bind (wpAny_typeNameOfWhole_itemiter hT (wpAny_pure ?_)) | refine wpAny_bind (wpAny_typeNameOf_itemiter hT (wpAny_pure ?_))
 refine wpAny_bind (wpAny_isOneOf_itemiter hT ?_);show wpAny _ _ (setField (.ref it) 3 (rawInt ((i:Int)+1)) >>= _) _ _ ⟨hp,g,dr,tk,os⟩;refine wpAny_bind (wpAny_setField_rec hit (by simp) λh₁ he₁ hs₁=>?_)
 replace hs₁:Heap.SameBut it hp h₁:=hs₁
 replace he₁:IsItemIter h₁ it d (i+1) es.size ep ok ov:=by
  have e:((i+1:Nat):Int)=(i:Int)+1:=by omega
  unfold IsItemIter;rw [e];simpa [rawInt] using he₁
 have hT₁:Shared.TypeIs ⟨h₁,g,dr,tk,os⟩ (.ref it) "dict_itemiterator":=⟨_,he₁,rfl⟩;refine wpAny_bind (wpAny_holding ?_);refine wpAny_bind (wpAny_isOneOf_itemiter hT₁ ?_);refine wpAny_bind (wpAny_isOneOf_itemiter hT₁ ?_);show wpAny _ _ (Builtin.Dict_items.pairFromOwner (.ref it) 6 es[i].key es[i].val) _ _ ⟨h₁,g,dr,tk,os⟩;unfold Builtin.Dict_items.pairFromOwner;refine wpAny_bind (wpAny_newTuple ?_);have he₂:IsItemIter (h₁.push { cls:=.type "tuple",data:=.seq #[es[i].key,es[i].val] }) it d (i+1) es.size ep ok ov:=Heap.get?_push_of_some _ he₁;generalize hh₂:h₁.push { cls:=.type "tuple",data:=.seq #[es[i].key,es[i].val] }=h₂ at he₂;have hz₁:h₁.objs.size=hp.objs.size:=hs₁.1;have hil:it<hp.objs.size:=Heap.lt_size hit;have ht₂:h₂.get? hp.objs.size=some { cls:=.type "tuple",data:=.seq #[es[i].key,es[i].val] }:=by rw [← hh₂,← hz₁];exact Heap.get?_push_size _ rfl
 have hz₂:h₂.objs.size=hp.objs.size+1:=by rw [← hh₂,Heap.size_push,hz₁]
 have hk₂:∀b o,b≠it->hp.get? b=some o->h₂.get? b=some o:=λb o hb e=>by rw [← hh₂];exact Heap.get?_push_of_some _ (hs₁.extBut b o hb e)
 show wpAny _ _ (Builtin.Dict_items.ownedTupleIsFree (.ref it) >>= _) _ _ ⟨h₂,g,dr,tk,os⟩;rw [hz₁];clear hh₂ he₁ hs₁ hT₁ hz₁ h₁;refine wpAny_bind ?_;unfold Builtin.Dict_items.ownedTupleIsFree;refine wpAny_bind (wpAny_field he₂ rfl (x:=.none) rfl (wpAny_pure ?_));simp only [if_true];refine wpAny_bind (wpAny_field he₂ rfl (x:=ok) rfl ?_);refine wpAny_bind (wpAny_field he₂ rfl (x:=ov) rfl ?_);refine wpAny_bind (wpAny_setField_rec he₂ (by simp) λh₃ he₃ hs₃=>?_)
 replace hs₃:Heap.SameBut it h₂ h₃:=hs₃
 replace he₃:IsItemIter h₃ it d (i+1) es.size ep es[i].key ov:=he₃
 refine wpAny_bind (wpAny_setField_rec he₃ (by simp) λh₄ he₄ hs₄=>?_)
 replace hs₄:Heap.SameBut it h₃ h₄:=hs₄
 replace he₄:IsItemIter h₄ it d (i+1) es.size ep es[i].key es[i].val:=he₄
 refine wpAny_bind (wpAny_setField_rec he₄ (by simp) λh₅ he₅ hs₅=>?_)
 replace hs₅:Heap.SameBut it h₄ h₅:=hs₅
 replace he₅:IsItemIterOut h₅ it d (i+1) es.size ep es[i].key es[i].val hp.objs.size:=he₅
 refine wpAny_bind (wpAny_setField_rec he₅ (by simp) λh₆ he₆ hs₆=>?_)
 replace hs₆:Heap.SameBut it h₅ h₆:=hs₆
 replace he₆:IsItemIterOut h₆ it d (i+1) es.size ep es[i].key es[i].val hp.objs.size:=he₆
 refine wpAny_bind (wpAny_letGo (wpAny_pure (wpAny_pure ⟨_,rfl,wpAny_pure (hQ h₆ he₆ ?_ ?_ ?_)⟩)))
 ·exact hs₆.extBut _ _ (Nat.ne_of_gt hil) (hs₅.extBut _ _ (Nat.ne_of_gt hil) (hs₄.extBut _ _ (Nat.ne_of_gt hil) (hs₃.extBut _ _ (Nat.ne_of_gt hil) ht₂)))
 ·show h₆.objs.size=hp.objs.size+1;rw [hs₆.1,hs₅.1,hs₄.1,hs₃.1,hz₂]
 ·exact λb o hb e=>hs₆.extBut b o hb (hs₅.extBut b o hb (hs₄.extBut b o hb (hs₃.extBut b o hb (hk₂ b o hb e))))
theorem Ef (hh:A.handled=none)(hit:IsItemIter s.heap it d i es.size ep ok ov)(x:lY s.heap d es ep)(hge:es.size<=i)
  (hQ:∀h',Heap.ExtBut it s.heap h'->Q none { s with heap:=h' }):wpAny (model prog w) A (pyNext (.ref it)) Q E s:=by
 obtain ⟨od,hod,hcd,hdd⟩:=id x;have hT:s.TypeIs (.ref it) "dict_itemiterator":=⟨_,hit,rfl⟩;unfold pyNext;refine wpAny_bind (wpAny_attempt (wpAny_callSpecial?_slot (name:=Str.ofString "__next__") hT PySem.F.slot_dict_itemiterator_next
  (wpAny_call_entry PySem.F.slot_dict_itemiterator_next hT PySem.F.entry_dict_itemiterator_next ?_ (PySem.F.args_dict_itemiterator_next_1 _))))
 refine wpAny_bind (wpAny_pure ?_);refine wpAny_bind ?_;refine wpAny_bind ?_
 first | refine wpAny_bind (wpAny_typeNameOfWhole_itemiter hT (wpAny_pure ?_)) | refine wpAny_bind (wpAny_typeNameOf_itemiter hT (wpAny_pure ?_))
 refine wpAny_bind (wpAny_fieldsOf hit rfl ?_);have hown:Builtin.Dict_items.ownsTuple "dict_itemiterator" = true:=by decide
 simp only [hown,if_true];show wpAny _ _ (if (Value.ref d == Value.none)=true then _ else _) _ _ s;rw [if_neg (show ¬((Value.ref d == Value.none)=true) from Bool.false_ne_true)];refine wpAny_bind (wpAny_pure ?_);refine wpAny_bind (wpAny_dictEntries hod hdd ?_);rw [if_neg (by simp)];refine wpAny_bind (wpAny_pure ?_);refine wpAny_bind (wpAny_dictEpoch hod hdd ?_);rw [if_neg (by simp)];refine wpAny_pure ?_;simp only [show ¬((i:Int)<0) from by omega,if_false,Int.toNat_natCast,Array.getElem?_eq_none hge];refine wpAny_bind ?_
 first | refine wpAny_bind (wpAny_typeNameOfWhole_itemiter hT (wpAny_pure ?_)) | refine wpAny_bind (wpAny_typeNameOf_itemiter hT (wpAny_pure ?_))
 show wpAny _ _ (setField (.ref it) 2 .none >>= _) _ _ s;refine wpAny_bind (wpAny_setField hit rfl (by simp) ?_);show wpAny _ _ (newExc (.type "StopIteration") [] >>= _) _ _ _;refine wpAny_bind ?_;simp only [newExc,newTuple];refine wpAny_bind (wpAny_newObj_type ?_ (by size_fits));refine wpAny_bind (m:=firstArgMember _ _) (wpAny_of_eq (a:=Value.none) (by first | rfl | (simp only [firstArgMember];rfl)) ?_);refine wpAny_newObj_type ?_ (by size_fits);simp only [raiseNew];refine wpAny_bind (wpAny_handled ?_);rw [show A.in1.handled=none from hh];refine wpAny_bind (wpAny_pure (wpAny_throw ?_));refine wpAny_bind (wpAny_isInstance (T:="StopIteration") (b:=true) ⟨_,Heap.get?_push_size _ rfl,rfl⟩ isSubtype_stop ?_);exact wpAny_pure (hQ _ (((Heap.SameBut.update ..).extBut.push _).push _))
end
def Itm (d:Addr)(o:Obj)(u:HO)(keys vals:List V):It:=⟨λi H=>H d=some (.frz o u)/\i<keys.length,λi H x H'=>∃y z l,keys[i]? = some y/\vals[i]? = some z/\x=.ref l/\H l=none/\H'=upd H l (.tup [y,z]),λi H=>H d=some (.frz o u)/\i=keys.length⟩
theorem z7 {P:Program}{w:World}{K:W.Frag}{elts:List Expr}{x1}{pos:Pos}(it d:Addr)(o:Obj)(u:HO)(es:Array DictEntry)(ep:Nat)(keys vals:List V)(hx:o.ExactDict)(ht:o.data=.dict es ep)(hv:Vals keys (es.toList.map (·.key)))(hw:Vals vals (es.toList.map (·.val))):
  Turn P w K (.Tuple elts x1 pos) (Itm d o u keys vals) [it] it (λi h=>∃ok ov,IsItemIter h it d i es.size ep ok ov) where
 mem:=by simp
 obj:=λi h st b hb=>by
  cases List.mem_singleton.mp hb;obtain ⟨_,_,e⟩:=st;exact ⟨_,e,λv z=>by cases (show Data.fields _=Data.cell v from z)⟩
 keep:=λi h h' st k=>by
  obtain ⟨a,b,e⟩:=st;exact ⟨a,b,k it (by simp) _ e⟩
 item:=by
  intro X hP hw' hK hc i pins s σ H E I hf st hg;subst hP hw' hK;have fe:=hf it (by simp);obtain ⟨f0,f1,f2,f3,f4,f5⟩:=fe;obtain ⟨hd,hl⟩:=hg;obtain ⟨ho,_⟩:=I.hok d _ hd;have hlen:keys.length=es.size:=by have:=hv.length;simpa using this
  have lt:i<es.size:=by omega
  obtain ⟨ok,ov,st⟩:=st;obtain ⟨y,y1,y2⟩:=wR (i:=i) (u:=es[i].key) hv (by simp [lt]);obtain ⟨z,z1,z2⟩:=wR (i:=i) (u:=es[i].val) hw (by simp [lt]);refine Sg st ⟨o,ho,hx,ht⟩ lt λh' eo htu hsz kk=>?_;obtain ⟨vs,fe'⟩:∃vs,(⟨.type "dict_itemiterator",none,.fields #[rawInt s.heap.objs.size,.bool false,.ref d,.int (i+1:Nat) 0,.int es.size 0,.int ep 0,es[i].key,es[i].val],#[]⟩:Obj).data=.fields vs:=⟨_,rfl⟩;have I1:Inv X pins σ H { s with heap:=s.heap.update it λ_=>⟨.type "dict_itemiterator",none,.fields #[rawInt s.heap.objs.size,.bool false,.ref d,.int (i+1:Nat) 0,.int es.size 0,.int ep 0,es[i].key,es[i].val],#[]⟩ }:=
   I.turned (t':=s.toks) (λb o hb x=>(Heap.get?_update_other _ _ (Ne.symm hb)).trans x) f0 f1 f3 f4 f5
  have k1:∀b u,(s.heap.update it λ_=>⟨.type "dict_itemiterator",none,.fields #[rawInt s.heap.objs.size,.bool false,.ref d,.int (i+1:Nat) 0,.int es.size 0,.int ep 0,es[i].key,es[i].val],#[]⟩).get? b=some u->h'.get? b=some u:=λb u x=>by
   by_cases q:b=it
   ·subst q;rw [Heap.get?_update_self _ st (tY fe')] at x;cases x;exact eo
   ·rw [Heap.get?_update_other _ _ (Ne.symm q)] at x;exact kk b u q x
  have sz1:(s.heap.update it λ_=>⟨.type "dict_itemiterator",none,.fields #[rawInt s.heap.objs.size,.bool false,.ref d,.int (i+1:Nat) 0,.int es.size 0,.int ep 0,es[i].key,es[i].val],#[]⟩).objs.size=s.heap.objs.size:=(Heap.SameBut.update _ _ _).1;have I2:Inv X pins σ (upd H s.heap.objs.size (.tup [y,z])) { s with heap:=h' }:=
   I1.laid (t':=s.toks) k1 (Nat.le_of_eq sz1) (show cI X.prog X.w _ _ _ (.tup [y,z]) from ⟨(show 2<=sizeLine by decide),[es[i].key,es[i].val],.cons y2 (.cons z2 .nil),⟨_,htu,rfl,_,rfl⟩⟩)
  have fr:H s.heap.objs.size=none:=I.hok.fresh (Nat.le_refl _);have ne1:it≠s.heap.objs.size:=Nat.ne_of_lt (Heap.lt_size st);refine ⟨_,rfl,wpAny_letOwnedTupleGo_items (s:={ s with heap:=h' }) eo λh2 e2 sb=>?_⟩;refine ⟨.ref s.heap.objs.size,_,I2.turned (t':=s.toks) (λb o hb y=>(sb.2 b hb).trans y) (by rw [aV ne1];exact f0) f1 f3 f4 f5,rfl,⟨y,z,_,y1,z1,rfl,fr,rfl⟩,⟨_,_,e2⟩,λb hb=>?_⟩;cases List.mem_singleton.mp hb;rw [aV ne1];exact f0
 done:=by
  intro X hP hw' hK hc i pins s σ H E I hf st hg;subst hP hw' hK;obtain ⟨f0,f1,f2,f3,f4,f5⟩:=hf it (by simp);obtain ⟨hd,hl⟩:=hg;obtain ⟨ho,_⟩:=I.hok d _ hd;have hlen:keys.length=es.size:=by have:=hv.length;simpa using this
  obtain ⟨ok,ov,st⟩:=st;exact Ef (I.ok.hd hc) st ⟨o,ho,hx,ht⟩ (by omega) λh' kk=>⟨rfl,I.turned (t':=s.toks) (λb q hb e=>kk b q hb e) f0 f1 f3 f4 f5⟩
 self:=λA i s Q E st h=>let ⟨_,_,st⟩:=st;W.kcp_self st h
section
theorem Nb (hd:(d == sysModules)=false)(x:lY s.heap d es ep)(hfit:(es.size:Int)<2 ^ 63)
  (h:Q (.int es.size (s.toks+1)) { s with toks:=s.toks+1+1 }):wpAny (model prog w) A (call (.builtin "len") [.ref d]) Q E s:=by
 obtain ⟨o,ho,hc,hdat⟩:=id x;refine Calls.call_function_entry kind_len plain_len entry_len (args_len1 _) ?_;unfold Builtin.«len»;refine wpAny_bind (m:=oneArg "len" _) (wpAny_pure ?_);refine wpAny_bind (m:=callSpecial? (.ref d) (Str.ofString "__len__")) (wpAny_callSpecial?_slot (name:=Str.ofString "__len__") x.ty PySem.F.slot_dict_len
  (wpAny_call_entry PySem.F.slot_dict_len x.ty PySem.F.entry_dict_len ?_ (PySem.F.args_dict_len_1 _)))
 show wpAny _ _ (dictSize d >>= _) _ _ s;unfold dictSize;refine wpAny_bind (wpAny_bind (wpAny_dictEntries ho hdat (wpAny_pure ?_)));show wpAny _ _ (Builtin.Dict.pendingCount d >>= _) _ _ s;refine wpAny_bind (wpAny_pendingCount_other hd ?_);refine wpAny_ret_mkInt ?_;rw [Nat.add_zero];show wpAny _ _ _ _ _ { s with toks:=s.toks+1 };refine wpAny_bind (wpAny_holding (wpAny_pure ?_));refine wpAny_bind (wpAny_letGo ?_);show wpAny _ _ (if ((es.size:Nat):Int)<0 then _ else _) _ _ _;rw [if_neg (by omega)];show wpAny _ _ (if ((es.size:Nat):Int) ≥ 2 ^ 63 then _ else _) _ _ _;rw [if_neg (by omega)];exact wpAny_bind (wpAny_mkInt (wpAny_pure ⟨_,rfl,h⟩))
end
theorem Uc (I:Inv X pins σ H s)(e:Rd H a (.dT T kvs)):
  kvs.length<=sizeLine/\(a == sysModules)=false/\∃es ep,lY s.heap a es ep/\es.size=kvs.length:=by
 obtain ⟨hz,hd,xs,rel,o,es,ep,ho,hx,ht,he,nd⟩:=(show cI X.prog X.w H s.heap a (.dT T kvs) from e.ok I.hok);exact ⟨hz,hd,es,ep,⟨o,ho,hx,ht⟩,by rw [size_of_entries he,Paired.length rel]⟩
def pJ:List D->Option D
 |[d]=>(dcK d).map λp=>.int p.1.length
 |_=>none
section
variable {X:Cx}
theorem zH:fB X (.builtin "len") (rGC (gx X) pJ):=by
 intro pins s σ H xs us Q I r h;obtain ⟨O,ds,d,m,hx,hr,q⟩:=h
 match ds,hr with
 |[e],hr=>
  obtain ⟨p,e1,rfl⟩:=omap (show (dcK e).map _=some d from hr);obtain ⟨v,rfl,hv⟩:=oH hx;obtain ⟨ks,es⟩:=p;obtain ⟨a,kvs,rfl,hp,hk,hd⟩:=IW hv e1;obtain ⟨u,rfl,rx⟩:=vals1 r;cases rx;obtain ⟨hz,nd,es',ep,x,sz⟩:=Uc I hp;have hz2:(sizeLine:Int)<2 ^ 63:=by decide
  refine Nb nd x (by rw [sz];omega) ?_;refine ⟨.int es'.size,H,I.tok _,⟨_,rfl⟩,?_⟩;have e3:es'.size=ks.length:=by rw [sz,← hk,List.length_map]
  rw [e3];exact q _ _ (aH.refl _) (.int _)
def U0:List D->Option D
 |[.dcf ks _]=>some (.lst (ks.map tupK))
 |_=>none
end
def U4 (fo:Zl):Zl:=λm=>(fo m).bind λd=>match d with
 | .dcf ks _=>.ok (.lst (ks.map tupK))
 |_=>.stuck
section
end
section
def qX (p a:Addr)(h:Heap):Prop:=h.IsItemsView p a
def Ra (X:Cx):V->List V->Hp->VK->Prop:=λx vs H Q=>∃a o kvs,x=.ref a/\vs=[]/\H a=some (.frz o (.dT (KTp X.K) kvs))/\∀p,H p=none->Q (.ref p) (upd H p (.ext (qX p a)))
theorem Iv:MtR X "dict.items" (Ra X):=by
 intro pins s σ H x vs v us Q I rx rv h;obtain ⟨a,o,kvs,rfl,rfl,e,q⟩:=h;cases rx;have hus:=rv.zero;subst hus;obtain ⟨hz,hd,es,ep,x,_⟩:=Uc I (.inr ⟨_,e⟩);refine DP hd x ?_;exact ⟨.ref _,_,I.laid (t':=s.toks) (λb o e=>Heap.get?_push_of_some _ e) (Nat.le_refl _) (show cI X.prog X.w _ _ _ (.ext (qX s.heap.objs.size a)) from ⟨⟨_,Heap.get?_push_size _ rfl,rfl,rfl⟩,⟨_,Heap.get?_push_size _ rfl⟩,λh1 h2 ⟨o,e,r⟩ k=>⟨o,k o e,r⟩⟩),rfl,q _ (I.hok.fresh (Nat.le_refl _))⟩
def Rw (K:W.Frag)(tl:TE):TI:=λσ H R=>tl σ H λx H1=>∃p d o kvs,x=.ref p/\H1 p=some (.ext (qX p d))/\H1 d=some (.frz o (.dT (KTp K) kvs))/\∀keys,KeysOf K H1 kvs keys->R (Itm d o (.dT (KTp K) kvs) keys (kvs.map (·.2))) H1
theorem JS (hl:PE X l tl):PI X (.Tuple elts x1 pt) l (Rw X.K tl):=by
 intro pins s σ H R I h;refine thn (hl pins s σ H _ I h) λv s1 hE=>xq2 hE λx H1 I1 r1 q1=>?_;obtain ⟨p,d,o,kvs,rfl,ep,e,q⟩:=q1;cases r1;obtain ⟨ho,z,y,xs,r,o',es,ep',h1,h2,h3,h4,h5⟩:=I1.hok d _ e;cases ho.symm.trans h1;obtain ⟨vw,_⟩:=I1.hok p _ ep;have fp:∀b∈[s1.heap.objs.size],o4 X pins H1 b:=λb hb=>by
  cases List.mem_singleton.mp hb;exact I1.FJ (Nat.le_refl _) (I1.hok.fresh (Nat.le_refl _))
 refine TY vw ⟨o,ho,h2,h3⟩ ?_;refine ⟨s1.heap.objs.size,[s1.heap.objs.size],_,_,H1,rfl,I1.kept (t':=s1.toks) λb o e=>Heap.get?_push_of_some _ e,z7 _ d o _ es ep' (xs.map λq=>V.ref q.2.1) (kvs.map (·.2)) h2 h3 ?_ ?_,⟨_,_,Heap.get?_push_size _ rfl⟩,fp,q _ (Cv r)⟩
 ·rw [h4];exact vm xs
 ·rw [h4,List.map_map];clear h4 h5 q e z ho h1;induction r with
  |nil=>exact .nil
  |cons h _ ih=>exact .cons h.2.2 ih
def jB:List (List Kt)->List D->List D
 |k::ks,d::ds=>.tup [tupK k,d]::jB ks ds
 |_,_=>[]
theorem oh:∀{ks:List (List Kt)} {ds:List D},ks.length=ds.length->(jB ks ds).length=ks.length
 |[],[],_=>rfl
 |_::ks,_::ds,h=>by simp [jB];exact oh (by simpa using h)
theorem vg:∀{ks:List (List Kt)} {ds:List D} {i:Nat} {k:List Kt} {d:D},ks[i]? = some k->ds[i]? = some d->(jB ks ds)[i]? = some (.tup [tupK k,d])
 |[],_,_,_,_,h,_=>by simp at h
 |_::_,[],_,_,_,_,h=>by simp at h
 |k::ks,d::ds,0,_,_,h,g=>by simp at h g;subst h g;rfl
 |k::ks,d::ds,i+1,_,_,h,g=>by simpa [jB] using vg (i:=i) (by simpa using h) (by simpa using g)
def Q3 (f:Zl):Ze:=λm=>(f m).bind λd=>match d with
 | .dcf ks ds=>.ok (jB ks ds)
 |_=>.stuck
theorem Ju (m:∀b,O b->eE (H b))(e:H d=some (.frz o (.dT (KTp G.K) kvs)))(hk:KeysOf G.K H kvs keys)(hd:DVs G O H (kvs.map (·.2)) ds):
  qQ G (Itm d o (.dT (KTp G.K) kvs) keys (kvs.map (·.2))) (jB (kvs.map (·.1)) ds) (λO' H2=>Ev O H O' H2):=by
 intro O' H2 ev;have e2:H2 d=some (.frz o (.dT (KTp G.K) kvs)):=ev.2 _ _ e (ju m e rm);have hl:=hk.len;have hl2:=bx hd;have hln:(jB (kvs.map (·.1)) ds).length=kvs.length:=by rw [oh (by simpa using hl2)];simp
 refine ⟨λi hi=>⟨e2,by rw [hln] at hi;omega⟩,λi x H' hi y=>?_,e2,by rw [hln];omega⟩;obtain ⟨y,z,l,h1,h2,rfl,fr,rfl⟩:=y;obtain ⟨p,b,q1,rfl,q3⟩:=(Aw m ev.2 hk).at h1;obtain ⟨d',w1,w2⟩:=lK (hd.go m ev) h2;exact ⟨aR fr _,.tup [tupK p.1,d'],vg (by simp [q1]) w1,.tup (SqU.of aU) (.cons ((KQ q3).mono (aR fr _)) (.cons (w2.mono (aR fr _)) .nil))⟩
theorem Im (h:FE X E o f)(hbase:attributeBase o "items" X.env (eval o X.env)=eval o X.env:=by rfl)(hline:(apos.endLine == cpos.line)=true:=by rfl):
  FI X E (.Tuple elts x1 pt) (.Call (.Attribute o "items" apos) [] [] cpos) (Q3 f):=
 jU (JS (zF PySem.F.plainAttrs_dict PySem.F.slot_dict_items PySem.F.type_dict_items Iv h hbase hline)) λσ H R hE=>xq5 hE λO0 M0 H0 ow m Re q=>⟨O0,M0,H0,ow,m,Re,q.bind.imp (aH.refl _) λd q v H' g hv=>by
  cases d with
  |dcf ks ds=>
   cases hv with
   | @dcf a ob kvs _ _ _ e1 e2 e3 hs=>
    subst e2 e3;refine ⟨.inr (.inr (.inl ⟨rfl,.inr ⟨_,kvs,.inr ⟨ob,e1⟩⟩⟩)),a,ob,kvs,rfl,rfl,e1,λb hb=>?_⟩;have ne:a≠b:=λz=>by rw [z,hb] at e1;cases e1
    have gb:=aR (o:=.ext (qX b a)) hb;refine ⟨b,a,ob,kvs,rfl,aU,by rw [aV ne];exact e1,λkeys hk=>?_⟩;exact q _ _ (g.trans gb) (Ju ((Re.mono (g.trans gb)).mutk) (by rw [aV ne];exact e1) hk (hs.mono gb))
  |_=>exact q.elim⟩
end
def Ey (m:Me)(i:Nat):Option (Bool×D):=match m[i]? with
 |some (.ow d)=>some (true,d)
 |some (.io d)=>some (false,d)
 |_=>none
def Js (m:Me)(i:Nat)(k:Bool)(d:D):Me:=m.set i (if k then .ow d else .io d)
section
theorem NB (R:Rel G O0 M0 H0 ow σ H m){i:Nat}{k:Bool}{d:D}(e:Ey m i=some (k,d)):∃a,ow i=some a/\σ[i]? = some (some (.ref a))/\OV G (Ow O0 ow) H a d/\((m[i]? = some (.ow d)/\k=true)\/(m[i]? = some (.io d)/\k=false)):=by
 unfold Ey at e;split at e
 ·rename_i q;cases e;obtain ⟨a,e1,e2,e3,e4⟩:=R.slot i _ q;exact ⟨a,e1,e3,e4,.inl ⟨q,rfl⟩⟩
 ·rename_i q;cases e;obtain ⟨a,e1,e2,e3,e4⟩:=R.slot i _ q;exact ⟨a,e1,e3,e4,.inr ⟨q,rfl⟩⟩
 ·cases e
end
def jd {α:Type}(p:Nat)(x:α)(l:List α):List α:=l.take p++x::l.drop p
theorem uz:(jd p x l).length=l.length+1:=by
 simp [jd];omega
theorem Ca (h:p<=l.length):(jd p x l)[p]? = some x:=by simp_all [List.getElem?_append_right,Nat.min_eq_left,jd]
theorem Dk (h:i<p)(hp:p<=l.length):(jd p x l)[i]? = l[i]?:=by
 unfold jd;rw [List.getElem?_append_left (by simp;omega),List.getElem?_take_of_lt h]
theorem Dm (h:p<=i)(hp:p<=l.length):(jd p x l)[i+1]? = l[i]?:=by grind [List.getElem?_append_right,Nat.min_eq_left,List.getElem?_cons_succ,List.getElem?_drop,jd]
def yq (G:Gx)(p:Nat)(Φ:List D->D->Res (D×D)):Sp:=λvs H Q E=>∃O a us ds d,vs=jd p (.ref a) us/\p<=ds.length/\(∀b,O b->eE (H b))/\O a/\OV G O H a d/\DVs G O H us ds/\match Φ ds d with
 | .ok (r,d')=>∀v H',Kp (· = a) H H'->OV G O H' a d'->DV G O H' v r->Q v H'
 | .exc c=>∀C H',G.mg c=some (.ref C)->Kp (· = a) H H'->E (.ref C) none H'
 | .stuck=>False
def nJ (m:Me)(p:Nat):Option D:=match m[p]? with
 |some (.io d)=>some d
 |_=>none
def gm (p N n:Nat)(g:Zg):List D->D->Res (D×D):=λds d=>if ds.length+1=n then match g (jd p (.io d) (ds.map Sl.fz)++List.replicate (N-n) Sl.un) with
  | .ok (.rt _ r,m')=>(ofO (nJ m' p)).bind λd'=>.ok (r,d')
  | .ok (.nx,m')=>(ofO (nJ m' p)).bind λd'=>.ok (.non,d')
  | .exc c=>.exc c
  |_=>.stuck
 else .stuck
theorem yE (h:nJ m p=some d):m[p]? = some (.io d):=by grind [nJ]
abbrev N6 (P:Program)(w:World)(K:W.Frag)(mg:Zs)(base:Heap)(k:Nat)(x:Str)(ps:List Str)(p:Nat)(Φ:List D->D->Res (D×D)):Prop:=Hd.Fn P w K mg base k x ps (yq ⟨K,mg⟩ p Φ)
theorem Ba (h:O a):Ow (λb=>O b/\b≠a) (owS (λ_=>none) p (some a))=O:=by
 funext b;refine propext ⟨λz=>?_,λz=>?_⟩
 ·rcases z with z | ⟨i,e⟩
  ·exact z.1
  ·by_cases q:i=p
   ·subst q;rw [b8] at e;cases e;exact h
   ·rw [b7 q] at e;cases e
 ·by_cases q:b=a
  ·subst q;exact .inr ⟨p,b8⟩
  ·exact .inl ⟨z,q⟩
theorem Ep (hp:p<=ds.length)(hm:∀b,O b->eE (H b))(oa:O a)(ho:OV G O H a d)(hd:DVs G O H us ds)(hn:ds.length+1=n)(hN:n<=N.length):
  cY G (λb=>O b/\b≠a) (· = a) H (owS (λ_=>none) p (some a)) (L2.start N (jd p (.ref a) us)) H (jd p (.io d) (ds.map Sl.fz)++List.replicate (N.length-n) Sl.un):=by
 have hl:=bx hd;have nz:∀i,i≠p->owS (λ_=>none) p (some a) i=none:=λi h=>b7 h;have hlen:(jd p (V.ref a) us).length=n:=by rw [uz,hl];exact hn
 have hst:∀i x,(jd p (V.ref a) us)[i]? = some x->(L2.start N (jd p (.ref a) us))[i]? = some (some x):=λi x e=>by
  have hi:i<(jd p (V.ref a) us).length:=(List.getElem?_eq_some_iff.mp e).1;unfold L2.start;rw [List.getElem?_append_left (by simpa using hi),List.getElem?_map,e];rfl
 have hml:(jd p (Sl.io d) (ds.map Sl.fz)).length=n:=by rw [uz,List.length_map];exact hn
 have key:∀(i:Nat) (s:Sl),(jd p (Sl.io d) (ds.map Sl.fz)++List.replicate (N.length-n) Sl.un)[i]? = some s->
   (i=p/\s=.io d)\/(i≠p/\∃d1 x,s=.fz d1/\DV G O H x d1/\(jd p (V.ref a) us)[i]? = some x)\/(i≠p/\s=.un):=λi s e=>by
  by_cases hi:i<n
  ·rw [List.getElem?_append_left (by rw [hml];exact hi)] at e;by_cases q:i=p
   ·subst q;rw [Ca (by simpa using hp)] at e;cases e;exact .inl ⟨rfl,rfl⟩
   ·refine .inr (.inl ⟨q,?_⟩);by_cases lt:i<p
    ·rw [Dk lt (by simpa using hp),List.getElem?_map] at e;cases ed:ds[i]? with
     |none=>rw [ed] at e;cases e
     |some d1=>
      rw [ed] at e;cases e;obtain ⟨x,hx,dx⟩:=qt hd ed;exact ⟨d1,x,rfl,dx,by rw [Dk lt (by omega)];exact hx⟩
    ·obtain ⟨j,rfl⟩:∃j,i=j+1:=⟨i - 1,by omega⟩;rw [Dm (by omega) (by simpa using hp),List.getElem?_map] at e;cases ed:ds[j]? with
     |none=>rw [ed] at e;cases e
     |some d1=>
      rw [ed] at e;cases e;obtain ⟨x,hx,dx⟩:=qt hd ed;exact ⟨d1,x,rfl,dx,by rw [Dm (by omega) (by omega)];exact hx⟩
  ·rw [List.getElem?_append_right (by rw [hml];omega),List.getElem?_replicate] at e;split at e
   ·cases e;exact .inr (.inr ⟨by omega,rfl⟩)
   ·cases e
 refine ⟨⟨?_,λb o e _=>e,λb z=>?_,λb z=>by rw [Ba oa] at z;exact hm b z,λi b e=>?_,λi j b e1 e2=>?_,λi hi=>?_,λi s e=>?_⟩,λj d' e=>?_⟩
 ·rw [List.length_append,hml,List.length_replicate];unfold L2.start;rw [List.length_append,List.length_map,hlen,List.length_replicate]
 ·have z:b=a:=z;rw [z];rcases ho.mut with ⟨_,e⟩ | ⟨_,e⟩ | ⟨_,e⟩ | ⟨_,e⟩<;>rw [e]<;>simp
 ·by_cases q:i=p
  ·subst q;rw [b8] at e;cases e;exact λz=>z.2 rfl
  ·rw [nz i q] at e;cases e
 ·by_cases q:i=p
  ·by_cases q':j=p
   ·rw [q,q']
   ·rw [nz j q'] at e2;cases e2
  ·rw [nz i q] at e1;cases e1
 ·exact nz i (by rw [List.length_append,hml] at hi;omega)
 ·rw [Ba oa];rcases key i s e with ⟨rfl,rfl⟩ | ⟨q,d1,x,rfl,dx,hx⟩ | ⟨q,rfl⟩
  ·exact ⟨a,b8,rfl,hst _ _ (Ca (by omega)),ho⟩
  ·exact ⟨nz _ q,x,hst _ _ hx,dx⟩
  ·exact nz _ q
 ·rcases key j _ e with ⟨_,z⟩ | ⟨_,_,_,z,_⟩ | ⟨_,z⟩<;>cases z
section
variable {P:Program}{w:World}{K:W.Frag}{mg:Zs}{base:Heap}
theorem Ga {x qual:Str}{st:Stmt}{f:Addr}{fd:FuncData}{N ps:List Str}{k:Nat}(p:Nat){g:Zg}(Fu:Fun K x qual st f fd)(S:bC N ps (aJ st))(hN:ps.length<=N.length)
  (hbody:∀(cdv:Value) (A:Around) (outer:List Env) (s:Shared) (H:Hp) (E:XK),gW k (A.deeper (envOfC qual (aJ st) s.heap.objs.size f cdv))->
   FSs (mH (CX1 P w) P w K mg base N qual (aJ st) f cdv A outer s H E) E (iD st) g):dm P w K mg base (CX1 P w) (k+1) f fd ps (yq ⟨K,mg⟩ p (gm p N.length ps.length g)):=by
 have cond:∀{ds:List D} {d:D},gm p N.length ps.length g ds d≠.stuck->ds.length+1=ps.length:=λ{ds d} h=>by
  by_cases z:ds.length+1=ps.length
  ·exact z
  ·unfold gm at h;rw [if_neg z] at h;exact absurd rfl h
 refine CQ Fu S (λvs H Q E h=>?_) (λcdv A outer s H vs Q E hr h=>?_)
 ·obtain ⟨O,a,us,ds,d,rfl,_,_,_,_,hd,q⟩:=h;rw [uz,bx hd];exact cond λz=>by rw [z] at q;exact q
 ·obtain ⟨O,a,us,ds,d,rfl,hp,hm,oa,ho,hd,q⟩:=h;have hn:=cond (ds:=ds) (d:=d) λz=>by rw [z] at q;exact q
  unfold gm at q;rw [if_pos hn] at q;refine ⟨_,hbody cdv A outer s H E hr,_,_,H,_,_,Ep hp hm oa ho hd hn hN,?_⟩;have fin:∀{ow' σ' H' m' d'},cY (⟨K,mg⟩:Gx) (λb=>O b/\b≠a) (· = a) H ow' σ' H' m'->m'[p]? = some (Sl.io d')->Kp (· = a) H H'/\OV ⟨K,mg⟩ O H' a d'/\∀v r,DV (⟨K,mg⟩:Gx) (Ow (λb=>O b/\b≠a) ow') H' v r->DV ⟨K,mg⟩ O H' v r:=λ{ow' σ' H' m' d'} R e=>by
   obtain ⟨a',e1,e2,e3,e4⟩:=R.slot p _ e;have e2:a'=a:=e2;subst e2;have sub:∀b,O b->Ow (λb=>O b/\b≠a') ow' b\/H' b=none:=λb z=>by
    by_cases q:b=a'
    ·exact .inl (.inr ⟨p,by rw [q];exact e1⟩)
    ·exact .inl (.inl ⟨z,q⟩)
   exact ⟨R.keep,e4.bU sub,λv r h=>h.bU sub⟩
  cases z:g (jd p (.io d) (ds.map Sl.fz)++List.replicate (N.length-ps.length) Sl.un) with
  |exc c=>rw [z] at q;exact λC H' e kp=>q C H' e kp
  |stuck=>rw [z] at q;exact q.elim
  |ok b=>
   obtain ⟨fl,m'⟩:=b;rw [z] at q;cases fl with
   |bk=>exact q.elim
   |ct=>exact q.elim
   |nx=>
    intro ow' σ' H' R' _;cases e0:nJ m' p with
    |none=>simp only [e0] at q;exact q.elim
    |some es'=>
     simp only [e0] at q;obtain ⟨k1,k2,k3⟩:=fin R' (yE e0);exact q _ H' k1 k2 .non
   |rt fr r=>
    intro v ow' σ' H' R' _ hv _;cases e0:nJ m' p with
    |none=>simp only [e0] at q;exact q.elim
    |some es'=>
     simp only [e0] at q;obtain ⟨k1,k2,k3⟩:=fin R' (yE e0);exact q v H' k1 k2 (k3 _ _ hv)
theorem Pg {k p:Nat}{f:Addr}{fd:FuncData}{ps:List Str}:dm P w K mg base (CX1 P w) k f fd ps (yq ⟨K,mg⟩ p λ_ _=>.stuck):=
 ⟨λ_ _ _ _ ⟨_,_,_,_,_,_,_,_,_,_,_,q⟩=>q.elim,λ_ _ _ _ _ _ _ _ _ _ _ _ _ ⟨_,_,_,_,_,_,_,_,_,_,_,q⟩=>q.elim⟩
end
def tAH (G:Gx)(E:XK)(i p:Nat)(f:Ze):TA:=λσ H Q=>∃O0 M0 H0 ow m a,Rel G O0 M0 H0 ow σ H m/\σ[i]? = some (some (.ref a))/\Pu G E (f m) H λds=>p<=ds.length/\∀us H',aH H H'->DVs G (Ow O0 ow) H' us ds->Q (jd p (.ref a) us) H'
abbrev FAH (X:Cx)(E:XK)(es:List Expr)(i p:Nat)(f:Ze):Prop:=PA X es (tAH (gx X) E i p f)
section
theorem yO (ha:FAE X E es fs)(hN:X.N[i]? = some y:=by rfl)(hv:Vis X.env.scope y:=by first | exact Or.inl rfl | exact Or.inr (Or.inl rfl) | exact Or.inr (Or.inr rfl))(hd:(y == ("__debug__" : Str))=false:=by decide)(hcd:(y == ("__classdict__" : Str))=false:=by decide)
  (he:starEach (.Name y np::es) X.env=(false,eval (.Name y np) X.env)::starEach es X.env:=by rfl):FAH X E (.Name y np::es) i 0 fs:=
 jT (dg (jk hN hv hd hcd) ha he) λσ H Q ⟨O0,M0,H0,ow,m,a,R,ea,q⟩=>
  ⟨_,ea,O0,M0,H0,ow,m,R,q.imp (aH.refl _) λds q vs H' g hv=>q.2 vs H' g hv⟩
theorem iZ (ha:FE X E e fa)(hr:FAH X E es i p fs)(he:starEach (e::es) X.env=(false,eval e X.env)::starEach es X.env:=by rfl):FAH X E (e::es) i (p+1) (aj fa fs):=
 jT (dg ha hr he) λσ H Q ⟨O0,M0,H0,ow,m,a,R,ea,q⟩=>⟨O0,M0,H0,ow,m,R,q.bind.imp (aH.refl _) λd q v H1 g1 hv=>
  ⟨O0,M0,H0,ow,m,a,R.mono g1,ea,q.bind.imp g1 λds q=>⟨by have:=q.1;simpa using this,λus H2 g2 hus=>q.2 _ H2 (g1.trans g2) (.cons (hv.mono g2) hus)⟩⟩⟩
end
def uX (Φ:List D->D->Res (D×D))(i p:Nat)(fs:Ze):Me->Res (D×Me):=λm=>(ofO (Ey m i)).bind λo=>(fs m).bind λds=>if p<=ds.length then (Φ ds o.2).bind λr=>.ok (r.1,Js m i o.1 r.2) else .stuck
theorem Xs.at (h:Xs G E O0 M0 H0 ow σ H r k)(g:aH H H1):Xs G E O0 M0 H0 ow σ H1 r k:=h.imp (Go.refl g) λ_ _ _ _ _ _ q=>q
theorem Hv (i:Nat)(Fh:N6 X.prog X.w X.K X.mg X.base k x ps p Φ)(hr:gW j X.A)(hx:Passes (CX1 X.prog X.w) X E)(ha:FAH X E (e0::es) i p fs)(hk:k<=j:=by decide)(hg:Gl X x:=by rfl)
  (hdb:(x == ("__debug__" : Str))=false:=by decide) (he:starEach (e0::es) X.env=(false,eval e0 X.env)::starEach es X.env:=by rfl) (hpl:(backTo pos (starEach es X.env)).any (·.1)=false:=by rfl):
  FX X E (.Call (.Name x pp) (e0::es) [] pos) (uX Φ i p fs):=by
 obtain ⟨f,fd,G,b,kp,m⟩:=Fh.ex;refine bc (BR G (hr.mono hk) hg m kp b .nil hx ha hdb he hpl) λσ H Q hE=>xq5 hE λO0 M0 H0 ow m R q=>?_;obtain ⟨o,ho,q⟩:=(Xs.pu R.toRel q).ofO;obtain ⟨kk,d0⟩:=o;obtain ⟨a,e1,e2,e4,e5⟩:=NB R.toRel ho;refine ⟨O0,M0,H0,ow,m,a,R.toRel,e2,(Xs.pu R.toRel q).imp (aH.refl _) λds q=>?_⟩;by_cases hp:p<=ds.length
 case neg=>rw [if_neg hp] at q;exact q.elim
 rw [if_pos hp] at q;refine ⟨hp,λus H1 g1 hus=>?_⟩;have R1:=R.mono g1;have q:Xs (gx X) E O0 M0 H0 ow σ H1 ((Φ ds d0).bind λr=>.ok (r.1,Js m i kk r.2)) _:=q.at g1;show yq _ _ _ (jd p (V.ref a) us++[]) _ _ _;rw [List.append_nil];refine ⟨Ow O0 ow,a,us,ds,d0,rfl,hp,R1.mutk,.inr ⟨i,e1⟩,e4.mono g1,hus,?_⟩;cases z:Φ ds d0 with
 |stuck=>rw [z] at q;exact q.elim
 |exc c=>
  rw [z] at q;refine λC H' e g=>q C H' e λb o e n=>?_;refine g b o (R1.keep b o e n) λw=>?_;subst w;rcases e5 with ⟨s,_⟩ | ⟨s,_⟩
  ·obtain ⟨a',s1,s2,_⟩:=R.slot i _ s;rw [e1] at s1;cases s1;rw [s2] at e;cases e
  ·obtain ⟨a',s1,s2,_⟩:=R.slot i _ s;rw [e1] at s1;cases s1;exact n s2
 |ok r=>
  obtain ⟨d,d'⟩:=r;rw [z] at q;intro v H' g ov hv;refine q H' (R1.chg (d:=d0) (d':=d') e1 g ov ?_) (Go.chg e1 g ov) v hv;rcases e5 with ⟨s,rfl⟩ | ⟨s,rfl⟩
  ·exact .inl ⟨s,rfl⟩
  ·exact .inr ⟨s,rfl⟩
section
variable {G:Gx}{O0 M0:Za}{H0 H H':Hp}{ow:Os}{σ:L2.St}{m m':Me}
end
section
variable {X:Cx}{E:XK}{e b ke:Expr}{f fb fk:Zl}{pos spos:Pos}
end
section
variable {P:Program}{w:World}{K:W.Frag}{mg:Zs}{base:Heap}
end
section
end
section
variable {X:Cx}{E:XK}
end
section
def uA (i:Nat)(f:Me->Res (D×Me)):Zg:=λm=>(ofO (oV m i)).bind λ_=>(f m).bind λp=>(ofO (oV p.2 i)).bind λo=>if o.2.length<sizeLine then .ok (.nx,putL p.2 i o.1 (o.2++[p.1])) else .stuck
theorem z9 (i:Nat)(he:FX X E e fa)(hN:X.N[i]? = some x:=by rfl)(hv:Vis X.env.scope x:=by first | exact Or.inl rfl | exact Or.inr (Or.inl rfl) | exact Or.inr (Or.inr rfl))(hd:(x == ("__debug__" : Str))=false:=by decide)(hcd:(x == ("__classdict__" : Str))=false:=by decide)
  (hbase:attributeBase (.Name x np) "append" X.env (eval (.Name x np) X.env)=eval (.Name x np) X.env:=by rfl)
  (hfew:((backTo cpos (starEach [e] X.env)).all (λx=>!x.1) && (backToKw cpos (keywordEach [] X.env)).all (λx=>x.1.isSome) && decide ([e].length+([]:List Keyword).length+(if ([]:List Keyword).isEmpty then 0 else 1)<30))=true:=by rfl)
  (hline:(apos.endLine == cpos.line)=true:=by rfl) (hs:starEach [e] X.env=(false,eval e X.env)::starEach [] X.env:=by rfl) (hplain:(backTo cpos (starEach [] X.env)).any (·.1)=false:=by rfl)
  (hsw:swapsWith (.Call (.Attribute (.Name x np) "append" apos) [e] [] cpos) none pos.line X.env=pure false:=by rfl):
  FS X E (.Expr (.Call (.Attribute (.Name x np) "append" apos) [e] [] cpos) pos) (uA i fa):=
 cA (pq (Jp PySem.F.plainAttrs_list PySem.F.slot_list_append PySem.F.type_list_append qu (jk hN hv hd hcd) (dg he jh hs) hbase hfew hline hs hplain) hsw) λW σ H hE=>xq5 hE λO0 M0 H0 ow m R q=>by
  obtain ⟨o,ho,q⟩:=Ss.ofO q;obtain ⟨k,ds⟩:=o;obtain ⟨a,xs,e1,e2,e3,e4,e5⟩:=m9 R.toRel ho;refine ⟨_,e2,.inl ⟨rfl,xs,SqL.of e3⟩,O0,M0,H0,ow,m,R,(Xs.ss (k:=λd m'=>(ofO (oV m' i)).bind λo=>if o.2.length<sizeLine then .ok (.nx,putL m' i o.1 (o.2++[d])) else .stuck) q).imp (Go.refl (aH.refl _)) λd H1 m1 R1 g1 em q v hv=>?_⟩;have q:=q m1 em R1;obtain ⟨o,ho,q⟩:=Ss.ofO q;obtain ⟨k',ds'⟩:=o;obtain ⟨a',xs',f1,f2,f3,f4,f5⟩:=m9 R1.toRel ho;rw [e1] at f1;cases f1;by_cases hz:ds'.length<sizeLine
  ·have q:Ss (gx X) E O0 M0 H0 ow H1 W (if ds'.length<sizeLine then .ok (.nx,putL m1 i k' (ds'++[d])) else .stuck):=q;rw [if_pos hz] at q;obtain ⟨R2,g2⟩:=R1.put (es:=ds'++[d]) (ys:=xs'++[v]) e1 f5 (gD f4 (.cons hv .nil));exact ⟨a,xs',v,rfl,rfl,f3,by rw [bx f4];exact hz,q _ _ _ R2 g2⟩
  ·have q:Ss (gx X) E O0 M0 H0 ow H1 W (if ds'.length<sizeLine then .ok (.nx,putL m1 i k' (ds'++[d])) else .stuck):=q;rw [if_neg hz] at q;exact q.elim
end
end F
namespace L2
open PySem PySem.Spec PyProof.Rows
section
variable {X:Cx}{tg:Expr}
end
end L2
namespace F
open PySem PySem.Spec PyProof.Rows L2 Hd
section
variable {X:Cx}{E:XK}{tg e a b c:Expr}{f:Zl}{fs:Ze}{fa:Me->Res (D×Me)}{p pos:Pos}
end
def tV (i:Nat)(fk fv:Zl):Me->Res (D×Me):=λm=>(ofO (vU m i)).bind λo=>(fk m).bind λk=>(fv m).bind λd=>(ofO (ph k)).bind λk=>
 if o.2.1.length<sizeLine then .ok (match cU o.2.1 o.2.2 k with | some d'=>(d',m) | none=>(d,lU m i o.1 (o.2.1++[k]) (o.2.2++[d]))) else .stuck
section
theorem QX (i:Nat)(hr:gW jj X.A)(hk:FE X E ke fk)(he:FE X E e f)(hm:M2 X (.Name x np) "setdefault" apos ke e cpos)(hN:X.N[i]? = some x:=by rfl)(hv:Vis X.env.scope x:=by first | exact Or.inl rfl | exact Or.inr (Or.inl rfl) | exact Or.inr (Or.inr rfl))(hd:(x == ("__debug__" : Str))=false:=by decide)(hcd:(x == ("__classdict__" : Str))=false:=by decide):
  FX X E (.Call (.Attribute (.Name x np) "setdefault" apos) [ke,e] [] cpos) (tV i fk f):=
 bc (Hq (mL hr) (jk hN hv hd hcd) hk he hm) λσ H Q hE=>xq5 hE λO0 M0 H0 ow m R q=>by
  obtain ⟨o,ho,q⟩:=(Xs.pu R.toRel q).ofO;obtain ⟨k,ks,ds⟩:=o;obtain ⟨a,kvs,e1,e2,e3,e4,e5,e6⟩:=vV R.toRel ho;refine ⟨_,e2,a,rfl,.inr ⟨kvs,.inl e3⟩,O0,M0,H0,ow,m,R.toRel,(Xs.pu R.toRel q).imp (aH.refl _) λdk q vk H1 g1 hvk=>?_⟩;have R1:=R.mono g1;refine ⟨O0,M0,H0,ow,m,R1.toRel,(Xs.pu R.toRel q).imp g1 λd q v H2 g2 hv=>?_⟩;have R2:=R1.mono g2;obtain ⟨ky,h1,q⟩:=(Xs.pu R.toRel q).ofO;obtain ⟨b,rfl,hb⟩:=pg (.inl (hvk.mono g2)) h1;have e3':=g2 _ _ (g1 _ _ e3);have e5':=(e5.mono g1).mono g2;by_cases hz:ks.length<sizeLine
  ·rw [if_pos hz] at q;rcases rD (k:=ky) e5' with ⟨v',d',va,vb,dv⟩ | ⟨va,vb⟩
   ·rw [e4] at vb;have q':=q;rw [vb] at q';refine ⟨kvs,ky,b,e3',rfl,hb,by rw [← List.length_map (f:=(·.1)),e4];exact hz,λw ev=>?_,λev=>?_⟩
    ·rw [va] at ev;cases ev;exact q' _ R2 (Go.refl (g1.trans g2)) _ dv
    ·rw [va] at ev;cases ev
   ·rw [e4] at vb;have q':=q;rw [vb] at q';refine ⟨kvs,ky,b,e3',rfl,hb,by rw [← List.length_map (f:=(·.1)),e4];exact hz,λw ev=>?_,λev=>?_⟩
    ·rw [va] at ev;cases ev
    ·obtain ⟨R3,g3⟩:=R2.lU (ls:=ks++[ky]) (es:=ds++[d]) (kvs:=kvs++[(ky,v)]) e1 e6 (by simp [e4]) (by rw [List.map_append];exact gD e5' (.cons hv .nil));exact q' _ R3 ((Go.refl (g1.trans g2)).trans g3) _ (hv.go R2.mutk g3.ev)
  ·rw [if_neg hz] at q;exact q.elim
end
end F
namespace L2
open PySem PySem.Spec PyProof.Rows
section
variable {X:Cx}{e st:Expr}{te:TE}{tst:TO}{p2 pos:Pos}
end
end L2
namespace F
open PySem PySem.Spec PyProof.Rows L2 Hd
section
variable {X:Cx}{E:XK}{e st:Expr}{f:Zl}{fk:Me->Res (Option Int)}{p2 pos:Pos}
end
end F
namespace Pk
open PySem L2 Hd F
section
def jg:Zl:=
 (dB 2 [] (yt (aC gIx (aq 0) (fUn uQ (fC (.int 1))))) (iW 2 (bz (hName 0) (bz (hName 1) iY))) iy (aG 1))
def eO (l_1:Zl):Zg:=
 (aO (gIf (aW gEq (aC gIx (aq 0) (fC (.int 0))) (fC (.str "end"))) (nA (ou aB)) gNx)
 (nA l_1))
def nG:Zg:=
 (eO jg)
def dF:Zf:=bB 1 1 nG
def j4:Zl:=
 (aY (aj (aC bM (aC gIx (aq 2) (fC (.int 0))) (aY (aj (aG 0) aB))) (aj (aG 1) aB)))
def iT:Zl:=
 (dB 2 [3] (Pr (aj (fFn dF (aj (aC gIx (aq 3) (fC (.int 1))) aB)) aB)) (iW 2 (bz (hName 0) (bz (hName 1) iY))) iy j4)
def iM:Zb:=
 (aW gGt (aM ig (aj (aq 2) aB)) (fC (.int 0)))
def iK:Zg:=
 (aO (wV 3 2)
 (aO (jM 1 (aG 3))
 (aO (bL 4 iT)
 (wu 2 (aM G8 (aj (aq 4) aB))))))
def uM:Zg:=
 (lH iM iK)
def jQ (l_5:Zg):Zg:=
 (aO (jt 1 (ou aB))
 (aO (jt 2 (ou (aj (aY (aj (aY aB) (aj (aG 0) aB))) aB)))
 (aO l_5
 (vq 1))))
def qG:Zg:=
 (jQ uM)
def fO:Zf:=bB 5 1 qG
def lL:Zl:=
 (dB 2 [] (yt (aC gIx (aq 0) (fC (.int 3)))) (iW 2 (bz (hName 0) (bz (hName 1) iY))) iy (aG 0))
def nW (l_1:Zl):Zg:=
 (cD (aM gG (aj l_1 aB)))
def nR:Zg:=
 (nW lL)
def jF:Zf:=bB 1 1 nR
def dR:Zg:=
 (aO (gIf (aW gNe (aC gIx (aq 0) (fC (.int 0))) (fC (.str "move"))) (cD (aG 1)) gNx)
 (aO (bL 3 (aY (aj (aC gIx (aq 0) (fC (.int 2))) (aj (aC gIx (aC gIx (aC gIx (aq 0) (fC (.int 3))) (aq 2)) (fC (.int 0))) aB))))
 (aO (gIf (aW gEq (aC gIx (aq 0) (fC (.int 1))) (fC (.int 1))) (cD (aY (aj (aC bM (aC gIx (aq 1) (fC (.int 0))) (aY (aj (aG 3) aB))) (aj (aC gIx (aq 1) (fC (.int 1))) aB)))) gNx)
 (cD (aY (aj (aC gIx (aq 1) (fC (.int 0))) (aj (aC bM (aC gIx (aq 1) (fC (.int 1))) (aY (aj (aG 3) aB))) aB)))))))
def dY:Zg:=
 dR
def cH:Zf:=bB 4 3 dY
def bQ:Zg:=
 (Jj 1 (aC bM (aq 3) (aY (aj (aG 5) aB))) (fFn cH (aj (aG 4) (aj (aC yC (aq 1) (aq 3)) (aj (aG 5) aB)))))
def dM:Zg:=
 (pI (jn (aj (aM ig (aj (fFn dF (aj (aG 4) aB)) aB)) aB)) (hName 5) bQ)
def aN:Zg:=
 (aO (jM 2 (aY (aj (aG 3) (aj (aG 4) (aj (aC yC (aq 1) (aq 3)) aB)))))
 dM)
def gK:Zg:=
 (pI (kW (fFn fO (aj (aG 0) aB))) (iW 2 (bz (hName 3) (bz (hName 4) iY))) aN)
def cW (l_4:Zg):Zg:=
 (aO (jt 1 (zK (aY aB) (aY (aj (aY aB) (aj (aY aB) aB)))))
 (aO (jt 2 (ou aB))
 (aO l_4
 (vq 2))))
def ik:Zg:=
 (cW gK)
def cF:Zf:=bB 6 1 ik
def pC (φ_words_at:Zf):Zg:=
 (cD (aY (aj (aC gIx (aq 0) (fC (.int 1))) (aj (aC gIx (aq 0) (fC (.int 2))) (aj (fFn φ_words_at (aj (aG 0) aB)) (aj (aC gIx (aq 1) (aC o8 (aC gIx (aq 0) (fC (.int 1))) (fC (.int 1)))) aB))))))
def oN:Zg:=
 (pC jF)
def kI:Zf:=bB 2 2 oN
def eF:Zg:=
 (gIf (aW gEq (aC gIx (aq 3) (fC (.int 0))) (fC (.str "move"))) (Nq 1 (aY (aj (aC gIx (aq 3) (fC (.int 1))) (aj (aC gIx (aq 3) (fC (.int 2))) aB))) (fFn kI (aj (aG 3) (aj (aG 4) aB)))) gNx)
def pB:Zg:=
 (pI (kW (fFn cF (aj (aG 0) aB))) (iW 3 (bz (hName 2) (bz (hName 3) (bz (hName 4) iY)))) eF)
def lN (l_2:Zg):Zg:=
 (aO (jt 1 vO)
 (aO l_2
 (nA (zq (aq 1)))))
def uq:Zg:=
 (lN pB)
def lG:Zf:=bB 5 1 uq
def mU:Zl:=
 (dB 1 [1] (kW (fFn lG (aj (aG 0) aB))) (hName 0) (aW gEq (aC gIx (aq 0) (fC (.int 0))) (aq 1)) (aG 0))
def ql (l_1:Zl):Zg:=
 (nA l_1)
def pU:Zg:=
 (ql mU)
def lu:Zf:=bB 2 2 pU
def jf:Zl:=
 (aM ig (aj (aC gIx (aq 0) (fC (.int 2))) aB))
def je:Zl:=
 (dB 1 [] (kW (aq 0)) (hName 0) iy jf)
def jW (l_2:Zl):Zg:=
 (cD (aM Qx (aj l_2 aB)))
def j6:Zg:=
 (jW je)
def gw:Zf:=bB 1 1 j6
end
end Pk
namespace F
open PySem PySem.Spec PyProof.Rows L2 Hd
section
variable {X:Cx}
theorem vals2 (r:Vals [a,b] us):∃u v,us=[u,v]/\RelV a u/\RelV b v:=by
 cases r with
 |cons r1 r2=>
  cases r2 with
  |cons r2 r3=>cases r3;exact ⟨_,_,rfl,r1,r2⟩
end
section
variable {pr:Program}{wo:World}{Ar:Around}{Ex:Zv}{st:Shared}
theorem Ly {c t:Addr}{k:Nat}{its:Array Value}{v:Value}{R:Zv}(ci:st.heap.IsTupleIter c t k)(ct:st.heap.IsTuple t its)(cv:its[k]? = some v)
  (r:∀g,g.IsTupleIter c t (k+1)->Heap.SameBut c st.heap g->R v { st with heap:=g }):wpAny (model pr wo) Ar (Builtin.SmallTypes.nextOf (.ref c)) R Ex st:=by
 obtain ⟨oc,g1,g2,g3⟩:=id ci;obtain ⟨ot,f1,_,n,f3⟩:=ct;unfold Builtin.SmallTypes.nextOf;refine wpAny_bind (wpAny_callSpecial?_slot (name:=Str.ofString "__next__") ci.typeIs PySem.F.slot_tuple_iterator_next (wpAny_call_entry PySem.F.slot_tuple_iterator_next ci.typeIs PySem.F.entry_tuple_iterator_next ?_ (PySem.F.args_tuple_iterator_next_1 _)));refine (show wpAny _ _ (field (.ref c) 0 >>= _) _ _ st from wpAny_bind (wpAny_field g1 g3 (x:=.ref t) rfl ?_));show wpAny _ _ (if (Value.ref t == Value.none)=true then _ else _) _ _ st;rw [if_neg (by intro z;cases z)];refine (show wpAny _ _ (field (.ref c) 1 >>= _) _ _ st from wpAny_bind (wpAny_field g1 g3 (x:=.int k 0) rfl ?_));refine (show wpAny _ _ (seqItems? (.ref t) >>= _) _ _ st from wpAny_bind (wpAny_seqItems f1 f3 ?_));simp only [Int.toNat_natCast,cv];refine wpAny_bind (wpAny_setField g1 g3 (by simp) (wpAny_pure ⟨v,rfl,wpAny_pure (r _ ⟨_,Heap.get?_update_self _ g1 (Obj.isFreed_of_fields (Obj.data_mapFields g3 _)),(Obj.cls_mapFields ..).trans g2,?_⟩ (Heap.SameBut.update ..))⟩));rw [Obj.data_mapFields g3];simp [rawInt]
theorem LR {c t:Addr}{k:Nat}{its:Array Value}{R:Zv}(hn:Ar.handled=none)(ci:st.heap.IsTupleIter c t k)(ct:st.heap.IsTuple t its)(cv:its[k]? = none)
  (r:∀g e,Heap.ExtBut c st.heap g->(∃o,g.get? e=some o/\o.cls=.type "StopIteration")->Ex (.ref e) { st with heap:=g }):wpAny (model pr wo) Ar (Builtin.SmallTypes.nextOf (.ref c)) R Ex st:=by
 obtain ⟨oc,g1,g2,g3⟩:=id ci;obtain ⟨ot,f1,_,n,f3⟩:=ct;unfold Builtin.SmallTypes.nextOf;refine wpAny_bind (wpAny_callSpecial?_slot (name:=Str.ofString "__next__") ci.typeIs PySem.F.slot_tuple_iterator_next (wpAny_call_entry PySem.F.slot_tuple_iterator_next ci.typeIs PySem.F.entry_tuple_iterator_next ?_ (PySem.F.args_tuple_iterator_next_1 _)));refine (show wpAny _ _ (field (.ref c) 0 >>= _) _ _ st from wpAny_bind (wpAny_field g1 g3 (x:=.ref t) rfl ?_));show wpAny _ _ (if (Value.ref t == Value.none)=true then _ else _) _ _ st;rw [if_neg (by intro z;cases z)];refine (show wpAny _ _ (field (.ref c) 1 >>= _) _ _ st from wpAny_bind (wpAny_field g1 g3 (x:=.int k 0) rfl ?_));refine (show wpAny _ _ (seqItems? (.ref t) >>= _) _ _ st from wpAny_bind (wpAny_seqItems f1 f3 ?_));simp only [Int.toNat_natCast,cv];refine wpAny_bind (wpAny_rule (wpAny_bind (wpAny_setField g1 g3 (by simp) (show wpAny _ _ (newExc (.type "StopIteration") [] >>= _) _ _ _ from wpAny_bind ?_))));simp only [newExc,newTuple];refine wpAny_bind (wpAny_newObj_type (wpAny_bind (m:=firstArgMember _ _) (wpAny_of_eq (a:=Value.none) (by first | rfl | (simp only [firstArgMember];rfl)) (wpAny_newObj_type ?_ (by size_fits)))) (by size_fits));simp only [raiseNew];refine wpAny_bind (wpAny_handled ?_)
 first | rw [show Ar.in1.handled=none from hn] | rw [hn]
 exact wpAny_bind (wpAny_pure (wpAny_throw (r _ _ (((Heap.SameBut.update ..).extBut.push _).push _) ⟨_,Heap.get?_push_size _ rfl,rfl⟩)))
end
section
variable {pr:Program}{wo:World}{Ar:Around}{Ex:Zv}{st:Shared}
end
section
variable {X:Cx}
end
theorem Oh {pr:Program}{wo:World}{Ar:Around}{c t:Addr}{its:Array Value}(hn:Ar.handled=none)(hne:c≠t):Draws pr wo Ar c [c,t] its.size (λi x=>its[i]? = some x) (λi h=>h.IsTupleIter c t i/\h.IsTuple t its) where
 live:=λ_ _ q=>let ⟨o,e,_⟩:=q.1;⟨o,e⟩
 frame:=λ_ _ _ q k=>⟨let ⟨o,e,r⟩:=q.1;⟨o,k c (by simp) o e,r⟩,let ⟨o,e,r⟩:=q.2;⟨o,k t (by simp) o e,r⟩⟩
 item:=λi st R Ex hi q r=>Ly q.1 q.2 (Array.getElem?_eq_getElem hi) λg e1 e2=>r _ g st.toks (Array.getElem?_eq_getElem hi) ⟨e1,q.2.extBut e2.extBut hne.symm⟩ e2
 done:=λst R Ex q r=>LR hn q.1 q.2 (Array.getElem?_eq_none (Nat.le_refl _)) r
theorem Vt (t:Addr)(its:Array Value)(n:Nat)(dd:Option Addr)(sl:Array (Option Value)):
  Meets (Builtin.«enumerate.__new__» ⟨[.type "enumerate",.ref t],[]⟩) (λ_ R st=>st.heap.get? t=some ⟨.type "tuple",dd,.seq its n,sl⟩/\
   R (.ok (.ret (.ref (st.heap.push ⟨.type "tuple_iterator",none,.fields #[.ref t,.int 0 0],#[]⟩).objs.size)))
    { st with heap:=(st.heap.push ⟨.type "tuple_iterator",none,.fields #[.ref t,.int 0 0],#[]⟩).push ⟨.type "enumerate",none,.fields #[.none,.bool false,.ref st.heap.objs.size,rawInt 0,.none,.none],#[]⟩ }):=
 .of_wp λpr wo Ar R st z=>by
  obtain ⟨hp,g,d,tk,os⟩:=st;obtain ⟨ht,z⟩:=z;have su:=sub_enumerate;have hT:Heap.IsTuple (Shared.heap ⟨hp,g,d,tk,os⟩) t its:=⟨_,ht,rfl,n,rfl⟩
  wp_walk using AutoSeq1.wpAny_loadPart' ht
  refine wpAny_stack_any λsk=>wpAny_pure ?_;split
  ·rename_i c _ _ _ _ _;cases (c == Value.type "enumerate")<;>(wp_walk using AutoSeq1.wpAny_loadPart' ht,wpAny_pyIter_tuple hT;exact ⟨_,rfl,z⟩)
  ·wp_walk using AutoSeq1.wpAny_loadPart' ht,wpAny_pyIter_tuple hT;exact ⟨_,rfl,z⟩
theorem zg {pr:Program}{wo:World}{Ar:Around}{Ex:Zv}{st:Shared}{t:Addr}{its:Array Value}{R:Zv}(hT:st.heap.IsTuple t its)
  (r:∀g,IsEnum g (st.heap.objs.size+1) st.heap.objs.size 0 .none->g.IsTupleIter st.heap.objs.size t 0->(∀b o,st.heap.get? b=some o->g.get? b=some o)->R (.ref (st.heap.objs.size+1)) { st with heap:=g }):
  wpAny (model pr wo) Ar (call (.type "enumerate") [.ref t]) R Ex st:=by
 obtain ⟨⟨c,dd,dt,sl⟩,ht,hc,n,hd⟩:=hT;cases (show c=.type "tuple" from hc);cases (show dt=.seq its n from hd);refine callType_new PySem.F.called_enumerate (by decide) (PySem.F.typeCall_enumerate_1 _) (PySem.F.newCall_enumerate_1 _) (λob=>PySem.F.args_object_init_2 ob _) PySem.F.entry_enumerate_new (Vt t its n dd sl) ⟨ht,?_⟩;have sz:(st.heap.push ⟨.type "tuple_iterator",none,.fields #[.ref t,.int 0 0],#[]⟩).objs.size=st.heap.objs.size+1:=Heap.size_push ..;show _/\_;rw [sz];have en:IsEnum ((st.heap.push ⟨.type "tuple_iterator",none,.fields #[.ref t,.int 0 0],#[]⟩).push ⟨.type "enumerate",none,.fields #[.none,.bool false,.ref st.heap.objs.size,rawInt 0,.none,.none],#[]⟩) (st.heap.objs.size+1) st.heap.objs.size 0 .none:=by
  have q:=Heap.get?_push_size (st.heap.push ⟨.type "tuple_iterator",none,.fields #[.ref t,.int 0 0],#[]⟩) (o:=⟨.type "enumerate",none,.fields #[.none,.bool false,.ref st.heap.objs.size,rawInt 0,.none,.none],#[]⟩) rfl;rw [sz] at q;exact q
 exact ⟨⟨_,en,rfl⟩,r _ en ⟨_,Heap.get?_push_of_some _ (Heap.get?_push_size _ rfl),rfl,rfl⟩ λb o x=>Heap.get?_push_of_some _ (Heap.get?_push_of_some _ x)⟩
def RX (K:W.Frag)(a:Addr):It:=
 ⟨λi H=>∃xs x,SqT K H a xs/\xs[i]? = some x,λi H x H'=>∃y l,(∀xs,SqT K H a xs->xs[i]? = some y)/\x=.ref l/\H l=none/\H'=upd H l (.tup [.int i,y]),λi H=>∃xs,SqT K H a xs/\xs.length=i⟩
theorem zp {P:Program}{w:World}{K:W.Frag}{elts:List Expr}{x1}{pos:Pos}(a e it:Addr)(hne:e≠it)(ha:it≠a)(hea:e≠a):
  Turn P w K (.Tuple elts x1 pos) (RX K a) [e,it] e (λi h=>(∃old,IsEnum h e it i old)/\h.IsTupleIter it a i) where
 mem:=by simp
 obj:=λi h st b hb=>by
  obtain ⟨⟨old,q1⟩,q2⟩:=st;rcases (show b=e\/b=it by simpa using hb) with rfl | rfl
  ·exact ⟨_,q1,λv z=>by cases (show Data.fields _=Data.cell v from z)⟩
  ·obtain ⟨o,e',c,d⟩:=q2;exact ⟨o,e',λv z=>by rw [d] at z;cases z⟩
 keep:=λi h h' st k=>by
  obtain ⟨⟨old,q1⟩,o,e',q2⟩:=st;exact ⟨⟨old,k e (by simp) _ q1⟩,o,k it (by simp) o e',q2⟩
 item:=by
  intro X hP hw hK hc i pins s σ H E I hf st hg;subst hP hw hK;obtain ⟨xs,x,hq,hx⟩:=hg;obtain ⟨⟨old,q1⟩,q2⟩:=st;obtain ⟨its,rv,p,hz⟩:=I.tuple hq;obtain ⟨u,hu,ru⟩:=rv.get hx;have fe:=hf e (by simp);have fi:=hf it (by simp);have lt:i<its.toArray.size:=by
   obtain ⟨z,_⟩:=List.getElem?_eq_some_iff.mp hu;simpa using z
  refine wpAny_pyNext_enum_itemD (Oh (I.ok.hd hc) ha) q1 ⟨q2,p⟩ lt hne (by simp [hne,hea]) λx' h' tk hx' eo il ht hsz k=>?_;have ex:x'=u:=by
   have:its.toArray[i]? = some u:=by simpa using hu
   rw [this] at hx';cases hx';rfl
  subst ex;obtain ⟨il,_⟩:=il;obtain ⟨oi,ei,ci,di⟩:=id il;obtain ⟨oj,ej,cj,dj⟩:=id q2;obtain ⟨h1,I1,z1,k1⟩:=ux I fe fi hne ⟨_,q1⟩ ⟨_,ej⟩ eo ei rfl (tY di) k;have I2:Inv X pins σ (upd H s.heap.objs.size (.tup [.int i,x])) { s with heap:=h',toks:=tk+1 }:=
   I1.laid (t':=tk+1) k1 (Nat.le_of_eq z1) (show cI X.prog X.w _ _ _ (.tup [.int i,x]) from ⟨(show 2<=sizeLine by decide),[.int i tk,x'],.cons ⟨tk,rfl⟩ (.cons ru .nil),⟨_,ht,rfl,_,rfl⟩⟩)
  have fr:H s.heap.objs.size=none:=I.hok.fresh (Nat.le_refl _);have ne1:e≠s.heap.objs.size:=Nat.ne_of_lt (Heap.lt_size q1);have ne2:it≠s.heap.objs.size:=Nat.ne_of_lt (Heap.lt_size ej);have nn:∀b,b≠s.heap.objs.size->H b=none->upd H s.heap.objs.size (.tup [.int i,x]) b=none:=λb z y=>by rw [aV z];exact y
  refine ⟨_,rfl,wpAny_letOwnedTupleGo_enum (s:={ s with heap:=h',toks:=tk+1 }) eo λh2 e2 sb=>?_⟩;obtain ⟨f0,f1,f2,f3,f4,f5⟩:=fe;refine ⟨.ref s.heap.objs.size,_,I2.turned (t':=tk+1) (λb o hb y=>(sb.2 b hb).trans y) (nn e ne1 f0) f1 f3 f4 f5,rfl,⟨x,_,λys hy=>by rw [I.uV hy hq];exact hx,rfl,fr,rfl⟩,⟨⟨_,e2⟩,oi,(sb.2 it (Ne.symm hne)).trans ei,ci,di⟩,λb hb=>?_⟩;rcases (show b=e\/b=it by simpa using hb) with rfl | rfl
  ·exact nn _ ne1 f0
  ·exact nn _ ne2 fi.1
 done:=by
  intro X hP hw hK hc i pins s σ H E I hf st hg;subst hP hw hK;obtain ⟨xs,hq,hx⟩:=hg;obtain ⟨⟨old,q1⟩,q2⟩:=st;obtain ⟨its,rv,p,hz⟩:=I.tuple hq;obtain ⟨f0,f1,f2,f3,f4,f5⟩:=hf it (by simp);have hl:=rv.length;have ei:i=its.toArray.size:=by simp;omega
  subst ei;exact wpAny_pyNext_enum_endD (Oh (I.ok.hd hc) ha) q1 ⟨q2,p⟩ λh' eb=>⟨rfl,I.turned (t':=s.toks) (λb o hb y=>eb b o hb y) f0 f1 f3 f4 f5⟩
 self:=λ_ _ _ _ _ st h=>by
  obtain ⟨⟨old,q1⟩,q2⟩:=st;exact wpAny_pyIter_enum q1 h
section
variable {X:Cx}{tg:Expr}
def Qf (K:W.Frag)(ta:TA):TI:=λσ H R=>ta σ H λvs H1=>∃p,vs=[.ref p]/\(∃xs,SqT K H1 p xs)/\R (RX K p) H1
theorem JV {elts:List Expr}{x1}{pt:Pos}{a:Expr}{ta:TA}{p pos:Pos}(hg:Gl X "enumerate")(hm:X.mg "enumerate" = none)(ha:PA X [a] ta)(hs:starEach [a] X.env=[(false,eval a X.env)]:=by rfl):PI X (.Tuple elts x1 pt) (.Call (.Name "enumerate" p) [a] [] pos) (Qf X.K ta):=by
 intro pins s σ H R I h;refine Call_ (mK I hg hm boot_enumerate (PyProof.Rows.callWith_type1 (thn (ha pos pins s σ H _ I h) λus s1 hE=>xq2 hE λvs H1 I1 r1 q1=>?_) hs rfl));obtain ⟨l,e,⟨xs,hq⟩,q⟩:=q1;subst e;obtain ⟨u,rfl,rx⟩:=vals1 r1;cases rx;obtain ⟨its,rv,pl,hz⟩:=I1.tuple hq;have ll:l<s1.heap.objs.size:=let ⟨_,e,_⟩:=pl;Heap.lt_size e
 refine zg pl λh' e1 e2 k=>?_;have I2:Inv X pins σ H1 { s1 with heap:=h' }:=I1.kept (t':=s1.toks) k;refine wpAny_pyIter_enum (s:={ s1 with heap:=h' }) e1 ?_;refine ⟨_,[s1.heap.objs.size+1,s1.heap.objs.size],_,_,H1,rfl,I2,zp l _ _ (Nat.succ_ne_self _) (Nat.ne_of_gt ll) (Nat.ne_of_gt (Nat.lt_succ_of_lt ll)),⟨⟨_,e1⟩,e2⟩,λb hb=>?_,q⟩;have hb':s1.heap.objs.size<=b:=(show b=s1.heap.objs.size+1\/b=s1.heap.objs.size by simpa using hb).elim (λz=>by rw [z];exact Nat.le_succ _) λz=>Nat.le_of_eq z.symm;exact I1.FJ hb' (I1.hok.fresh hb')
theorem Jg {G:Gx}{O:Za}{H:Hp}{a:Addr}{xs:List V}{ds:List D}(m:∀b,O b->eE (H b))(hl:SqT G.K H a xs)(hd:DVs G O H xs ds):qQ G (RX G.K a) (lV ds) (λO' H2=>Ev O H O' H2):=by
 intro O' H2 ev;have hq:SqT G.K H2 a xs:=Hw m ev.2 hl;have hd2:=hd.go m ev;have hlen:=bx hd;refine ⟨λi hi=>⟨xs,xs[i]'(by rw [mX] at hi;omega),hq,by simp⟩,λi x H' hi y=>?_,xs,hq,by rw [mX];omega⟩;obtain ⟨y,l,h1,rfl,fr,rfl⟩:=y;obtain ⟨d,e1,e2⟩:=lK hd2 (h1 xs hq);exact ⟨aR fr _,.tup [.int i,d],by simp [lV,List.getElem?_mapIdx,e1],.tup (SqU.of aU) (.cons (.int _) (.cons (e2.mono (aR fr _)) .nil))⟩
def Cd (f:Ze):Ze:=λm=>(f m).bind λd=>match d with
 |[.tup ds]=>.ok (lV ds)
 |_=>.stuck
theorem HW {E:XK}{fs:Ze}{elts:List Expr}{x1}{pt:Pos}{a:Expr}{p pos:Pos}(hg:Gl X "enumerate")(hm:X.mg "enumerate" = none)(ha:FAE X E [a] fs)(hs:starEach [a] X.env=[(false,eval a X.env)]:=by rfl):FI X E (.Tuple elts x1 pt) (.Call (.Name "enumerate" p) [a] [] pos) (Cd fs):=
 jU (JV hg hm ha hs) λσ H R hE=>xq5 hE λO0 M0 H0 ow m Re q=>⟨O0,M0,H0,ow,m,Re,q.bind.imp (aH.refl _) λds q vs H' g hv=>by
  have z:∃xs,ds=[.tup xs]:=by
   cases ds with
   |nil=>exact q.elim
   |cons d ds=>cases d with
    |tup xs=>cases ds with
     |nil=>exact ⟨xs,rfl⟩
     |cons _ _=>exact q.elim
    |_=>exact q.elim
  obtain ⟨ds,rfl⟩:=z;cases hv with
  |cons h1 h2=>
   cases h2;cases h1 with
   |tup hl hd=>exact ⟨_,rfl,⟨_,hl.sq⟩,q _ H' g (Jg (Re.mono g).mutk hl.sq hd)⟩⟩
end
section
end
section
variable {X:Cx}{E:XK}{j k:Nat}{c m:Str}{ps:List Str}{Φ:Zf}{apos pos:Pos}{o e:Expr}{es:List Expr}{f0:Zl}{fs:Ze}{pl:Sem Bool}
end
section
variable {P:Program}{w:World}{K:W.Frag}{mg:Zs}{base:Heap}
end
section
end
section
variable {X:Cx}{E:XK}{e:Expr}{g:Zl}{k:Zg}{c f x kn vn:Str}{fs:List Str}{pos pos' pos2 pos3 spos np np2 kp vp:Pos}{rest:List Stmt}
end
section
variable {X:Cx}{E:XK}{e:Expr}{g:Zl}{c f x:Str}{fs:List Str}{pos pos' np:Pos}
end
section
variable {P:Program}{w:World}{K:W.Frag}{mg:Zs}{base:Heap}
end
section
end
section
variable {X:Cx}{E:XK}{jj k:Nat}{c f y:Str}{ps:List Str}{Φ:List D->Res (List Str×List D×D)}{py pos cpos np:Pos}{e:Expr}{es:List Expr}{fs:Ze}{rest:List Stmt}{kk:Zg}
end
section
end
section
end
def KX (K:W.Frag)(H:Hp)(x:V)(t:Value):Prop:=(x=.non/\t=.type "NoneType")\/∃ea C,x=.ref ea/\t=.ref C/\H ea=some (.ext (lA ea (.ref C)))/\XC K C
def U5 (K:W.Frag):List V->Hp->VK->Prop:=λxs H Q=>∃x t C b,xs=[x,.ref C]/\KX K H x t/\W.kitOne K t (.ref C)=some b/\Q (.bl b) H
def Vy (K:W.Frag):List V->Hp->VK->Prop:=λxs H Q=>∃x t l,∃Cs:List Addr,∃b,xs=[x,.ref l]/\H l=some (.tup (Cs.map V.ref))/\KX K H x t/\W.kitAny K t (Cs.map Value.ref)=some b/\Q (.bl b) H
theorem uW:∀{Cs:List Addr} {us:List Value},Vals (Cs.map V.ref) us->us=Cs.map Value.ref
 |[],_,.nil=>rfl
 |_::_,_,.cons r t=>by rw [uW t];cases r;rfl
section
variable {X:Cx}
theorem Jb:fB X (.builtin "isinstance") (U5 X.K):=by
 intro pins s σ H xs us Q I r h;obtain ⟨x,t,C,b,rfl,hk,e,q⟩:=h;obtain ⟨u,w',rfl,ru,rw'⟩:=vals2 r;cases (show w'=Value.ref C from rw');rcases hk with ⟨rfl,rfl⟩ | ⟨ea,D,rfl,rfl,he,Z⟩
 ·cases (show u=Value.none from ru);exact W.kia_one W.kitx_none I.kIn trivial e (λz=>nomatch z) λtk=>⟨.bl b,H,I.tok _,rfl,q⟩
 ·cases (show u=Value.ref ea from ru);obtain ⟨⟨o,ho,hc,_⟩,_⟩:=(show cI X.prog X.w H s.heap ea (.ext (lA ea (.ref D))) from I.hok ea _ he);exact W.kia_one (tH Z) I.kIn ⟨o,ho,hc⟩ e (λz=>nomatch z) λtk=>⟨.bl b,H,I.tok _,rfl,q⟩
theorem JM:fB X (.builtin "isinstance") (Vy X.K):=by
 intro pins s σ H xs us Q I r h;obtain ⟨x,t,l,Cs,b,rfl,hl,hk,e,q⟩:=h;obtain ⟨u,w',rfl,ru,rw'⟩:=vals2 r;cases (show w'=Value.ref l from rw');obtain ⟨_,its,hv,⟨⟨cls,dd,data,sl⟩,ho,hc,n,hd⟩⟩:=(show cI X.prog X.w H s.heap l (.tup (Cs.map V.ref)) from I.hok l _ hl);cases (show cls=.type "tuple" from hc);cases (show data=_ from hd);cases uW hv;rcases hk with ⟨rfl,rfl⟩ | ⟨ea,D,rfl,rfl,he,Z⟩
 ·cases (show u=Value.none from ru);exact W.kia_tup W.kitx_none I.kIn trivial ho e (λz=>nomatch z) λtk=>⟨.bl b,H,I.tok _,rfl,q⟩
 ·cases (show u=Value.ref ea from ru);obtain ⟨⟨o,ho',hc',_⟩,_⟩:=(show cI X.prog X.w H s.heap ea (.ext (lA ea (.ref D))) from I.hok ea _ he);exact W.kia_tup (tH Z) I.kIn ⟨o,ho',hc'⟩ ho e (λz=>nomatch z) λtk=>⟨.bl b,H,I.tok _,rfl,q⟩
end
def ICl (K:W.Frag)(mg:Zs)(y:Str)(tab:Str->Option Bool):Prop:=∃C,mg y=some (.ref C)/\(∀c D b,tab c=some b->mg c=some (.ref D)->XC K D/\W.kitOne K (.ref D) (.ref C)=some b)/\W.kitOne K (.type "NoneType") (.ref C)=some false
def sJ:List (Str->Option Bool)->Str->Option Bool
 |[],_=>some false
 |t::r,c=>match t c with
  |some true=>some true
  |some false=>sJ r c
  |none=>none
def zZ (tab:Str->Option Bool)(f:Zl):Zl:=λm=>(f m).bind λd=>match d with
 | .exc c=>ofO ((tab c).map D.bl)
 | .non=>.ok (.bl false)
 |_=>.stuck
inductive ICs (X:Cx):List Expr->List (Str->Option Bool)->List Addr->Prop
 |nil:ICs X [] [] []
 |cons {y:Str} {py:Pos} {tab:Str->Option Bool} {es:List Expr} {ts:List (Str->Option Bool)} {C:Addr} {Cs:List Addr}:Gl X y->(y == ("__debug__" : Str))=false->X.mg y=some (.ref C)->
   (∀c D b,tab c=some b->X.mg c=some (.ref D)->XC X.K D/\W.kitOne X.K (.ref D) (.ref C)=some b)->W.kitOne X.K (.type "NoneType") (.ref C)=some false->
   starEach (.Name y py::es) X.env=(false,eval (.Name y py) X.env)::starEach es X.env->ICs X es ts Cs->ICs X (.Name y py::es) (tab::ts) (C::Cs)
section
variable {X:Cx}{E:XK}{a:Expr}{fa:Zl}{y:Str}{pos p py:Pos}
def Sh (Cs:List Addr):TA:=λ_ H Q=>Q (Cs.map V.ref) H
theorem Bh:∀{es:List Expr} {ts:List (Str->Option Bool)} {Cs:List Addr},ICs X es ts Cs->PA X es (Sh Cs)
 |_,_,_,.nil=>λpos pins s σ H Q I h=>jh pos pins s σ H Q I h
 |_,_,_,.cons hg hd hm _ _ hs t=>λpos pins s σ H Q I h=>dg (wF (v:=.ref _) hg hm rfl hd) (Bh t) hs pos pins s σ H Q I h
theorem Bs:∀{es:List Expr} {ts:List (Str->Option Bool)} {Cs:List Addr},ICs X es ts Cs->Cs.length=es.length
 |_,_,_,.nil=>rfl
 |_,_,_,.cons _ _ _ _ _ _ t=>congrArg (· + 1) (Bs t)
theorem Cg:∀{es:List Expr} {ts:List (Str->Option Bool)} {Cs:List Addr},ICs X es ts Cs->W.kitAny X.K (.type "NoneType") (Cs.map Value.ref)=some false
 |_,_,_,.nil=>rfl
 |_,_,_,.cons _ _ _ _ hn _ t=>by rw [List.map_cons,W.kitAny,hn];exact Cg t
theorem Ip {c:Str}{D:Addr}(hD:X.mg c=some (.ref D)):∀{es:List Expr} {ts:List (Str->Option Bool)} {Cs:List Addr} {b:Bool},ICs X es ts Cs->sJ ts c=some b->W.kitAny X.K (.ref D) (Cs.map Value.ref)=some b
 |_,_,_,_,.nil,e=>e
 |_,_,_,b,.cons (tab:=tab) _ _ _ hx _ _ t,e=>by
  unfold sJ at e;rw [List.map_cons,W.kitAny];cases q:tab c with
  |none=>rw [q] at e;cases e
  |some z=>
   rw [q] at e;obtain ⟨_,h2⟩:=hx c D z q hD;rw [h2];cases z with
   |true=>exact e
   |false=>exact Ip hD t e
theorem Qh {tab:Str->Option Bool}(ha:FB X E a fa)(hg:Gl X "isinstance")(hm:X.mg "isinstance" = none)(hv:bootBuiltins "isinstance" = some (.builtin "isinstance"))(hgy:Gl X y)(ht:ICl X.K X.mg y tab)
  (hdy:(y == ("__debug__" : Str))=false:=by decide) (he:starEach [a,.Name y py] X.env=(false,eval a X.env)::starEach [.Name y py] X.env:=by rfl) (he2:starEach [.Name y py] X.env=(false,eval (.Name y py) X.env)::starEach [] X.env:=by rfl) (hpl:(backTo pos (starEach [.Name y py] X.env)).any (·.1)=false:=by rfl):
  FE X E (.Call (.Name "isinstance" p) [a,.Name y py] [] pos) (zZ tab fa):=by
 obtain ⟨C,hC,ht,hn⟩:=ht;refine bc (oM Jb hg hm hv (dg ha (dg (wF (v:=.ref C) hgy hC rfl hdy) jh he2) he) (by decide) (by decide) he hpl) λσ H Q h=>?_;obtain ⟨O0,M0,H0,ow,m,R,q⟩:=h;refine ⟨O0,M0,H0,ow,m,R,q.bind.imp (aH.refl _) λd q v H' g hv=>?_⟩;cases d with
 |exc k=>
  obtain ⟨r,hr,kk⟩:=q.ofO;obtain ⟨b,hb,rfl⟩:=omap hr;obtain ⟨ea,D,rfl,hD,hH⟩:=Aa hv;obtain ⟨z1,z2⟩:=ht k D b hb hD;exact ⟨_,_,C,b,rfl,.inr ⟨ea,D,rfl,rfl,hH,z1⟩,z2,kk _ _ g (.bl _)⟩
 |non=>
  cases qj hv;exact ⟨_,_,C,false,rfl,.inl ⟨rfl,rfl⟩,hn,q _ _ g (.bl _)⟩
 |_=>exact q.elim
theorem Rm {es:List Expr}{ts:List (Str->Option Bool)}{Cs:List Addr}{t0:Str->Option Bool}{x1}(ha:FB X E a fa)(hg:Gl X "isinstance")(hm:X.mg "isinstance" = none)(hv:bootBuiltins "isinstance" = some (.builtin "isinstance"))(hc:ICs X es (t0::ts) Cs)(hz:es.length<=sizeLine:=by decide)
  (he:starEach [a,.Tuple es x1 py] X.env=(false,eval a X.env)::starEach [.Tuple es x1 py] X.env:=by rfl) (he2:starEach [.Tuple es x1 py] X.env=(false,eval (.Tuple es x1 py) X.env)::starEach [] X.env:=by rfl) (hpl:(backTo pos (starEach [.Tuple es x1 py] X.env)).any (·.1)=false:=by rfl):
  FE X E (.Call (.Name "isinstance" p) [a,.Tuple es x1 py] [] pos) (zZ (sJ (t0::ts)) fa):=by
 refine bc (oM JM hg hm hv (dg ha (dg (JR (Bh hc)) jh he2) he) (by decide) (by decide) he hpl) λσ H Q h=>?_;obtain ⟨O0,M0,H0,ow,m,R,q⟩:=h;refine ⟨O0,M0,H0,ow,m,R,q.bind.imp (aH.refl _) λd q v H' g hv=>?_⟩;have hl:=Bs hc;cases d with
 |exc k=>
  obtain ⟨r,hr,kk⟩:=q.ofO;obtain ⟨b,hb,rfl⟩:=omap hr;obtain ⟨ea,D,rfl,hD,hH⟩:=Aa hv;have z1:XC X.K D:=by
   cases hc with
   |cons _ _ _ hx _ _ _=>
    unfold sJ at hb;cases q:t0 k with
    |none=>rw [q] at hb;cases hb
    |some z=>exact (hx k D z q hD).1
  refine ⟨by simpa [hl] using hz,λl hl'=>⟨_,_,l,Cs,b,rfl,aU,.inr ⟨ea,D,rfl,rfl,?_,z1⟩,Ip hD hc hb,kk _ _ (g.trans (aR hl' _)) (.bl _)⟩⟩;rw [aV (λz=>by rw [z,hl'] at hH;cases hH)];exact hH
 |non=>
  cases qj hv;exact ⟨by simpa [hl] using hz,λl hl'=>⟨_,_,l,Cs,false,rfl,aU,.inl ⟨rfl,rfl⟩,Cg hc,q _ _ (g.trans (aR hl' _)) (.bl _)⟩⟩
 |_=>exact q.elim
theorem Lk:∃Cs,ICs X [] [] Cs:=⟨_,.nil⟩
theorem gB {tab:Str->Option Bool}{es:List Expr}{ts:List (Str->Option Bool)}(h:ICl X.K X.mg y tab)(t:∃Cs,ICs X es ts Cs)(hg:Gl X y:=by rfl)(hd:(y == ("__debug__" : Str))=false:=by decide)
  (hs:starEach (.Name y py::es) X.env=(false,eval (.Name y py) X.env)::starEach es X.env:=by rfl):∃Cs,ICs X (.Name y py::es) (tab::ts) Cs:=let ⟨_,a,b,c⟩:=h;let ⟨_,t⟩:=t;⟨_,.cons hg hd a b c hs t⟩
theorem Kr {es:List Expr}{ts:List (Str->Option Bool)}{t0:Str->Option Bool}{x1}(ha:FB X E a fa)(hg:Gl X "isinstance")(hm:X.mg "isinstance" = none)(hv:bootBuiltins "isinstance" = some (.builtin "isinstance"))(hc:∃Cs,ICs X es (t0::ts) Cs)(hz:es.length<=sizeLine:=by decide)
  (he:starEach [a,.Tuple es x1 py] X.env=(false,eval a X.env)::starEach [.Tuple es x1 py] X.env:=by rfl) (he2:starEach [.Tuple es x1 py] X.env=(false,eval (.Tuple es x1 py) X.env)::starEach [] X.env:=by rfl) (hpl:(backTo pos (starEach [.Tuple es x1 py] X.env)).any (·.1)=false:=by rfl):
  FE X E (.Call (.Name "isinstance" p) [a,.Tuple es x1 py] [] pos) (zZ (sJ (t0::ts)) fa):=let ⟨_,hc⟩:=hc;Rm ha hg hm hv hc hz he he2 hpl
end
end F
namespace Hd
open PySem PySem.Spec PyProof.Rows L2
section
variable {X:Cx}{i j k:Nat}{x:Str}{ps:List Str}{sp:Sp}{p pos:Pos}{e:Expr}{es:List Expr}{t:TA}{f:Addr}{fd:FuncData}
theorem Ql {E:Zv}{pins:Zo}{s:Shared}{σ:L2.St}{H:Hp}{v:V}{Q:Zv}(I:Inv X pins σ H s)(hN:X.N[i]? = some x)(hv:Vis X.env.scope x)(e:σ[i]? = some (some v))(h:∀u,RelV v u->Q u s)
  (hd:(x == ("__debug__" : Str))=false:=by decide) (hcd:(x == ("__classdict__" : Str))=false:=by decide):wpAny (model X.prog X.w) X.A (eval (.Name x pos) X.env) Q E s:=by
 obtain ⟨m,hn,hl⟩:=I.loc;obtain ⟨u,r,l⟩:=hl i x v hN e hv;have fin:=h u r;rcases l with ⟨hk,hm⟩ | ⟨hk,c,hc,hcell⟩
 ·exact wpAny_Name (wpAny_loadName_local I.ok.kind hk hn hm fin) hd
 ·rcases hk with hk | hk
  ·exact wpAny_Name (wpAny_loadName_cell I.ok.kind hk hc hcell fin) hd
  ·exact wpAny_Name (wpAny_loadName_free I.ok.kind hk hc hcell fin hcd) hd
theorem Ja (tb:Addr->Option Sp)(hT:∀f sp,tb f=some sp->∃k fd ps,k<=j/\dm X.prog X.w X.K X.mg X.base (CX1 X.prog X.w) k f fd ps sp/\Binds X.K fd ps []/\W.keepIn X.K (.ref f)=true)(hr:gW j X.A)(hN:X.N[i]? = some x)(hv:Vis X.env.scope x)
  (ha:PA X.nox (e::es) t) (hdb:(x == ("__debug__" : Str))=false:=by decide) (hcd:(x == ("__classdict__" : Str))=false:=by decide) (he:starEach (e::es) X.env=(false,eval e X.env)::starEach es X.env:=by rfl) (hpl:(backTo pos (starEach es X.env)).any (·.1)=false:=by rfl):
  PEx X (.Call (.Name x p) (e::es) [] pos) (λσ H Q E=>∃f sp,σ[i]? = some (some (.ref f))/\tb f=some sp/\t σ H λvs H1=>sp vs H1 Q E):=by
 intro pins s σ H Q E I h;obtain ⟨f,sp,hf,hs,h⟩:=h;obtain ⟨k,fd,ps,hkj,F,hb,hk⟩:=hT f sp hs
 replace hr:=hr.mono hkj
 refine wpAny_Call_Name_kw (Ql I hN hv hf (λu r=>?_) hdb hcd);cases (show u=Value.ref f from r);refine W.callWith_K (h₀:=X.base) I.ok.mod.kin hk (wpAny_mono (ha pos pins s σ H _ (I.wish _) h) (λus s1 hE=>xq2 hE λvs H1 I1 r q=>⟨I1.wB.kIn,?_⟩) λ_ _ z=>False.elim z) he hpl;have I2:=I1.wB;have hl:(us++[]).length=ps.length:=by rw [List.append_nil,← r.length];exact F.len _ _ _ _ q
 have hbs:=hb s1 us I2.kIn hl;rw [List.append_nil] at hbs;refine wpAny_call (codeAny_mono (F.run X.A X.stack s1 H1 ⟨us,[]⟩ us vs Q E hr I2.env0 hbs r q) λr s' hq=>?_);cases r with
 |error e=>exact ⟨H1,s1,I2,hq⟩
 |ok fl=>
  cases fl with
  |ret u=>exact I2.after hq
  |next=>exact False.elim hq
  |brk=>exact False.elim hq
  |cont=>exact False.elim hq
end
end Hd
theorem Hd.PL {K:PySem.W.Frag}{x q x' q':PySem.Str}{st st':PySem.Stmt}{f f':PySem.Addr}{fd fd':PySem.FuncData}(F:L2.Fun K x q st f fd)(F':L2.Fun K x' q' st' f' fd')(h:x≠x'):f≠f':=by
 obtain ⟨oc,od,kV,doc,pm,an,cdv,ct,osl,e1,lk,hcd⟩:=F.ex;obtain ⟨oc',od',kV',doc',pm',an',cdv',ct',osl',e1',lk',hcd'⟩:=F'.ex;intro z;subst z;have e:fd=fd':=by
  have q:=Option.some.inj (lk.symm.trans lk');injection q with _ _ q _
  injection q
 rw [e1,e1'] at e;exact h (congrArg (λz:PySem.FuncData=>z.name) e)
namespace F
open PySem PySem.Spec PyProof.Rows L2 Hd
def gZ (i:Nat)(tb:Addr->Option (Zf))(fs:Ze):Zg:=λm=>match m[i]? with
 |some (.fz (.adr a))=>match tb a with
  |some Φ=>match fs m with
   | .ok ds=>(Φ ds).bind λ_=>.ok (.nx,m)
   |_=>.stuck
  |none=>.stuck
 |_=>.stuck
def tb2 (a b:Addr)(Φ Ψ:Zf):Addr->Option (Zf):=λc=>if c=a then some Φ else if c=b then some Ψ else none
theorem Jh {a b c:Addr}{Φ Ψ Θ:Zf}(h:tb2 a b Φ Ψ c=some Θ):(c=a/\Θ=Φ)\/(c=b/\Θ=Ψ):=by
 unfold tb2 at h;grind
section
variable {X:Cx}{E:XK}{i j k l:Nat}{x y z:Str}{ps qs:List Str}{p pos cpos:Pos}{e:Expr}{es:List Expr}{fs:Ze}{Φ Ψ:Zf}{a b:Addr}
theorem BL (hg:Gl X x)(hm:X.mg x=some (.ref a))(hd:(x == ("__debug__" : Str))=false:=by decide):FE X E (.Name x pos) (fC (.adr a)):=o6 (v:=.ref a) hg hm rfl (λ_ _=>.adr a) hd
theorem IK (hy:X.mg y=some (.ref a))(hz:X.mg z=some (.ref b))(Fy:FF X.prog X.w X.K X.mg X.base k y ps Φ)(Fz:FF X.prog X.w X.K X.mg X.base l z qs Ψ)(hr:gW j X.A)(hN:X.N[i]? = some x)(hv:Vis X.env.scope x)(ha:FAE X.nox E0 (e::es) fs)(hk:k<=j:=by decide)(hl:l<=j:=by decide)
  (hdb:(x == ("__debug__" : Str))=false:=by decide) (hcd:(x == ("__classdict__" : Str))=false:=by decide)
  (he:starEach (e::es) X.env=(false,eval e X.env)::starEach es X.env:=by rfl) (hpl:(backTo cpos (starEach es X.env)).any (·.1)=false:=by rfl) (hs:swapsWith (.Call (.Name x p) (e::es) [] cpos) none pos.line X.env=pure false:=by rfl):
  FSx X [.Expr (.Call (.Name x p) (e::es) [] cpos) pos] (gZ i (tb2 a b Φ Ψ) fs):=by
 have hT:∀f sp,((tb2 a b Φ Ψ f).map λΦ=>spF (gx X) Φ)=some sp->∃k fd ps,k<=j/\dm X.prog X.w X.K X.mg X.base (CX1 X.prog X.w) k f fd ps sp/\Binds X.K fd ps []/\W.keepIn X.K (.ref f)=true:=by
  intro f sp h;obtain ⟨Θ,h2,rfl⟩:=omap h;rcases Jh h2 with ⟨rfl,rfl⟩ | ⟨rfl,rfl⟩
  ·obtain ⟨f',fd,G,b',kp,m⟩:=Fy.ex;rw [hy] at m;cases m;exact ⟨k,fd,ps,hk,G,b',kp⟩
  ·obtain ⟨f',fd,G,b',kp,m⟩:=Fz.ex;rw [hz] at m;cases m;exact ⟨l,fd,qs,hl,G,b',kp⟩
 refine JF (KD (Ja (λf=>(tb2 a b Φ Ψ f).map λΦ=>spF (gx X) Φ) hT hr hN hv ha hdb hcd he hpl) hs) λW Ex σ H hE=>xq5 hE λO0 M0 H0 ow m R q=>?_;unfold gZ at q;cases e1:m[i]? with
 |none=>rw [e1] at q;exact q.elim
 |some s=>
  rw [e1] at q;cases s with
  |fz d=>
   cases d with
   |adr c=>
    obtain ⟨_,v,h1,h2⟩:=R.slot i _ e1;have hv:v=.ref c:=by cases h2;rfl
    subst hv;simp only [] at q;cases e2:tb2 a b Φ Ψ c with
    |none=>rw [e2] at q;exact q.elim
    |some Θ=>
     rw [e2] at q;refine ⟨c,_,h1,by rw [e2];rfl,O0,M0,H0,ow,m,R.toRel,?_⟩;simp only [] at q;cases z:fs m with
     |exc c=>rw [z] at q;exact q.elim
     |stuck=>rw [z] at q;exact q.elim
     |ok ds=>
      rw [z] at q;intro vs H1 g1 hv;refine ⟨Ow O0 ow,ds,(R.mono g1).mutk,hv,?_⟩;cases w:Θ ds with
      |exc c=>simp only [w] at q;exact λC H' e g=>q C H' e (g1.trans g)
      |stuck=>simp only [w] at q;exact q.elim
      |ok r=>simp only [w] at q;exact λv H' g hv' _=>q ow σ H' (R.mono (g1.trans g)) (Go.refl (g1.trans g))
   |_=>exact q.elim
  |_=>exact q.elim
end
end F
namespace K56
open PySem L2 Hd F Pk
section
def d8:Str->Option Bool:=λc=>if c = "TooGreat" then some false else none
def fK:Str->Option Bool:=λc=>if c = "TooGreat" then some false else none
def c7:Str->Option Bool:=λc=>if c = "TooGreat" then some false else none
def d7:Str->Option Bool:=λc=>if c = "TooGreat" then some false else none
def fV:Str->Option Bool:=λc=>if c = "TooGreat" then some false else none
def gO:Str->Option Bool:=λc=>if c = "TooGreat" then some false else none
def dh:Str->Option Bool:=λc=>if c = "TooGreat" then some false else none
def fW:Str->Option Bool:=λc=>if c = "TooGreat" then some false else none
def fL:Str->Option Bool:=λc=>if c = "TooGreat" then some false else none
def fZ:Str->Option Bool:=λc=>if c = "TooGreat" then some true else none
def fP:Str->Option Bool:=λc=>if c = "TooGreat" then some false else none
def dW:Str->Option Bool:=λc=>if c = "TooGreat" then some true else none
def bY:Str->Bool:=λc=>c == "TooGreat"
def Ce:Zf:=λ_=>.stuck
def jJ:Zg:=
 (cD (aC bM (fSl (aq 0) fO0 (fO1 (fUn uQ (fC (.int 1))))) (aY (aj (aM gG (aj (aq 1) aB)) aB))))
def jK:Zg:=
 jJ
def cz:Zf:=bB 2 2 jK
def dO:Zl:=
 (pK gGt (aM ig (aj (aq 0) aB)) (fC (.int 12)))
def dX:Zl:=
 (dB 2 [] (kW (aq 1)) (iW 2 (bz (hName 0) (bz (hName 1) iY))) iy dO)
def fj (φ_places_of:Zf)(l_2:Zl):Zg:=
 (aO (bL 1 (fFn φ_places_of (aj (aG 0) aB)))
 (aO (gIf (aW gGt (aM ig (aj (aq 1) aB)) (fC (.int 64))) (mR "TooGreat" (fM (fC (.str "the game has too many places")))) gNx)
 (gIf (fTv (aM RT (aj l_2 aB))) (mR "TooGreat" (fM (fC (.str "a way of the game is too long")))) gNx)))
def eZ:Zg:=
 (fj fO dX)
def cC:Zf:=bB 2 1 eZ
def bu:Zg:=
 (aO (bL 2 (fFn lu (aj (aG 0) (aj (aG 1) aB))))
 (aO (gIf (aW gGt (aM ig (aj (aq 2) aB)) (fC (.int 8))) (mR "TooGreat" (fM (fC (.str "a side sees too many names")))) gNx)
 (gIf (aW gGt (fFn gw (aj (aG 2) aB)) (fC (.int 24))) (mR "TooGreat" (fM (fC (.str "a side has too many words")))) gNx)))
def cg:Zg:=
 (pI (yt (aY (aj (fC (.int 1)) (aj (fC (.int 2)) aB)))) (hName 1) bu)
def dq (l_2:Zg):Zg:=
 l_2
def dC:Zg:=
 (dq cg)
def bG:Zf:=bB 3 1 dC
def du (φ_refuse_great_places:Zf)(φ_refuse_great_table:Zf):Zg:=
 (aO (gEx (fFn φ_refuse_great_places (aj (aG 0) aB)))
 (gEx (fFn φ_refuse_great_table (aj (aG 0) aB))))
def cZ:Zg:=
 (du cC bG)
def bF:Zf:=bB 1 1 cZ
def vz:Zf:=λ_=>.stuck
def jy:Zg:=
 (aO (gIf (aW gEq (aC gIx (aq 0) (fC (.int 0))) (fC (.str "deal"))) (cD (fIf (aW gEq (aC gIx (aq 0) (fC (.int 1))) (aq 2)) (aY (aj (aG 3) aB)) (aY aB))) gNx)
 (cD (fIf (aW gEq (aC gIx (aq 0) (fC (.int 1))) (aq 1)) (aY (aj (aY (aj (aC gIx (aq 0) (fC (.int 2))) (aj (aC gIx (aC gIx (aC gIx (aq 0) (fC (.int 3))) (aq 3)) (fC (.int 0))) aB))) aB)) (aY aB))))
def jx:Zg:=
 jy
def dJ:Zf:=bB 4 4 jx
def eX (Φ:List D->D->Res (D×D)):Zg:=
 (aO (bL 10 (aC bM (aq 3) (fFn dJ (aj (aG 0) (aj (aG 1) (aj (aG 2) (aj (aG 8) aB)))))))
 (uA 7 (Kf (v5 (fX (aC gIx (aq 9) (fC (.int 0)))) (v5 (uX Φ 4 4 (aj (aC gIx (aq 9) (fC (.int 1))) (aj (aG 1) (aj (aG 2) (aj (aG 10) aB))))) IV)))))
def eU (Φ:List D->D->Res (D×D)):Zg:=
 (pI (Cd (aj (aC gIx (aq 0) (fUn uQ (fC (.int 1)))) aB)) (iW 2 (bz (hName 8) (bz (hName 9) iY))) (eX Φ))
def bT (φ_with_ways:Zf)(l_2:Zg):Zg:=
 (aO (gIf (aW gEq (aC gIx (aq 0) (fC (.int 0))) (fC (.str "end"))) (cD (aG 0)) gNx)
 (aO (bL 5 (aG 0))
 (aO (gIf (uc (aW gEq (aC gIx (aq 0) (fC (.int 0))) (fC (.str "move"))) (aW gEq (aC gIx (aq 0) (fC (.int 1))) (aq 1))) (aO (qF 6 (tV 4 (aY (aj (aC gIx (aq 0) (fC (.int 2))) (aj (aG 3) aB))) (aC bM (fC (.str "s")) (aM xM (aj (aC bM (aM pJ (aj (aq 4) aB)) (fC (.int 1))) aB)))))
 (bL 5 (aY (aj (fC (.str "move")) (aj (aG 1) (aj (aG 6) (aj (aC gIx (aq 0) (fC (.int 3))) aB))))))) gNx)
 (aO (jt 7 (ou aB))
 (aO l_2
 (cD (fFn φ_with_ways (aj (aG 5) (aj (aG 7) aB)))))))))
def bR:Nat->List D->D->Res (D×D)
 |0=>λ_ _=>.stuck
 |n+1=>gm 4 11 5
   (bT cz (eU (bR n)))
def jG:Zl:=
 (aY (aj (aG 1) (aj (aC gIx (aq 0) (fC (.int 0))) aB)))
def oA:Zl:=
 (dB 2 [] (Q3 (aG 3)) (iW 2 (bz (hName 0) (bz (hName 1) iY))) iy jG)
def kO (φ_refuse_great_shape:Zf)(φ_sharpened:List D->D->Res (D×D))(l_2:Zl):Zg:=
 (aO (jt 3 vO)
 (aO (qF 4 (uX φ_sharpened 3 4 (aj (aG 0) (aj (aG 1) (aj (aG 2) (aj (aY aB) aB))))))
 (aO (gEx (fFn φ_refuse_great_shape (aj (aG 4) aB)))
 (La 3 (cD (aY (aj (aG 4) (aj (aM xJ (aj l_2 aB)) aB))))))))
def yH:Zg:=
 (kO bF (bR 8) oA)
def bH:Zf:=bB 5 3 yH
def zj (φ_minus:Zf)(φ_balance:Zf)(φ_keener:Zf):Zg:=
 (aO (bL 3 (aC gIx (fFn φ_balance (aj (aC gIx (fFn φ_keener (aj (aG 0) (aj (aG 1) (aj (aG 2) aB)))) (fC (.int 0))) aB)) (fC (.int 0))))
 (aO (bL 4 (aC gIx (fFn φ_balance (aj (aG 0) aB)) (fC (.int 0))))
 (cD (fIf (aW gEq (aq 1) (fC (.int 1))) (fFn φ_minus (aj (aG 3) (aj (aG 4) aB))) (fFn φ_minus (aj (aG 4) (aj (aG 3) aB)))))))
def zE:Zg:=
 (zj Ce vz bH)
def gn:Zf:=bB 5 3 zE
def gP:Zg:=
 (aO (gIf (aW gLt (aq 1) (aM ig (aj (aq 0) aB))) (cD (aC gIx (aq 0) (aq 1))) gNx)
 (cD (fC (.int 0))))
def gY:Zg:=
 gP
def cu:Zf:=bB 2 2 gY
def iR:Zg:=
 (bL 5 (aC bM (aq 5) (aC gIx (aq 2) (aC lX (aC bM (aC bM (aC t8 (aq 0) (aC bM (aC rZ (aq 6) (aq 6)) (fC (.int 64)))) (aq 6)) (aC rZ (aC bM (fC (.int 7)) (aq 1)) (aM uh (aj (pK gEq (aq 6) (aq 4)) aB)))) (fC (.int 36))))))
def nC:Zg:=
 (pI (jn (aj (aq 3) aB)) (hName 6) iR)
def jL (l_2:Zg):Zg:=
 (aO (bL 2 (fC (.str "abcdefghijklmnopqrstuvwxyz0123456789")))
 (aO (bL 3 (aC bM (fC (.int 1)) (aC lX (aq 0) (fC (.int 8)))))
 (aO (bL 4 (aC lX (aC t8 (aq 0) (fC (.int 8))) (aq 3)))
 (aO (bL 5 (fC (.str "")))
 (aO l_2
 (cD (aG 5)))))))
def qO:Zg:=
 (jL nC)
def gJ:Zf:=bB 7 2 qO
def g8 (a_keener a_gain:Addr)(φ_keener:Zf)(φ_gain:Zf):Zg:=
 (aO (bL 4 (fC .non))
 (aO (uR 5 (bY) (gZ 0 (tb2 a_keener a_gain φ_keener φ_gain) (aj (aG 1) (aj (aG 2) (aj (aG 3) aB)))) (bL 4 (aG 5)))
 (aO (gIf (fTv (zZ (sJ [d8,fK,c7,d7,fV,gO,dh,fW,fL,fP]) (aq 4))) (cD (fC (.bl false))) gNx)
 (cD (Mt (zZ fZ (aq 4)) (De dW (aq 4)))))))
def gR (a_keener a_gain:Addr):Zg:=
 (g8 a_keener a_gain bH gn)
def cJ (a_keener a_gain:Addr):Zf:=bB 6 4 (gR a_keener a_gain)
def jC:Zl:=
 (aY (aj (aG 0) (aj (aY (aj (fC (.str "end")) (aj (aY (aj (aC lX (aq 1) (fC (.int 5))) (aj (fC (.int 1)) aB))) aB))) aB)))
def gU:Zl:=
 (dB 1 [3] (kW (fSl (aq 2) fO0 (fO1 (fC (.int 2))))) (hName 0) iy jC)
def jH:Zl:=
 (aY (aj (aG 0) (aj (aY (aj (fC (.str "end")) (aj (aY (aj (aC o8 (fC (.int 2)) (aC lX (aq 1) (fC (.int 3)))) (aj (fC (.int 1)) aB))) aB))) aB)))
def ie:Zl:=
 (dB 1 [3] (kW (fSl (aq 2) fO0 (fO1 (fC (.int 2))))) (hName 0) iy jH)
def lB (l_2:Zl)(l_4:Zl):Zg:=
 (aO (bL 4 (aY (aj (fC (.str "move")) (aj (aG 0) (aj (aC gIx (aq 1) (fC (.int 3))) (aj (aM gG (aj l_2 aB)) aB))))))
 (aO (bL 5 (aY (aj (fC (.str "move")) (aj (aG 0) (aj (aC gIx (aq 1) (fC (.int 3))) (aj (aM gG (aj l_4 aB)) aB))))))
 (cD (aY (aj (fC (.str "deal")) (aj (aC gIx (aq 1) (fC (.int 1))) (aj (aY (aj (aY (aj (aY (aj (fC (.int 1)) (aj (fC (.int 2)) aB))) (aj (aG 4) aB))) (aj (aY (aj (aY (aj (fC (.int 1)) (aj (fC (.int 2)) aB))) (aj (aG 5) aB))) aB))) aB)))))))
def lJ:Zg:=
 (lB gU ie)
def gf:Zf:=bB 6 4 lJ
def jY:Zl:=
 (fFn gJ (aj (aG 1) (aj (aG 0) aB)))
def iQ:Zl:=
 (dB 1 [0] (jn (aj (aM N5 (aj (fC (.int 2)) (aj (aq 3) aB))) aB)) (hName 0) iy jY)
def iI:Zb:=
 (aW gGt (aC bM (fC (.int 2)) (aC rZ (aq 6) (aC bM (aC bM (fC (.int 1)) (aq 3)) (aC rZ (fC (.int 6)) (aM uh (aj (aq 5) aB)))))) (fC (.int 64)))
def j8:Zg:=
 (bL 6 (aC o8 (aq 6) (fC (.int 1))))
def j7:Zg:=
 (lH iI j8)
def j5:Zl:=
 (aY (aj (aG 0) (aj (aY (aj (fC (.str "end")) (aj (aY (aj (aC bM (aC lX (aC t8 (aq 2) (fC (.int 198))) (fC (.int 7))) (aq 1)) (aj (fC (.int 1)) aB))) aB))) aB)))
def gr:Zl:=
 (dB 1 [8,0] (kW (fSl (aq 4) fO0 (fO1 (aq 3)))) (hName 0) iy j5)
def eV:Zg:=
 (aO (jt 9 gr)
 (aO (gIf (fTv (aG 5)) (zX 9 (fC (.int 0)) (aY (aj (aC gIx (aq 4) (fC (.int 0))) (aj (fFn gf (aj (aG 1) (aj (aG 2) (aj (aG 4) (aj (aC bM (aC t8 (aq 0) (fC (.int 198))) (aq 8)) aB))))) aB)))) gNx)
 (jM 7 (aY (aj (aY (aj (fC (.int 1)) (aj (aG 6) aB))) (aj (aY (aj (fC (.str "move")) (aj (aG 1) (aj (aC gIx (aq 2) (fC (.int 2))) (aj (aM gG (aj (aq 9) aB)) aB))))) aB))))))
def iH:Zg:=
 (pI (jn (aj (aq 6) aB)) (hName 8) eV)
def gH (l_2:Zl)(l_5:Zg)(l_9:Zg):Zg:=
 (aO (bL 3 (aC bM (fC (.int 1)) (aC lX (aC t8 (aq 0) (fC (.int 11))) (fC (.int 6)))))
 (aO (bL 4 l_2)
 (aO (bL 5 (pK gEq (aC lX (aC t8 (aq 0) (fC (.int 66))) (fC (.int 3))) (fC (.int 1))))
 (aO (bL 6 (aC bM (fC (.int 2)) (aC lX (aq 0) (fC (.int 11)))))
 (aO l_5
 (aO (jt 7 (ou aB))
 (aO l_9
 (aO (bL 10 (aY (aj (fC (.str "deal")) (aj (aC gIx (aq 2) (fC (.int 0))) (aj (aM gG (aj (aq 7) aB)) aB)))))
 (aO (gIf (aW gEq (aC lX (aC t8 (aq 0) (fC (.int 1386))) (fC (.int 2))) (fC (.int 1))) (bL 10 (aY (aj (fC (.str "move")) (aj (aC o8 (fC (.int 3)) (aq 1)) (aj (aC gIx (aq 2) (fC (.int 2))) (aj (aY (aj (aY (aj (aC gIx (aq 4) (fC (.int 0))) (aj (aG 10) aB))) aB)) aB)))))) gNx)
 (cD (aY (aj (aG 10) (aj (aG 6) (aj (aG 3) (aj (aG 5) aB)))))))))))))))
def qJ:Zg:=
 (gH iQ j7 iH)
def fU:Zf:=bB 11 3 qJ
def xn:Zl:=
 (fFn gJ (aj (aC lX (fFn cu (aj (aG 1) (aj (fC (.int 2)) aB))) (aC bM (aC Ie (fC (.int 10)) (fC (.int 15))) (fC (.int 37)))) (aj (aG 0) aB)))
def rB:Zl:=
 (dB 1 [0] (jn (aj (fC (.int 5)) aB)) (hName 0) iy xn)
def ur (a_keener a_gain:Addr)(φ_keener:Zf)(φ__law_cell_at:Zf)(φ__law_refused:Zf)(φ__law_game:Zf)(l_2:Zl):Zg:=
 (aO (bL 1 (aC lX (fFn φ__law_cell_at (aj (aG 0) (aj (fC (.int 0)) aB))) (aC bM (aC Ie (fC (.int 10)) (fC (.int 15))) (fC (.int 37)))))
 (aO (bL 2 (aC bM (fC (.int 1)) (aC lX (fFn φ__law_cell_at (aj (aG 0) (aj (fC (.int 1)) aB))) (fC (.int 2)))))
 (aO (bL 3 l_2)
 (aO (JL (fFn φ__law_game (aj (aG 1) (aj (aG 2) (aj (aG 3) aB)))) (iW 4 (bz (hName 4) (bz (hName 5) (bz (hName 6) (bz (hName 7) iY))))))
 (aO (bL 8 (aC rZ (aq 5) (aC bM (fC (.int 1)) (aM uh (aj (aq 7) aB)))))
 (aO (bL 9 (aC rZ (aq 5) (aC bM (aq 6) (aC rZ (fC (.int 2)) (aM uh (aj (aq 7) aB))))))
 (aO (gIf (aW gNe (fFn φ__law_refused (aj (fC (.adr a_keener)) (aj (aG 4) (aj (aG 2) (aj (aC gIx (aq 3) (fC (.int 0))) aB))))) (fOr (pK gGt (aq 8) (fC (.int 8))) (pK gGt (aq 9) (fC (.int 24))))) (cD (fC (.bl false))) gNx)
 (aO (gIf (GC (aW gGt (aq 8) (fC (.int 8))) (aW gGt (aq 9) (fC (.int 24)))) (gIf (Cw (fTv (fFn φ__law_refused (aj (fC (.adr a_gain)) (aj (aG 4) (aj (aG 2) (aj (aC gIx (aq 3) (fC (.int 0))) aB))))))) (cD (fC (.bl false))) gNx) (gIf (aW gNe (aM ig (aj (aC gIx (fFn φ_keener (aj (aG 4) (aj (aG 2) (aj (aC gIx (aq 3) (fC (.int 0))) aB)))) (fC (.int 1))) aB)) (aq 8)) (cD (fC (.bl false))) gNx))
 (aO (gIf (aW gNe (aM ig (aj (aC gIx (fFn φ_keener (aj (aG 4) (aj (aG 2) (aj (aC gIx (aq 3) (fC (.int 4))) aB)))) (fC (.int 1))) aB)) (aC bM (fC (.int 1)) (aM uh (aj (aq 7) aB)))) (cD (fC (.bl false))) gNx)
 (aO (gIf (aW gNe (aM ig (aj (aC gIx (fFn φ_keener (aj (aG 4) (aj (aG 2) (aj (aC gIx (aq 3) (fC (.int 1))) aB)))) (fC (.int 1))) aB)) (aC bM (fC (.int 1)) (aC rZ (fC (.int 2)) (aM uh (aj (aq 7) aB))))) (cD (fC (.bl false))) gNx)
 (cD (pK gEq (aM ig (aj (aC gIx (fFn φ_keener (aj (aG 4) (aj (aC o8 (fC (.int 3)) (aq 2)) (aj (aC gIx (aq 3) (fC (.int 0))) aB)))) (fC (.int 1))) aB)) (aC lX (aC t8 (aq 1) (fC (.int 1386))) (fC (.int 2)))))))))))))))
def Oe (a_keener a_gain:Addr):Zg:=
 (ur a_keener a_gain bH cu (cJ a_keener a_gain) fU rB)
def GD (a_keener a_gain:Addr):Zf:=bB 10 1 (Oe a_keener a_gain)
end
end K56
namespace Hd
theorem Nk (h:n<2 ^ m)(hk:m<=k):n<2 ^ k:=Nat.lt_of_lt_of_le h (Nat.pow_le_pow_right (by decide) hk)
abbrev Q2:=Int×Int
end Hd
namespace F
open PySem L2 Hd
@[simp] theorem szl:sizeLine=16777216:=by decide
theorem nD:∀{a b:List Char},a.map Char.toNat=b.map Char.toNat->a=b
 |[],[],_=>rfl
 |[],_::_,h=>by simp at h
 |_::_,[],h=>by simp at h
 |x::a,y::b,h=>by
  have h':x.toNat=y.toNat/\a.map Char.toNat=b.map Char.toNat:=by simpa using h
  rw [Char.toNat_inj.mp h'.1,nD h'.2]
@[simp] theorem Uz:(Str.ofString a=Str.ofString b)↔a=b:=by
 constructor
 ·intro h;rw [Str.ofString_eq_toList,Str.ofString_eq_toList] at h;have h2:(a.toList.map Char.toNat).toArray=(b.toList.map Char.toNat).toArray:=congrArg Str.cps h;have h3:a.toList.map Char.toNat=b.toList.map Char.toNat:=by simpa using congrArg Array.toList h2
  exact String.toList_inj.mp (nD h3)
 ·intro h;rw [h]
@[simp] theorem Uy (i j:Int):gEq (.int i) (.int j)=some (decide (i=j)):=rfl
@[simp] theorem UG (i j:Str):gEq (.str i) (.str j)=some (decide (i=j)):=rfl
@[simp] theorem VJ (i j:Bool):gEq (.bl i) (.bl j)=some (decide (i=j)):=rfl
@[simp] theorem Ux (i j:Int):gNe (.int i) (.int j)=some (!decide (i=j)):=rfl
@[simp] theorem Uw (i j:Str):gNe (.str i) (.str j)=some (!decide (i=j)):=rfl
@[simp] theorem Vs (i j:Bool):gNe (.bl i) (.bl j)=some (!decide (i=j)):=rfl
def qD (d:Q2):D:=.tup [.int d.1,.int d.2]
mutual
inductive Gm where
 |fin (d:Q2)
 |deal (n:Str) (ws:Ws)
 |move (s:Int) (n:Str) (ws:Ws)
inductive Ws where
 |nil
 |cons (l:D) (g:Gm) (r:Ws)
end
mutual
def dG:Gm->D
 | .fin d=>.tup [.str "end",qD d]
 | .deal n ws=>.tup [.str "deal",.str n,.tup (dWs ws)]
 | .move s n ws=>.tup [.str "move",.int s,.str n,.tup (dWs ws)]
def dWs:Ws->List D
 | .nil=>[]
 | .cons l g r=>.tup [l,dG g]::dWs r
end
mutual
def dp:Gm->Nat
 | .fin _=>0
 | .deal _ ws=>dpW ws+1
 | .move _ _ ws=>dpW ws+1
def dpW:Ws->Nat
 | .nil=>0
 | .cons _ g r=>max (dp g) (dpW r)
end
def cR:Ws->Nat
 | .nil=>0
 | .cons _ _ r=>cR r+1
theorem rE:∀ws:Ws,(dWs ws).length=cR ws
 | .nil=>rfl
 | .cons l g r=>by show (dWs r).length+1=_;rw [rE r];rfl
mutual
def dH:Gm->Prop
 | .fin _=>True
 | .deal _ ws=>cR ws<=100/\iu ws
 | .move _ _ ws=>cR ws<=100/\iu ws
def iu:Ws->Prop
 | .nil=>True
 | .cons _ g r=>dH g/\iu r
end
theorem VH (h:f m=.ok [.int j])(h1:-1000000000<=j)(h2:j<=1000000000):jn f m=.ok ((List.range j.toNat).map λ(i:Nat)=>D.int i):=by
 unfold jn;rw [h];show (if -(2 ^ 62)<=j/\j<2 ^ 62 then _ else _)=_;rw [if_pos ⟨by omega,by omega⟩]
theorem uB (h:0<=n):cut xs none (some n)=xs.take n.toNat:=by simp_all [List.drop_zero,Nat.sub_zero,if_neg,Nat.min_eq_left,Nat.min_eq_right,List.take_length,List.take_of_length_le,cut,HT.sIx]
open PySem PySem.NumText
def tx (l:List Nat):Str:=⟨l.toArray⟩
theorem M4 (l:List Nat):(tx l).cps.toList=l:=rfl
theorem zb (l:List Nat):(tx l).length=l.length:=by rfl
theorem T7 (h:x.cps.toList=l):x=tx l:=by
 cases x with
 |mk a=>subst h;unfold tx;simp
theorem RQ (a b:List Nat):tx a++tx b=tx (a++b):=T7 (by show (a.toArray++b.toArray).toList=_;simp)
theorem Qd:tx a=tx b↔a=b:=⟨λh=>by have:=congrArg (λz:Str=>z.cps.toList) h;exact this,λh=>by rw [h]⟩
end F
namespace Pk
open PySem L2 Hd F
def eN:Ws->List Gm
 | .nil=>[]
 | .cons _ g r=>g::eN r
def kids:Gm->List Gm
 | .fin _=>[]
 | .deal _ ws=>eN ws
 | .move _ _ ws=>eN ws
mutual
def szG:Gm->Nat
 | .fin _=>1
 | .deal _ ws=>szW ws+1
 | .move _ _ ws=>szW ws+1
def szW:Ws->Nat
 | .nil=>0
 | .cons _ g r=>szG g+szW r
end
theorem rN (g:Gm):1<=szG g:=by cases g<;>simp [szG]
mutual
def plG:List Int->Gm->List (List Int×Gm)
 |w,.fin d=>[(w,.fin d)]
 |w,.deal n ws=>(w,.deal n ws)::plW w 0 ws
 |w,.move s n ws=>(w,.move s n ws)::plW w 0 ws
def plW:List Int->Nat->Ws->List (List Int×Gm)
 |_,_,.nil=>[]
 |w,i,.cons _ g r=>plG (w++[(i:Int)]) g++plW w (i+1) r
end
def pD (p:List Int×Gm):D:=.tup [.tup (p.1.map .int),dG p.2]
def bh (w:List Int)(g:Gm):List (List Int×Gm):=(kids g).zipIdx.map λp=>(w++[(p.2:Int)],p.1)
theorem zA (w:List Int):∀(i:Nat) (ws:Ws),plW w i ws=(((eN ws).zipIdx i).map λp=>(w++[(p.2:Int)],p.1)).flatMap λp=>plG p.1 p.2
 |i,.nil=>rfl
 |i,.cons l g r=>by
  show plG (w++[(i:Int)]) g++plW w (i+1) r=_;rw [zA w (i+1) r];rfl
theorem Pq (w:List Int)(g:Gm):plG w g=(w,g)::(bh w g).flatMap λp=>plG p.1 p.2:=by
 cases g with
 |fin d=>rfl
 |deal n ws=>show (w,Gm.deal n ws)::plW w 0 ws=_;rw [zA];rfl
 |move s n ws=>show (w,Gm.move s n ws)::plW w 0 ws=_;rw [zA];rfl
theorem p6:∀ws:Ws,szW ws=((eN ws).map szG).sum
 | .nil=>rfl
 | .cons l g r=>by show szG g+szW r=_;rw [p6 r];rfl
theorem Rj (g:Gm):szG g=((kids g).map szG).sum+1:=by
 cases g with
 |fin d=>rfl
 |deal n ws=>show szW ws+1=_;rw [p6];rfl
 |move s n ws=>show szW ws+1=_;rw [p6];rfl
theorem f9:∀ws:Ws,(eN ws).length=cR ws
 | .nil=>rfl
 | .cons l g r=>by show (eN r).length+1=_;rw [f9 r];rfl
theorem iC:∀{ws:Ws} {g:Gm},iu ws->g∈eN ws->dH g
 | .cons l k r,g,h,hg=>by
  rcases List.mem_cons.mp hg with w | w
  ·rw [w];exact h.1
  ·exact iC h.2 w
theorem Eu (h:dH g)(hk:k∈kids g):dH k/\(kids g).length<=100:=by
 cases g with
 |fin d=>cases hk
 |deal n ws=>exact ⟨iC h.2 hk,by show (eN ws).length<=100;rw [f9];exact h.1⟩
 |move s n ws=>exact ⟨iC h.2 hk,by show (eN ws).length<=100;rw [f9];exact h.1⟩
theorem sW (h:dH g):(kids g).length<=100:=by
 cases g with
 |fin d=>exact Nat.zero_le _
 |deal n ws=>show (eN ws).length<=100;rw [f9];exact h.1
 |move s n ws=>show (eN ws).length<=100;rw [f9];exact h.1
theorem qg:∀ws:Ws,dU (iW 2 (bz (hName 0) (bz (hName 1) iY))) iy (aG 1) [.un,.un] (dWs ws)=.ok ((eN ws).map dG)
 | .nil=>rfl
 | .cons l g r=>by
  have ih:=qg r;have e:aG 1 [.fz l,.fz (dG g)]=.ok (dG g):=rfl;unfold dWs dU;simp [iW,bz,hName,iY,iy,e,ih,eN]
theorem wX (q:Q [.fz (dG g)]=.ok (.lst ((kids g).map dG))\/kids g=[]/\∃d,g=.fin d):bB 1 1 (eO Q) [dG g]=.ok (true,.lst ((kids g).map dG)):=by
 have x2:∀a b:D,atI [a,b] 0=some a:=λ_ _=>rfl;have x3:∀a b c:D,atI [a,b,c] 0=some a:=λ_ _ _=>rfl;have x4:∀a b c d:D,atI [a,b,c,d] 0=some a:=λ_ _ _ _=>rfl;cases g with
 |fin d=>simp [bB,eO,aO,gIf,aW,aC,aq,fC,gIx,dG,x2,nA,Me.let,Sl.let,ou,aB,kids]
 |deal n ws=>
  rcases q with q | ⟨_,d,e⟩
  ·have q':=q;simp only [dG] at q';simp [bB,eO,aO,gIf,aW,aC,aq,fC,gIx,dG,x3,nA,Me.let,Sl.let,q',gNx]
  ·cases e
 |move s n ws=>
  rcases q with q | ⟨_,d,e⟩
  ·have q':=q;simp only [dG] at q';simp [bB,eO,aO,gIf,aW,aC,aq,fC,gIx,dG,x4,nA,Me.let,Sl.let,q',gNx]
  ·cases e
theorem qC (h:dH g):dF [dG g]=.ok (true,.lst ((kids g).map dG)):=by
 have x3:∀a b c:D,atI [a,b,c] (-1)=some c:=λ_ _ _=>rfl;have x4:∀a b c d:D,atI [a,b,c,d] (-1)=some d:=λ_ _ _ _=>rfl;refine wX ?_;cases g with
 |fin d=>exact .inr ⟨rfl,d,rfl⟩
 |deal n ws=>
  have hz:(dWs ws).length<=16777216:=by rw [rE];have:=h.1;omega
  left;simp [jg,dB,yt,aC,aq,fUn,uQ,fC,gIx,dG,x3,cMe,hz,qg,kids]
 |move s n ws=>
  have hz:(dWs ws).length<=16777216:=by rw [rE];have:=h.1;omega
  left;simp [jg,dB,yt,aC,aq,fUn,uQ,fC,gIx,dG,x4,cMe,hz,qg,kids]
theorem Er (ks:List Gm):lV (ks.map dG)=ks.zipIdx.map λp=>D.tup [.int (p.2:Int),dG p.1]:=by
 unfold lV;rw [List.mapIdx_eq_zipIdx_map,List.zipIdx_map,List.map_map];rfl
theorem gk:∀l:List α,(∀c∈l,∃m1,h (g c) m0=some m1/\ft m1=.ok true/\fe m1=.ok (f c))->dU h ft fe m0 (l.map g)=.ok (l.map f)
 |[],_=>rfl
 |d::ds,H=>by
  obtain ⟨m1,e1,e2,e3⟩:=H d List.mem_cons_self;have ih:=gk ds λd hd=>H d (List.mem_cons_of_mem _ hd);rw [List.map_cons];unfold dU;simp only [e1,e2,e3,ih,List.map_cons]
theorem Fd (h:dH g)(hw:w.length<=1000):iT [a,s1,s2,.fz (pD (w,g)),s4]=.ok (.lst ((bh w g).map pD)):=by
 have hb:=qC h;have hl:=sW h;have x0:∀a b:D,atI [a,b] 0=some a:=λ_ _=>rfl;have x1:∀a b:D,atI [a,b] 1=some b:=λ_ _=>rfl;have e:dU (iW 2 (bz (hName 0) (bz (hName 1) iY))) iy j4 [.un,.un,.fz (pD (w,g))] ((kids g).zipIdx.map λp=>D.tup [.int (p.2:Int),dG p.1])=.ok ((kids g).zipIdx.map λp=>pD (w++[(p.2:Int)],p.1)):=gk _ λp hp=>by
  refine ⟨[.fz (.int (p.2:Int)),.fz (dG p.1),.fz (pD (w,g))],rfl,rfl,?_⟩;have hz:(w.map D.int).length+1<=16777216:=by rw [List.length_map];omega
  have hz':w.length+1<=16777216:=by omega
  simp [j4,aY,aj,aB,aC,aq,aG,fC,gIx,pD,x0,bM,hz']
 have hz:(kids g).length<=16777216:=by omega
 have e':((bh w g).map pD)=(kids g).zipIdx.map λp=>pD (w++[(p.2:Int)],p.1):=by unfold bh;rw [List.map_map];rfl
 rw [e'];simp only [pD] at e ⊢;simp [iT,dB,Pr,aj,aB,fFn,aC,aq,fC,gIx,x1,hb,Er,cMe,Sl.bor,hz,e]
def szS (st:List (List Int×Gm)):Nat:=(st.map λp=>szG p.2).sum
theorem Q0 (w:List Int)(g:Gm):szS (bh w g)+1=szG g:=by
 rw [Rj];unfold szS bh;rw [List.map_map];congr 2
 have:((λp:List Int×Gm=>szG p.2) ∘ λp:Gm×Nat=>(w++[(p.2:Int)],p.1))=szG ∘ Prod.fst:=rfl
 rw [this,← List.map_map,List.zipIdx_map_fst]
theorem Dn:∀st:List (List Int×Gm),st.length<=szS st
 |[]=>Nat.zero_le _
 |p::st=>by
  have:=Dn st
  have:=rN p.2
  show st.length+1<=szG p.2+szS st;omega
theorem Ao (a b:List (List Int×Gm)):szS (a++b)=szS a+szS b:=by unfold szS;rw [List.map_append,List.sum_append]
theorem Bj (h1:t m=.ok true)(h2:b m=.ok (.nx,m'))(h3:wh t b n m'=some r):wh t b (n+1) m=some r:=by
 unfold wh;rw [h1,h2];exact h3
theorem Bl (h1:t m=.ok false):wh t b 1 m=some (.ok (.nx,m)):=by
 unfold wh;rw [h1]
theorem K9 (h:dH g)(hw:w.length<=1000)(hz:done.length+st.length<=10000000):
  iK [a,.ow (.lst (done.map pD)),.ow (.lst ((((w,g)::st).map pD).reverse)),s3,s4]=.ok (.nx,[a,.ow (.lst ((done++[(w,g)]).map pD)),.ow (.lst (((bh w g++st).map pD).reverse)),.fz (pD (w,g)),.fz (.lst ((bh w g).map pD))]):=by
 have hl:=sW h;have hb:(bh w g).length=(kids g).length:=by unfold bh;simp
 have q:∀s1 s2 s4,iT [a,s1,s2,.fz (pD (w,g)),s4]=.ok (.lst ((bh w g).map pD)):=λs1 s2 s4=>Fd h hw;have l1:((st.map pD).reverse++[pD (w,g)]).length - 1=(st.map pD).reverse.length:=by simp
 have g1:((st.map pD).reverse++[pD (w,g)])[((st.map pD).reverse++[pD (w,g)]).length - 1]? = some (pD (w,g)):=by rw [l1];simp
 have d1:((st.map pD).reverse++[pD (w,g)]).dropLast=(st.map pD).reverse:=List.dropLast_concat;have z1:done.length<16777216:=by omega
 have z2:st.length+(bh w g).length<=16777216:=by rw [hb];omega
 rw [List.map_cons,List.reverse_cons];generalize hS:(st.map pD).reverse=S at *;have lS:S.length=st.length:=by rw [← hS];simp
 have e2:((bh w g++st).map pD).reverse=S++((bh w g).map pD).reverse:=by rw [List.map_append,List.reverse_append,hS]
 rw [e2];have g1':(S++[pD (w,g)])[S.length]? = some (pD (w,g)):=by simp
 simp [iK,aO,wV,oV,putL,jM,aG,bL,q,wu,aM,aj,aB,aq,G8,z1,lS,z2]
theorem M7 (h:dH g):∀p∈bh w g,dH p.2/\p.1.length=w.length+1:=λp hp=>by
 unfold bh at hp;obtain ⟨q,hq,rfl⟩:=List.mem_map.mp hp
 have:q.1∈kids g:=by have:=List.mem_map_of_mem (f:=Prod.fst) hq;rwa [List.zipIdx_map_fst] at this
 exact ⟨(Eu h this).1,by simp⟩
theorem v9 (hk:k∈kids g):dp k<dp g:=by
 have aux:∀{ws:Ws},k∈eN ws->dp k<=dpW ws:=by
  intro ws;induction ws using Ws.rec (motive_1:=λ_=>True) with
  |nil=>intro h;cases h
  |cons l g r _ ih=>
   intro h;show dp k<=max (dp g) (dpW r);rcases List.mem_cons.mp h with w | w
   ·rw [w];exact Nat.le_max_left _ _
   ·exact Nat.le_trans (ih w) (Nat.le_max_right _ _)
  |fin=>trivial
  |deal=>trivial
  |move=>trivial
 cases g with
 |fin d=>cases hk
 |deal n ws=>exact Nat.lt_succ_of_le (aux hk)
 |move s n ws=>exact Nat.lt_succ_of_le (aux hk)
theorem T6:∀p∈bh w g,dp p.2<dp g:=λp hp=>by
 unfold bh at hp;obtain ⟨q,hq,rfl⟩:=List.mem_map.mp hp
 have:q.1∈kids g:=by have:=List.mem_map_of_mem (f:=Prod.fst) hq;rwa [List.zipIdx_map_fst] at this
 exact v9 this
theorem M6 (a:Sl):∀(N:Nat) (done st:List (List Int×Gm)) (s3 s4:Sl),szS st=N->(∀p∈st,dH p.2/\p.1.length+dp p.2<=100)->done.length+szS st<=10000000->
  ∃k s3' s4',wh iM iK k [a,.ow (.lst (done.map pD)),.ow (.lst ((st.map pD).reverse)),s3,s4]=some (.ok (.nx,[a,.ow (.lst ((done++st.flatMap λp=>plG p.1 p.2).map pD)),.ow (.lst []),s3',s4'])):=by
 intro N;induction N using Nat.strongRecOn with
 |_ N ih=>
  intro done st s3 s4 hN hs hz;cases st with
  |nil=>
   refine ⟨1,s3,s4,?_⟩;simp only [List.map_nil,List.reverse_nil,List.flatMap_nil,List.append_nil];exact Bl (by simp [iM,aW,aM,ig,aj,aB,aq,fC,gGt])
  |cons p st=>
   obtain ⟨w,g⟩:=p;have h1:dH g/\w.length+dp g<=100:=hs (w,g) (by simp);have sb:=Q0 w g;have hsum:szS ((w,g)::st)=szG g+szS st:=rfl;have ls:=Dn st;have gp:=rN g;obtain ⟨k,t3,t4,e⟩:=ih (szS (bh w g++st)) (by rw [Ao];omega) (done++[(w,g)]) (bh w g++st) (.fz (pD (w,g))) (.fz (.lst ((bh w g).map pD))) rfl (λp hp=>by
    rcases List.mem_append.mp hp with v | v
    ·have v1:=M7 h1.1 p v;have v2:=T6 p v;exact ⟨v1.1,by omega⟩
    ·exact hs p (by simp [v])) (by rw [Ao,List.length_append];simp;omega)
   refine ⟨k+1,t3,t4,?_⟩;have e3:done++((w,g)::st).flatMap (λp=>plG p.1 p.2)=done++[(w,g)]++(bh w g++st).flatMap λp=>plG p.1 p.2:=by
    rw [List.flatMap_cons,List.flatMap_append,Pq]
    simp
   rw [e3];refine Bj ?_ (K9 h1.1 (by omega) (by omega)) e;simp [iM,aW,aM,ig,aj,aB,aq,fC,gGt]
theorem zm (e:L [.fz d,.ow (.lst []),.ow (.lst [.tup [.tup [],d]]),.un,.un]=.ok (.nx,[.fz d,.ow (.lst ps),.ow (.lst []),s3,s4])):bB 5 1 (jQ L) [d]=.ok (true,.lst ps):=by
 simp [bB,jQ,aO,jt,ou,aj,aB,aY,aG,e,vq]
theorem places_eq (h:dH g)(hd:dp g<=50)(hz:szG g<=10000000):fO [dG g]=.ok (true,.lst ((plG [] g).map pD)):=by
 obtain ⟨k,s3,s4,e⟩:=M6 (.fz (dG g)) _ [] [([],g)] .un .un rfl (λp hp=>by rw [List.mem_singleton.mp hp];exact ⟨h,by simp;omega⟩) (by show 0+(szG g+0)<=_;omega);have e2:=vy k e;simp only [List.nil_append,List.flatMap_cons,List.flatMap_nil,List.append_nil] at e2;exact zm (s3:=s3) (s4:=s4) e2
def kw (w:List Int):List Kt:=w.map λi=>.k (.inl i)
theorem wI:∀{v w:List Int},kw v=kw w->v=w
 |[],[],_=>rfl
 |[],_::_,h=>by cases h
 |_::_,[],h=>by cases h
 |a::v,b::w,h=>by
  have h:(Kt.k (.inl a):Kt)::kw v=Kt.k (.inl b)::kw w:=h;injection h with h1 h2
  injection h1 with h1
  injection h1 with h1
  rw [h1,wI h2]
theorem OD:∀w:List Int,gj (ktD 7) (w.map D.int)=some (kw w)
 |[]=>rfl
 |a::w=>by
  show ((ktD 7 (.int a)).bind λk=>(gj (ktD 7) (w.map D.int)).map λks=>k::ks)=_;rw [OD w];rfl
theorem Gp (w:List Int):ph (.tup (w.map D.int))=some (kw w):=OD w
theorem xY:∀{ks:List (List Kt)} {ds:List D},ks.length=ds.length->k∈ks->cU ks (nF ks ds k d) k'=if k=k' then some d else cU ks ds k'
 |[],_,_,h=>by cases h
 |a::ks,[],h,_=>by simp at h
 |a::ks,x::ds,h,hk=>by
  have hl:ks.length=ds.length:=by simpa using h
  unfold nF cU;by_cases h1:a=k'
  ·rw [if_pos h1,if_pos h1];by_cases h2:a=k
   ·rw [if_pos h2,if_pos (h2 ▸ h1)]
   ·rw [if_neg h2,if_neg λe=>h2 (by rw [h1,e])]
  ·rw [if_neg h1,if_neg h1];by_cases h2:k∈ks
   ·exact xY hl h2
   ·have h3:a=k:=by
     rcases List.mem_cons.mp hk with e | e
     ·exact e.symm
     ·exact absurd e h2
    have h4:k≠k':=λe=>h1 (by rw [h3,e]);rw [if_neg h4];have e:∀{ks:List (List Kt)} {ds:List D},k∉ks->ks.length=ds.length->nF ks ds k d=ds:=by
     intro ks;induction ks with
     |nil=>intro ds _ hl;cases ds with
      |nil=>rfl
      |cons _ _=>simp at hl
     |cons b ks ih=>intro ds hn hl;cases ds with
      |nil=>simp at hl
      |cons y ds=>
       unfold nF;rw [if_neg (λ(e:b=k)=>hn (e ▸ List.mem_cons_self)),ih (λe=>hn (List.mem_cons_of_mem _ e)) (by simpa using hl)]
    rw [e h2 hl]
theorem Aq:∀{ks:List (List Kt)} {ds:List D},ks.length=ds.length->k∉ks->cU (ks++[k]) (ds++[d]) k'=if k=k' then some d else cU ks ds k'
 |[],[],_,_=>by simp [cU]
 |[],_::_,h,_=>by simp at h
 |a::ks,[],h,_=>by simp at h
 |a::ks,x::ds,h,hk=>by
  have ih:=Aq (k:=k) (k':=k') (d:=d) (ks:=ks) (ds:=ds) (by simpa using h) λe=>hk (List.mem_cons_of_mem _ e);have hn:a≠k:=λe=>hk (e ▸ List.mem_cons_self);show cU (a::(ks++[k])) (x::(ds++[d])) k'=_;unfold cU;rw [ih];by_cases h1:a=k'
  ·rw [if_pos h1,if_neg λe=>hn (by rw [h1,e]),if_pos h1]
  ·rw [if_neg h1,if_neg h1]
theorem Ak {ks:List (List Kt)}:ks.any (λx=>decide (x=k))=true↔k∈ks:=by simp_all
theorem yx:∀{ks:List (List Kt)} {ds:List D},ks.length=ds.length->(nF ks ds k d).length=ks.length
 |[],[],_=>rfl
 |[],_::_,h=>by simp at h
 |a::ks,[],h=>by simp at h
 |a::ks,x::ds,h=>by
  have:=yx (k:=k) (d:=d) (ks:=ks) (ds:=ds) (by simpa using h)
  simp [nF,this]
theorem xF {ks:List (List Kt)}{ds:List D}(hl:ks.length=ds.length):cU (nq ks ds k d).1 (nq ks ds k d).2 k'=if k=k' then some d else cU ks ds k':=by
 unfold nq;by_cases h:ks.any (λx=>decide (x=k))=true
 ·rw [if_pos h];exact xY hl (Ak.mp h)
 ·rw [if_neg h];exact Aq hl λz=>h (Ak.mpr z)
theorem MN (hl:ks.length=ds.length):(nq ks ds k d).1.length=(nq ks ds k d).2.length/\(nq ks ds k d).1.length<=ks.length+1:=by
 unfold nq;by_cases h:ks.any (λx=>decide (x=k))=true
 ·rw [if_pos h];exact ⟨(yx hl).symm,by simp⟩
 ·rw [if_neg h];exact ⟨by simp [hl],by simp⟩
theorem dZ (h1:h d m=some m1)(h2:g m1=.ok (.nx,m2)):bZ h g (d::ds) m=bZ h g ds m2:=by
 rw [bZ,h1];simp only [h2]
abbrev Rc:=List D×List D
def rD2 (r:Rc):D:=.tup [.tup r.1,.tup r.2]
def rbm (s:Int)(n:Str)(r:Rc)(l:D):Rc:=if s=1 then (r.1++[.tup [.str n,l]],r.2) else (r.1,r.2++[.tup [.str n,l]])
def jq:Ws->List D
 | .nil=>[]
 | .cons l _ r=>l::jq r
def rbg:Gm->Rc->D->Rc
 | .move s n _,r,l=>rbm s n r l
 |_,r,_=>r
def qR:Gm->Ws
 | .fin _=>.nil
 | .deal _ ws=>ws
 | .move _ _ ws=>ws
mutual
def prG:List Int->Rc->Gm->List (List Int×Gm×Rc)
 |w,r,.fin d=>[(w,.fin d,r)]
 |w,r,.deal n ws=>(w,.deal n ws,r)::prW w (λ_=>r) 0 ws
 |w,r,.move s n ws=>(w,.move s n ws,r)::prW w (rbm s n r) 0 ws
def prW:List Int->(D->Rc)->Nat->Ws->List (List Int×Gm×Rc)
 |_,_,_,.nil=>[]
 |w,f,i,.cons l g r=>prG (w++[(i:Int)]) (f l) g++prW w f (i+1) r
end
mutual
theorem Hy:∀(w:List Int) (r:Rc) (g:Gm),(prG w r g).map (λp=>(p.1,p.2.1))=plG w g
 |w,r,.fin d=>rfl
 |w,r,.deal n ws=>by
  show (w,Gm.deal n ws)::(prW w (λ_=>r) 0 ws).map _=(w,Gm.deal n ws)::plW w 0 ws;rw [zT w _ 0 ws]
 |w,r,.move s n ws=>by
  show (w,Gm.move s n ws)::(prW w (rbm s n r) 0 ws).map _=(w,Gm.move s n ws)::plW w 0 ws;rw [zT w _ 0 ws]
theorem zT:∀(w:List Int) (f:D->Rc) (i:Nat) (ws:Ws),(prW w f i ws).map (λp=>(p.1,p.2.1))=plW w i ws
 |w,f,i,.nil=>rfl
 |w,f,i,.cons l g r=>by
  show (prG (w++[(i:Int)]) (f l) g++prW w f (i+1) r).map _=plG (w++[(i:Int)]) g++plW w (i+1) r;rw [List.map_append,Hy _ _ g,zT w f (i+1) r]
end
def trD (p:List Int×Gm×Rc):D:=.tup [.tup (p.1.map D.int),dG p.2.1,rD2 p.2.2]
theorem BZ:∀(ws:Ws) (k:Nat) (l:D),(jq ws)[k]? = some l->∃g,(dWs ws)[k]? = some (.tup [l,g])
 | .nil,k,l,h=>by simp [jq] at h
 | .cons a g r,0,l,h=>by
  have:a=l:=by simpa [jq] using h
  exact ⟨dG g,by simp [dWs,this]⟩
 | .cons a g r,k+1,l,h=>by
  obtain ⟨x,e⟩:=BZ r k l (by simpa [jq] using h);exact ⟨x,by simpa [dWs] using e⟩
theorem mj:∀ws:Ws,(jq ws).length=cR ws
 | .nil=>rfl
 | .cons _ _ r=>by simp [jq,cR,mj r]
theorem Uh {g:Gm}{r:Rc}{k:Nat}{l:D}(hl:(jq (qR g))[k]? = some l)(hg:dH g)(hr:r.1.length<=1000/\r.2.length<=1000)(hs:∀s n ws,g=.move s n ws->s=1\/s=2):
  cH [dG g,rD2 r,.int (k:Int)]=.ok (false,rD2 (rbg g r l)):=by
 have x30:∀a b c:D,atI [a,b,c] 0=some a:=λ_ _ _=>rfl;have x40:∀a b c d:D,atI [a,b,c,d] 0=some a:=λ_ _ _ _=>rfl;have x41:∀a b c d:D,atI [a,b,c,d] 1=some b:=λ_ _ _ _=>rfl;have x42:∀a b c d:D,atI [a,b,c,d] 2=some c:=λ_ _ _ _=>rfl;have x43:∀a b c d:D,atI [a,b,c,d] 3=some d:=λ_ _ _ _=>rfl;have x20:∀a b:D,atI [a,b] 0=some a:=λ_ _=>rfl;have x21:∀a b:D,atI [a,b] 1=some b:=λ_ _=>rfl;cases g with
 |fin d=>simp [qR,jq] at hl
 |deal n ws=>simp [cH,dY,dR,bB,aO,gIf,aW,aC,aq,fC,gIx,dG,x30,cD,aG,Me.let,Sl.let,rbg]
 |move s n ws=>
  obtain ⟨y,ey⟩:=BZ ws k l hl;have ez:=Bc ey;have z1:r.1.length+1<=16777216:=by omega
  have z2:r.2.length+1<=16777216:=by omega
  rcases hs s n ws rfl with rfl | rfl
  ·simp [cH,dY,dR,bB,aO,gIf,aW,aC,aq,fC,gIx,dG,x40,x41,x42,x43,cD,aG,Me.let,Sl.let,rbg,gNx,bL,aY,aj,aB,ez,x20,x21,rD2,bM,z1,rbm]
  ·simp [cH,dY,dR,bB,aO,gIf,aW,aC,aq,fC,gIx,dG,x40,x41,x42,x43,cD,aG,Me.let,Sl.let,rbg,gNx,bL,aY,aj,aB,ez,x20,x21,rD2,bM,z2,rbm]
theorem Ug (w:List Int)(j:Int):kw (w++[j])≠kw w:=λh=>by
 have:=wI h
 have:=congrArg List.length this
 simp at this
theorem P0 (h:i≠j):kw (w++[i])≠kw (w++[j]):=λe=>h (by simpa using wI e)
theorem Hl {g0 s2 s5:Sl}{ks:List (List Kt)}{ds:List D}{w:List Int}{g:Gm}{r:Rc}{k:Nat}{l:D}(hv:cU ks ds (kw w)=some (rD2 r))(hk:(jq (qR g))[k]? = some l)(hg:dH g)(hr:r.1.length<=1000/\r.2.length<=1000)
  (hs:∀s n ws,g=.move s n ws->s=1\/s=2) (hz:ks.length<=10000000) (hw:w.length<=1000):
  bQ [g0,.ow (.dcu ks ds),s2,.fz (.tup (w.map D.int)),.fz (dG g),.fz (.int (k:Int))]=.ok (.nx,[g0,.ow (.dcu (nq ks ds (kw (w++[(k:Int)])) (rD2 (rbg g r l))).1 (nq ks ds (kw (w++[(k:Int)])) (rD2 (rbg g r l))).2),s2,.fz (.tup (w.map D.int)),.fz (dG g),.fz (.int (k:Int))]):=by
 have e:=Uh hk hg hr hs;have z1:ks.length<16777216:=by omega
 have z2:w.length+1<=16777216:=by omega
 have kk:ph (.tup (w.map D.int++[.int (k:Int)]))=some (kw (w++[(k:Int)])):=by
  rw [← Gp];simp
 have kk2:ph (.tup (w.map D.int))=some (kw w):=Gp w;simp [bQ,Jj,fFn,aj,aB,aG,aC,aq,yC,dcK,kk2,hv,e,vU,aY,bM,z2,kk,z1,lU]
theorem yG {g0 s2:Sl}{w:List Int}{g:Gm}{r:Rc}(hg:dH g)(hr:r.1.length<=1000/\r.2.length<=1000)(hs:∀s n ws,g=.move s n ws->s=1\/s=2)(hw:w.length<=1000):
  ∀(c i:Nat) (ks:List (List Kt)) (ds:List D) (s5:Sl),i+c=(jq (qR g)).length->ks.length=ds.length->cU ks ds (kw w)=some (rD2 r)->ks.length+c<=1000000->
   ∃ks' ds' s5',bZ (hName 5) bQ ((List.range' i c).map λ(k:Nat)=>D.int k) [g0,.ow (.dcu ks ds),s2,.fz (.tup (w.map D.int)),.fz (dG g),s5]=.ok (.nx,[g0,.ow (.dcu ks' ds'),s2,.fz (.tup (w.map D.int)),.fz (dG g),s5'])/\ks'.length=ds'.length/\ks'.length<=ks.length+c/\
    (∀j l,i<=j->(jq (qR g))[j]? = some l->cU ks' ds' (kw (w++[(j:Int)]))=some (rD2 (rbg g r l)))/\(∀k',(∀j:Nat,i<=j->k'≠kw (w++[(j:Int)]))->cU ks' ds' k'=cU ks ds k')
 |0,i,ks,ds,s5,hc,hl,hv,hz=>⟨ks,ds,s5,rfl,hl,by omega,λj l h1 h2=>by
   have:=(List.getElem?_eq_some_iff.mp h2).1
   omega,λ_ _=>rfl⟩
 |c+1,i,ks,ds,s5,hc,hl,hv,hz=>by
  have hi:i<(jq (qR g)).length:=by omega
  obtain ⟨l,el⟩:∃l,(jq (qR g))[i]? = some l:=⟨_,List.getElem?_eq_getElem hi⟩;have st:=Hl (g0:=g0) (s2:=s2) (s5:=s5) hv el hg hr hs (by omega) hw;have hv1:cU (nq ks ds (kw (w++[(i:Int)])) (rD2 (rbg g r l))).1 (nq ks ds (kw (w++[(i:Int)])) (rD2 (rbg g r l))).2 (kw w)=some (rD2 r):=by rw [xF hl,if_neg (Ug w i)];exact hv
  obtain ⟨l1,l2⟩:=MN (k:=kw (w++[(i:Int)])) (d:=rD2 (rbg g r l)) hl;obtain ⟨ks',ds',s5',e,a1,a2,a3,a4⟩:=yG (g0:=g0) (s2:=s2) (w:=w) (g:=g) (r:=r) hg hr hs hw c (i+1) _ _ (.fz (.int (i:Int))) (by omega) l1 hv1 (by omega);refine ⟨ks',ds',s5',?_,a1,by omega,λj l' h1 h2=>?_,λk' h=>?_⟩
  ·rw [List.range'_succ,List.map_cons];rw [dZ (m1:=[g0,.ow (.dcu ks ds),s2,.fz (.tup (w.map D.int)),.fz (dG g),.fz (.int (i:Int))]) rfl st];exact e
  ·by_cases q:i=j
   ·subst q;rw [a4 _ λj hj=>P0 (by omega),xF hl,if_pos rfl];rw [el] at h2;cases h2;rfl
   ·exact a3 j l' (by omega) h2
  ·rw [a4 k' λj hj=>h j (by omega),xF hl,if_neg λq=>h i (Nat.le_refl _) q.symm]
mutual
def sdG:Gm->Prop
 | .fin _=>True
 | .deal _ ws=>sdW ws
 | .move s _ ws=>(s=1\/s=2)/\sdW ws
def sdW:Ws->Prop
 | .nil=>True
 | .cons _ g r=>sdG g/\sdW r
end
abbrev hPl:Zh:=iW 2 (bz (hName 3) (bz (hName 4) iY))
theorem Nj (g:Gm):kids g=eN (qR g):=by cases g<;>rfl
theorem rW (hl:ks.length=ds.length)(hv:cU ks ds (kw w)=some (rD2 r))(hg:dH g)(hr:r.1.length<=1000/\r.2.length<=1000)
  (hs:∀s n ws,g=.move s n ws->s=1\/s=2) (hz:ks.length<=100000) (hf:found.length<=100000) (hw:w.length<=1000):
  ∃ks' ds' s5',(hPl (pD (w,g)) [g0,.ow (.dcu ks ds),.ow (.lst found),s3,s4,s5]=some [g0,.ow (.dcu ks ds),.ow (.lst found),.fz (.tup (w.map D.int)),.fz (dG g),s5])/\
   aN [g0,.ow (.dcu ks ds),.ow (.lst found),.fz (.tup (w.map D.int)),.fz (dG g),s5]=.ok (.nx,[g0,.ow (.dcu ks' ds'),.ow (.lst (found++[trD (w,g,r)])),.fz (.tup (w.map D.int)),.fz (dG g),s5'])/\ks'.length=ds'.length/\ks'.length<=ks.length+cR (qR g)/\
    (∀(j:Nat) (l:D),(jq (qR g))[j]? = some l->cU ks' ds' (kw (w++[(j:Int)]))=some (rD2 (rbg g r l)))/\(∀k',(∀j:Nat,k'≠kw (w++[(j:Int)]))->cU ks' ds' k'=cU ks ds k'):=by
 have hb:=qC hg;have hk:=sW hg;have ek:(kids g).length=(jq (qR g)).length:=by rw [Nj,f9,mj]
 obtain ⟨ks',ds',s5',e,a1,a2,a3,a4⟩:=yG (g0:=g0) (s2:=.ow (.lst (found++[trD (w,g,r)]))) (w:=w) (g:=g) (r:=r) hg hr hs hw (kids g).length 0 ks ds s5 (by omega) hl hv (by omega);refine ⟨ks',ds',s5',rfl,?_,a1,by rw [← mj,← ek];exact a2,λj l h=>a3 j l (Nat.zero_le _) h,λk' h=>a4 k' λj _=>h j⟩;have z1:found.length<16777216:=by omega
 have z3:((kids g).length:Int)<4611686018427387904:=by omega
 have kk2:ph (.tup (w.map D.int))=some (kw w):=Gp w;have eL:dM [g0,.ow (.dcu ks ds),.ow (.lst (found++[trD (w,g,r)])),.fz (.tup (w.map D.int)),.fz (dG g),s5]=.ok (.nx,[g0,.ow (.dcu ks' ds'),.ow (.lst (found++[trD (w,g,r)])),.fz (.tup (w.map D.int)),.fz (dG g),s5']):=by
  have e1:(aj (aM ig (aj (fFn dF (aj (aG 4) aB)) aB)) aB) [g0,.ow (.dcu ks ds),.ow (.lst (found++[trD (w,g,r)])),.fz (.tup (w.map D.int)),.fz (dG g),s5]=.ok [.int ((kids g).length:Int)]:=by
   simp [aM,ig,fFn,aj,aB,aG,hb]
  have e2:=VH e1 (by omega) (by omega);unfold dM pI;rw [e2];show bZ (hName 5) bQ ((List.range (kids g).length).map λ(k:Nat)=>D.int k) _=_;rw [List.range_eq_range'];exact e
 simp only [trD] at eL ⊢;simp [aN,aO,jM,aY,aj,aB,aG,aC,aq,yC,dcK,kk2,hv,oV,putL,z1,eL]
theorem wD (ws:Ws):(eN ws).length<=((eN ws).map szG).sum:=by
 induction eN ws with
 |nil=>exact Nat.zero_le _
 |cons g l ih=>have:=rN g;simp;omega
mutual
theorem rJ:∀(w:List Int) (g:Gm),(plG w g).length=szG g
 |w,.fin d=>rfl
 |w,.deal n ws=>by show (plW w 0 ws).length+1=szW ws+1;rw [xr w 0 ws]
 |w,.move s n ws=>by show (plW w 0 ws).length+1=szW ws+1;rw [xr w 0 ws]
theorem xr:∀(w:List Int) (i:Nat) (ws:Ws),(plW w i ws).length=szW ws
 |w,i,.nil=>rfl
 |w,i,.cons l g r=>by show (plG (w++[(i:Int)]) g++plW w (i+1) r).length=szG g+szW r;rw [List.length_append,rJ _ g,xr w (i+1) r]
end
mutual
theorem Ke (g0:Sl):∀(g:Gm) (w:List Int) (r:Rc) (ks:List (List Kt)) (ds found:List D) (s3 s4 s5:Sl) (rest:List D),ks.length=ds.length->cU ks ds (kw w)=some (rD2 r)->dH g->sdG g->r.1.length+dp g<=1000->r.2.length+dp g<=1000->w.length+dp g<=1000->
  ks.length+szG g<=100001->found.length+szG g<=100000->
  ∃ks' ds' s3' s4' s5',bZ hPl aN ((plG w g).map pD++rest) [g0,.ow (.dcu ks ds),.ow (.lst found),s3,s4,s5]=bZ hPl aN rest [g0,.ow (.dcu ks' ds'),.ow (.lst (found++(prG w r g).map trD)),s3',s4',s5']/\ks'.length=ds'.length/\ks'.length+1<=ks.length+szG g/\
   (∀k',(∀u:List Int,u≠[]->k'≠kw (w++u))->cU ks' ds' k'=cU ks ds k')
 | .fin d,w,r,ks,ds,found,s3,s4,s5,rest,hl,hv,hg,hs,r1,r2,hw,hz,hf=>by
  have hsz:szG (.fin d)=1:=rfl;obtain ⟨ks',ds',s5',e1,e2,a1,a2,a3,a4⟩:=rW (g0:=g0) (s3:=s3) (s4:=s4) (s5:=s5) (found:=found) (g:=.fin d) hl hv hg ⟨by omega,by omega⟩ (λ_ _ _ z=>by cases z) (by omega) (by omega) (by omega);refine ⟨ks',ds',.fz (.tup (w.map D.int)),.fz (dG (.fin d)),s5',?_,a1,by simpa [qR,cR,szG] using a2,λk' h=>a4 k' λj=>h [(j:Int)] (by simp)⟩;show bZ hPl aN (pD (w,.fin d)::rest) _=_;rw [dZ e1 e2];rfl
 | .deal n ws,w,r,ks,ds,found,s3,s4,s5,rest,hl,hv,hg,hs,r1,r2,hw,hz,hf=>by
  have hsz:szG (.deal n ws)=szW ws+1:=rfl;have hdp:dp (.deal n ws)=dpW ws+1:=rfl;have hlw:cR ws<=szW ws:=by rw [← f9,p6];exact wD ws
  obtain ⟨ks',ds',s5',e1,e2,a1,a2,a3,a4⟩:=rW (g0:=g0) (s3:=s3) (s4:=s4) (s5:=s5) (found:=found) (g:=.deal n ws) hl hv hg ⟨by omega,by omega⟩ (λ_ _ _ z=>by cases z) (by omega) (by omega) (by omega);have a2:ks'.length<=ks.length+cR ws:=a2;obtain ⟨kt,dt,t3,t4,t5,e,b1,b2,b3⟩:=mV g0 ws w (λ_=>r) 0 ks' ds' (found++[trD (w,.deal n ws,r)]) (.fz (.tup (w.map D.int))) (.fz (dG (.deal n ws))) s5' rest a1 (λj l h=>by rw [Nat.zero_add];exact a3 j l h) hg.2 hs (λl=>by omega) (λl=>by omega) (by omega) (by omega) (by rw [List.length_append,List.length_singleton];omega);refine ⟨kt,dt,t3,t4,t5,?_,b1,by omega,λk' h=>?_⟩
  ·show bZ hPl aN (pD (w,.deal n ws)::((plW w 0 ws).map pD++rest)) _=_;rw [dZ e1 e2,e];show bZ _ _ _ [_,_,.ow (.lst (found++[trD (w,.deal n ws,r)]++(prW w (λ_=>r) 0 ws).map trD)),_,_,_]=bZ _ _ _ [_,_,.ow (.lst (found++(trD (w,.deal n ws,r)::(prW w (λ_=>r) 0 ws).map trD))),_,_,_];rw [List.append_assoc];rfl
  ·rw [b3 k' λj u hu=>h _ (by simp),a4 k' λj=>h [(j:Int)] (by simp)]
 | .move s n ws,w,r,ks,ds,found,s3,s4,s5,rest,hl,hv,hg,hs,r1,r2,hw,hz,hf=>by
  have hsz:szG (.move s n ws)=szW ws+1:=rfl;have hdp:dp (.move s n ws)=dpW ws+1:=rfl;have hlw:cR ws<=szW ws:=by rw [← f9,p6];exact wD ws
  obtain ⟨ks',ds',s5',e1,e2,a1,a2,a3,a4⟩:=rW (g0:=g0) (s3:=s3) (s4:=s4) (s5:=s5) (found:=found) (g:=.move s n ws) hl hv hg ⟨by omega,by omega⟩ (λ_ _ _ z=>by cases z;exact hs.1) (by omega) (by omega) (by omega);have a2:ks'.length<=ks.length+cR ws:=a2;have rl:∀l,(rbm s n r l).1.length<=r.1.length+1/\(rbm s n r l).2.length<=r.2.length+1:=λl=>by
   unfold rbm;split<;>simp
  obtain ⟨kt,dt,t3,t4,t5,e,b1,b2,b3⟩:=mV g0 ws w (rbm s n r) 0 ks' ds' (found++[trD (w,.move s n ws,r)]) (.fz (.tup (w.map D.int))) (.fz (dG (.move s n ws))) s5' rest a1 (λj l h=>by rw [Nat.zero_add];exact a3 j l h) hg.2 hs.2 (λl=>by have:=(rl l).1;omega) (λl=>by have:=(rl l).2;omega) (by omega) (by omega) (by rw [List.length_append,List.length_singleton];omega);refine ⟨kt,dt,t3,t4,t5,?_,b1,by omega,λk' h=>?_⟩
  ·show bZ hPl aN (pD (w,.move s n ws)::((plW w 0 ws).map pD++rest)) _=_;rw [dZ e1 e2,e];show bZ _ _ _ [_,_,.ow (.lst (found++[trD (w,.move s n ws,r)]++(prW w (rbm s n r) 0 ws).map trD)),_,_,_]=bZ _ _ _ [_,_,.ow (.lst (found++(trD (w,.move s n ws,r)::(prW w (rbm s n r) 0 ws).map trD))),_,_,_];rw [List.append_assoc];rfl
  ·rw [b3 k' λj u hu=>h _ (by simp),a4 k' λj=>h [(j:Int)] (by simp)]
theorem mV (g0:Sl):∀(ws:Ws) (w:List Int) (f:D->Rc) (i:Nat) (ks:List (List Kt)) (ds found:List D) (s3 s4 s5:Sl) (rest:List D),ks.length=ds.length->(∀(j:Nat) (l:D),(jq ws)[j]? = some l->cU ks ds (kw (w++[((i+j:Nat):Int)]))=some (rD2 (f l)))->iu ws->sdW ws->
  (∀l,(f l).1.length+dpW ws<=1000)->(∀l,(f l).2.length+dpW ws<=1000)->w.length+1+dpW ws<=1000->ks.length+szW ws<=100000+cR ws->found.length+szW ws<=100000->
  ∃ks' ds' s3' s4' s5',bZ hPl aN ((plW w i ws).map pD++rest) [g0,.ow (.dcu ks ds),.ow (.lst found),s3,s4,s5]=bZ hPl aN rest [g0,.ow (.dcu ks' ds'),.ow (.lst (found++(prW w f i ws).map trD)),s3',s4',s5']/\ks'.length=ds'.length/\ks'.length+cR ws<=ks.length+szW ws/\
   (∀k',(∀(j:Nat) (u:List Int),u≠[]->k'≠kw (w++((i+j:Nat):Int)::u))->cU ks' ds' k'=cU ks ds k')
 | .nil,w,f,i,ks,ds,found,s3,s4,s5,rest,hl,hv,hg,hs,r1,r2,hw,hz,hf=>⟨ks,ds,s3,s4,s5,by simp [plW,prW],hl,by simp [cR,szW],λ_ _=>rfl⟩
 | .cons l g r,w,f,i,ks,ds,found,s3,s4,s5,rest,hl,hv,hg,hs,r1,r2,hw,hz,hf=>by
  have hsz:szW (.cons l g r)=szG g+szW r:=rfl;have hdp:dpW (.cons l g r)=max (dp g) (dpW r):=rfl;have hlw:cR (.cons l g r)=cR r+1:=rfl;have hl2:cR r<=szW r:=by rw [← f9,p6];exact wD r
  have hp:=rN g;have q1:=r1 l;have q2:=r2 l;obtain ⟨ks',ds',t3,t4,t5,e,a1,a2,a3⟩:=Ke g0 g (w++[(i:Int)]) (f l) ks ds found s3 s4 s5 ((plW w (i+1) r).map pD++rest) hl (hv 0 l rfl) hg.1 hs.1 (by omega) (by omega) (by rw [List.length_append,List.length_singleton];omega) (by omega) (by omega);have pl:(prG (w++[(i:Int)]) (f l) g).length=szG g:=by rw [← List.length_map (f:=λp=>(p.1,p.2.1)),Hy];exact rJ _ g
  obtain ⟨kt,dt,u3,u4,u5,e',b1,b2,b3⟩:=mV g0 r w f (i+1) ks' ds' (found++(prG (w++[(i:Int)]) (f l) g).map trD) t3 t4 t5 rest a1 (λj l' h=>by
   rw [a3 _ λu hu z=>?_,← hv (j+1) l' (by simpa [jq] using h),show i+(j+1)=i+1+j by omega]
   have:=wI z
   simp at this;omega) hg.2 hs.2 (λl=>by have:=r1 l;omega) (λl=>by have:=r2 l;omega) (by omega) (by omega) (by rw [List.length_append,List.length_map,pl];omega)
  refine ⟨kt,dt,u3,u4,u5,?_,b1,by omega,λk' h=>?_⟩
  ·show bZ _ _ ((plG (w++[(i:Int)]) g++plW w (i+1) r).map pD++rest) _=_;rw [List.map_append,List.append_assoc,e,e'];show _=bZ _ _ _ [_,_,.ow (.lst (found++(prG (w++[(i:Int)]) (f l) g++prW w f (i+1) r).map trD)),_,_,_];rw [List.map_append,List.append_assoc]
  ·rw [b3 k' λj u hu=>by have:=h (j+1) u hu;rw [show i+(j+1)=i+1+j by omega] at this;exact this];refine a3 k' λu hu=>?_
   have:=h 0 u hu
   simpa using this
end
theorem Mm (e:L [.fz d,.ow (.dcu [[]] [rD2 ([],[])]),.ow (.lst []),.un,.un,.un]=.ok (.nx,[.fz d,a,.ow (.lst ps),s3,s4,s5])):bB 6 1 (cW L) [d]=.ok (true,.lst ps):=by
 have k0:ph (.tup [])=some []:=rfl;simp only [rD2] at e;simp [bB,cW,aO,jt,zK,aY,aB,aj,k0,ou,e,vq]
theorem Q6 (h:dH g)(hs:sdG g)(hd:dp g<=50)(hz:szG g<=10000):cF [dG g]=.ok (true,.lst ((prG [] ([],[]) g).map trD)):=by
 have e:=places_eq h hd (by omega);obtain ⟨ks',ds',s3',s4',s5',e2,_⟩:=Ke (.fz (dG g)) g [] ([],[]) [[]] [rD2 ([],[])] [] .un .un .un [] rfl (by simp [cU,kw]) h hs (by simp;omega) (by simp;omega) (by simp;omega) (by simp;omega) (by simp;omega);refine Mm (a:=.ow (.dcu ks' ds')) (s3:=s3') (s4:=s4') (s5:=s5') ?_;have e1:kW (fFn fO (aj (aG 0) aB)) [.fz (dG g),.ow (.dcu [[]] [rD2 ([],[])]),.ow (.lst []),.un,.un,.un]=.ok ((plG [] g).map pD):=by
  simp [kW,fFn,aj,aB,aG,e]
 unfold gK pI;rw [e1];rw [List.append_nil] at e2;exact e2
def Qm (r:Rc)(s:Int):List D:=if s=1 then r.1 else r.2
def pX (s:Int)(n:Str)(ws:Ws)(r:Rc):D:=.tup [.int s,.str n,.tup (jq ws),.tup (Qm r s)]
theorem vf:∀ws:Ws,dU (iW 2 (bz (hName 0) (bz (hName 1) iY))) iy (aG 0) [.un,.un] (dWs ws)=.ok (jq ws)
 | .nil=>rfl
 | .cons l g r=>by
  have ih:=vf r;have e:aG 0 [.fz l,.fz (dG g)]=.ok l:=rfl;unfold dWs dU;simp [iW,bz,hName,iY,iy,e,ih,jq]
theorem tU (h:cR ws<=100):jF [dG (.move s n ws)]=.ok (false,.tup (jq ws)):=by
 have x4:∀a b c d:D,atI [a,b,c,d] 3=some d:=λ_ _ _ _=>rfl;have hz:(jq ws).length<=16777216:=by rw [mj];omega
 have hz2:(dWs ws).length<=16777216:=by rw [rE];omega
 have e:lL [.fz (dG (.move s n ws))]=.ok (.lst (jq ws)):=by
  simp [lL,dB,yt,aC,aq,fC,gIx,dG,x4,cMe,vf,hz,hz2]
 simp [jF,nR,nW,bB,cD,aM,aj,aB,Me.let,Sl.let,e,gG,hz]
theorem Pz (h:cR ws<=100)(hs:s=1\/s=2):kI [dG (.move s n ws),rD2 r]=.ok (false,pX s n ws r):=by
 have e:=tU (s:=s) (n:=n) h;have x1:∀a b c d:D,atI [a,b,c,d] 1=some b:=λ_ _ _ _=>rfl;have x2:∀a b c d:D,atI [a,b,c,d] 2=some c:=λ_ _ _ _=>rfl;have y0:∀a b:D,atI [a,b] 0=some a:=λ_ _=>rfl;have y1:∀a b:D,atI [a,b] 1=some b:=λ_ _=>rfl;simp only [dG] at e;rcases hs with rfl | rfl
 ·simp [kI,oN,pC,bB,cD,Me.let,Sl.let,aY,aj,aB,aC,aq,fC,gIx,dG,x1,x2,fFn,aG,e,rD2,F.o8,y0,y1,pX,Qm]
 ·simp [kI,oN,pC,bB,cD,Me.let,Sl.let,aY,aj,aB,aC,aq,fC,gIx,dG,x1,x2,fFn,aG,e,rD2,F.o8,y0,y1,pX,Qm]
abbrev Tb:=List (List Kt)×List D
def kn (s:Int)(n:Str):List Kt:=[.k (.inl s),.k (.inr n)]
def tst (T:Tb)(p:List Int×Gm×Rc):Tb:=match p.2.1 with
 | .move s n ws=>if (cU T.1 T.2 (kn s n)).isSome then T else (T.1++[kn s n],T.2++[pX s n ws p.2.2])
 |_=>T
def tbl (l:List (List Int×Gm×Rc)):Tb:=l.foldl tst ([],[])
theorem M3 (T:Tb)(p:List Int×Gm×Rc):(tst T p).1.length<=T.1.length+1:=by grind [tst]
def okP (p:List Int×Gm×Rc):Prop:=match p.2.1 with
 | .move s _ ws=>(s=1\/s=2)/\cR ws<=100
 |_=>True
theorem Gj (hp:okP p)(hz:T.1.length<=100000):∃m1,iW 3 (bz (hName 2) (bz (hName 3) (bz (hName 4) iY))) (trD p) [g0,.ow (.dcu T.1 T.2),s2,s3,s4]=some m1/\
  eF m1=.ok (.nx,[g0,.ow (.dcu (tst T p).1 (tst T p).2),.fz (.tup (p.1.map D.int)),.fz (dG p.2.1),.fz (rD2 p.2.2)]):=by
 refine ⟨[g0,.ow (.dcu T.1 T.2),.fz (.tup (p.1.map D.int)),.fz (dG p.2.1),.fz (rD2 p.2.2)],rfl,?_⟩;obtain ⟨w,g,r⟩:=p;have x20:∀a b:D,atI [a,b] 0=some a:=λ_ _=>rfl;have x30:∀a b c:D,atI [a,b,c] 0=some a:=λ_ _ _=>rfl;have x40:∀a b c d:D,atI [a,b,c,d] 0=some a:=λ_ _ _ _=>rfl;have x41:∀a b c d:D,atI [a,b,c,d] 1=some b:=λ_ _ _ _=>rfl;have x42:∀a b c d:D,atI [a,b,c,d] 2=some c:=λ_ _ _ _=>rfl;cases g with
 |fin d=>simp [eF,gIf,aW,aC,aq,fC,gIx,dG,x20,gNx,tst]
 |deal n ws=>simp [eF,gIf,aW,aC,aq,fC,gIx,dG,x30,gNx,tst]
 |move s n ws=>
  have hp:(s=1\/s=2)/\cR ws<=100:=hp;have e:=Pz (n:=n) (r:=r) hp.2 hp.1;simp only [dG] at e;have kk:ph (.tup [.int s,.str n])=some (kn s n):=rfl;have z1:T.1.length<16777216:=by omega
  by_cases q:(cU T.1 T.2 (kn s n)).isSome=true
  ·simp [eF,gIf,aW,aC,aq,fC,gIx,dG,x40,x41,x42,Nq,vU,aY,aj,aB,fFn,aG,e,kk,z1,tst,q,lU]
  ·simp [eF,gIf,aW,aC,aq,fC,gIx,dG,x40,x41,x42,Nq,vU,aY,aj,aB,fFn,aG,e,kk,z1,tst,q,lU]
theorem ym:∀(l:List (List Int×Gm×Rc)) (T:Tb) (s2 s3 s4:Sl),(∀p∈l,okP p)->T.1.length+l.length<=100000->∃s2' s3' s4',bZ (iW 3 (bz (hName 2) (bz (hName 3) (bz (hName 4) iY)))) eF (l.map trD) [g0,.ow (.dcu T.1 T.2),s2,s3,s4]=.ok (.nx,[g0,.ow (.dcu (l.foldl tst T).1 (l.foldl tst T).2),s2',s3',s4'])
 |[],T,s2,s3,s4,_,_=>⟨s2,s3,s4,rfl⟩
 |p::l,T,s2,s3,s4,hp,hz=>by
  have hz':T.1.length+(l.length+1)<=100000:=hz;obtain ⟨m1,e1,e2⟩:=Gj (g0:=g0) (s2:=s2) (s3:=s3) (s4:=s4) (T:=T) (hp p List.mem_cons_self) (by omega)
  have:=M3 T p
  obtain ⟨a,b,c,e⟩:=ym l (tst T p) (.fz (.tup (p.1.map D.int))) (.fz (dG p.2.1)) (.fz (rD2 p.2.2)) (λq hq=>hp q (List.mem_cons_of_mem _ hq)) (by omega);exact ⟨a,b,c,by rw [List.map_cons,dZ e1 e2,e];rfl⟩
theorem tab_run (e:L [.fz d,.ow (.dcu [] []),.un,.un,.un]=.ok (.nx,[.fz d,.ow (.dcu ks ds),s2,s3,s4])):bB 5 1 (lN L) [d]=.ok (true,.lst ds):=by
 simp [bB,lN,aO,jt,vO,e,nA,Me.let,Sl.let,zq,aq]
mutual
theorem Ox:∀(w:List Int) (r:Rc) (g:Gm),dH g->sdG g->∀p∈prG w r g,okP p
 |w,r,.fin d,_,_,p,hp=>by
  have:p=(w,.fin d,r):=by simpa [prG] using hp
  rw [this];exact True.intro
 |w,r,.deal n ws,h,hs,p,hp=>by
  rcases List.mem_cons.mp (show p∈(w,Gm.deal n ws,r)::prW w (λ_=>r) 0 ws from hp) with e | e
  ·rw [e];exact True.intro
  ·exact zM w _ 0 ws h.2 hs p e
 |w,r,.move s n ws,h,hs,p,hp=>by
  rcases List.mem_cons.mp (show p∈(w,Gm.move s n ws,r)::prW w (rbm s n r) 0 ws from hp) with e | e
  ·rw [e];exact ⟨hs.1,h.1⟩
  ·exact zM w _ 0 ws h.2 hs.2 p e
theorem zM:∀(w:List Int) (f:D->Rc) (i:Nat) (ws:Ws),iu ws->sdW ws->∀p∈prW w f i ws,okP p
 |w,f,i,.nil,_,_,p,hp=>by cases hp
 |w,f,i,.cons l g r,h,hs,p,hp=>by
  rcases List.mem_append.mp (show p∈prG (w++[(i:Int)]) (f l) g++prW w f (i+1) r from hp) with e | e
  ·exact Ox _ _ g h.1 hs.1 p e
  ·exact zM w f (i+1) r h.2 hs.2 p e
end
theorem Gi (w:List Int)(r:Rc)(g:Gm):(prG w r g).length=szG g:=by rw [← List.length_map (f:=λp=>(p.1,p.2.1)),Hy];exact rJ _ g
theorem table_eq (h:dH g)(hs:sdG g)(hd:dp g<=50)(hz:szG g<=10000):lG [dG g]=.ok (true,.lst (tbl (prG [] ([],[]) g)).2):=by
 have e:=Q6 h hs hd hz;obtain ⟨a,b,c,e2⟩:=ym (g0:=.fz (dG g)) (prG [] ([],[]) g) ([],[]) .un .un .un (Ox _ _ g h hs) (by rw [Gi];simp;omega);refine tab_run (ks:=(tbl (prG [] ([],[]) g)).1) (s2:=a) (s3:=b) (s4:=c) ?_;have e1:kW (fFn cF (aj (aG 0) aB)) [.fz (dG g),.ow (.dcu [] []),.un,.un,.un]=.ok ((prG [] ([],[]) g).map trD):=by
  simp [kW,fFn,aj,aB,aG,e]
 unfold pB pI;rw [e1];exact e2
end Pk
namespace F
open PySem L2 Hd
end F
namespace Pk
open PySem L2 Hd F
theorem T8 (h:i.natAbs<2 ^ k)(hk:k<=4000:=by decide):Bq i:=Td (Nk h (by omega))
theorem ix0:atI [a,b] 0=some a:=rfl
theorem ix1:atI [a,b] 1=some b:=rfl
mutual
theorem JD:∀(w:List Int) (g:Gm),∀p∈plG w g,p.1.length<=w.length+dp g
 |w,.fin d,p,hp=>by
  have:p=(w,.fin d):=by simpa [plG] using hp
  rw [this];simp
 |w,.deal n ws,p,hp=>by
  rcases List.mem_cons.mp (show p∈(w,Gm.deal n ws)::plW w 0 ws from hp) with e | e
  ·rw [e];simp
  ·have:=v8 w 0 ws p e
   show p.1.length<=w.length+(dpW ws+1);omega
 |w,.move s n ws,p,hp=>by
  rcases List.mem_cons.mp (show p∈(w,Gm.move s n ws)::plW w 0 ws from hp) with e | e
  ·rw [e];simp
  ·have:=v8 w 0 ws p e
   show p.1.length<=w.length+(dpW ws+1);omega
theorem v8:∀(w:List Int) (i:Nat) (ws:Ws),∀p∈plW w i ws,p.1.length<=w.length+1+dpW ws
 |w,i,.nil,p,hp=>by cases hp
 |w,i,.cons l g r,p,hp=>by
  have hd:dpW (.cons l g r)=max (dp g) (dpW r):=rfl;rcases List.mem_append.mp (show p∈plG (w++[(i:Int)]) g++plW w (i+1) r from hp) with e | e
  ·have:=JD _ g p e
   rw [List.length_append,List.length_singleton] at this;omega
  ·have:=v8 w (i+1) r p e
   omega
end
theorem vP {α:Type}{f:α->D}{b:α->Bool}:∀l:List α,(∀x∈l,f x=.bl (b x))->qz (l.map f)=some (l.map b)
 |[],_=>rfl
 |x::l,h=>by
  have ih:=vP l λy hy=>h y (List.mem_cons_of_mem _ hy);simp [qz,h x List.mem_cons_self,ih]
theorem QM {α:Type}{f:α->D}{l:List α}(h:∀x∈l,f x=.bl false):RT [.lst (l.map f)]=some (.bl false):=by
 have:=vP (b:=λ_=>false) l h
 show (qz (l.map f)).map (λbs=>D.bl (bs.any id))=_;rw [this]
 simp
def sdD:D->Int
 | .tup [.int s,_,_,_]=>s
 |_=>0
def wdD:D->Nat
 | .tup [_,_,.tup ws,_]=>ws.length
 |_=>0
def GR (d:D):Prop:=∃s n ws r,d=pX s n ws r
theorem qH {h:Zh}{ft:Zb}{fe:Zl}{m0:Me}(P:D->Bool):∀ds:List D,(∀d∈ds,∃m1,h d m0=some m1/\ft m1=.ok (P d)/\fe m1=.ok d)->dU h ft fe m0 ds=.ok (ds.filter P)
 |[],_=>rfl
 |d::ds,H=>by
  obtain ⟨m1,e1,e2,e3⟩:=H d List.mem_cons_self;have ih:=qH P ds λd hd=>H d (List.mem_cons_of_mem _ hd);unfold dU;rw [List.filter_cons];by_cases q:P d=true
  ·simp only [e1,e2,q,e3,ih,if_pos]
  ·have q':P d=false:=by simpa using q
   simp only [e1,e2,q',ih]
   simp
theorem Al:∀(l:List (List Int×Gm×Rc)) (T:Tb) (d:D),d∈(l.foldl tst T).2->d∈T.2\/∃p∈l,∃s n ws,p.2.1=.move s n ws/\d=pX s n ws p.2.2
 |[],T,d,h=>.inl h
 |p::l,T,d,h=>by
  rcases Al l (tst T p) d h with e | ⟨q,hq,e⟩
  ·unfold tst at e;split at e
   ·rename_i s n ws ep;split at e
    ·exact .inl e
    ·rcases List.mem_append.mp e with e | e
     ·exact .inl e
     ·exact .inr ⟨p,List.mem_cons_self,s,n,ws,ep,by simpa using e⟩
   ·exact .inl e
  ·exact .inr ⟨q,List.mem_cons_of_mem _ hq,e⟩
theorem BW {l:List (List Int×Gm×Rc)}{d:D}(h:d∈(tbl l).2):GR d:=by
 rcases Al l ([],[]) d h with e | ⟨p,_,s,n,ws,_,e⟩
 ·cases e
 ·exact ⟨s,n,ws,p.2.2,e⟩
theorem Mx {g:Gm}{s:Int}(h:dH g)(hs:sdG g)(hd:dp g<=50)(hz:szG g<=10000):lu [dG g,.int s]=.ok (true,.lst ((tbl (prG [] ([],[]) g)).2.filter λd=>decide (sdD d=s))):=by
 have e:=table_eq h hs hd hz;have ec:dU (hName 0) (aW gEq (aC gIx (aq 0) (fC (.int 0))) (aq 1)) (aG 0) [.un,.fz (.int s)] (tbl (prG [] ([],[]) g)).2=.ok ((tbl (prG [] ([],[]) g)).2.filter λd=>decide (sdD d=s)):=qH _ _ λd hd=>by
  obtain ⟨a,n,ws,r,rfl⟩:=BW hd;refine ⟨[.fz (pX a n ws r),.fz (.int s)],rfl,?_,rfl⟩;have x0:∀a b c d:D,atI [a,b,c,d] 0=some a:=λ_ _ _ _=>rfl;simp [aW,aC,aq,fC,gIx,pX,x0,sdD];exact decide_eq_decide.mpr Iff.rfl
 have z1:(tbl (prG [] ([],[]) g)).2.length<=16777216:=by
  have:∀(l:List (List Int×Gm×Rc)) (T:Tb),(l.foldl tst T).2.length<=T.2.length+l.length:=by
   intro l;induction l with
   |nil=>intro T;simp
   |cons p l ih=>
    intro T
    have:=ih (tst T p)
    have q:(tst T p).2.length<=T.2.length+1:=by
     unfold tst;split
     ·split<;>simp
     ·omega
    simp only [List.foldl_cons,List.length_cons];omega
  have:=this (prG [] ([],[]) g) ([],[])
  rw [Gi] at this;simp at this;have e:tbl (prG [] ([],[]) g)=(prG [] ([],[]) g).foldl tst ([],[]):=rfl;rw [e];omega
 have eq:mU [.fz (dG g),.fz (.int s)]=.ok (.lst ((tbl (prG [] ([],[]) g)).2.filter λd=>decide (sdD d=s))):=by
  simp [mU,dB,kW,fFn,aj,aB,aG,e,cMe,Sl.bor,ec,z1]
 simp [lu,pU,ql,bB,nA,Me.let,Sl.let,eq]
theorem yf:∀l:List D,uD (l.map λd=>D.int (wdD d:Int))=some (l.map λd=>(wdD d:Int))
 |[]=>rfl
 |d::l=>by simp [uD,yf l]
theorem count_eq {l:List D}(h:∀d∈l,GR d)(hz:l.length<=10000):gw [.lst l]=.ok (false,.int (l.map λd=>(wdD d:Int)).sum):=by
 have ec:dU (hName 0) iy jf [.un] (l.map id)=.ok (l.map λd=>D.int (wdD d:Int)):=gk l λd hd=>by
  obtain ⟨a,n,ws,r,rfl⟩:=h d hd;refine ⟨[.fz (pX a n ws r)],rfl,rfl,?_⟩;have x2:∀a b c d:D,atI [a,b,c,d] 2=some c:=λ_ _ _ _=>rfl;simp [jf,aM,ig,aj,aB,aC,aq,fC,gIx,pX,x2,wdD]
 rw [List.map_id] at ec;have z1:l.length<=16777216:=by omega
 have eq:je [.fz (.lst l)]=.ok (.lst (l.map λd=>D.int (wdD d:Int))):=by
  simp [je,dB,kW,aq,cMe,ec,z1]
 have es:Qx [.lst (l.map λd=>D.int (wdD d:Int))]=some (.int (l.map λd=>(wdD d:Int)).sum):=by
  show (uD _).map _=_;rw [yf];rfl
 simp [gw,j6,jW,bB,cD,Me.let,Sl.let,aM,aj,aB,eq,es]
def okT (l:List D)(s:Int):Prop:=(l.filter λd=>decide (sdD d=s)).length<=8/\((l.filter λd=>decide (sdD d=s)).map λd=>(wdD d:Int)).sum<=24
end Pk
namespace K56
open PySem L2 Hd F Pk
open L2 (atI ixN Key)
inductive Kn where
 |num (i:Nat) | pr (n w:Str)
deriving DecidableEq
def kD:Kn->D
 | .num i=>.int i
 | .pr n w=>.tup [.str n,.str w]
def kK:Kn->Kt
 | .num i=>.k (.inl i)
 | .pr n w=>.t [.k (.inr n),.k (.inr w)]
theorem Ru {a b:Kn}(h:kK a=kK b):a=b:=by
 cases a<;>cases b<;>simp_all [kK];omega
theorem Bp:∀{a b:List Kn},a.map kK=b.map kK->a=b
 |[],[],_=>rfl
 |[],_::_,h=>by simp at h
 |_::_,[],h=>by simp at h
 |x::a,y::b,h=>by
  simp only [List.map_cons,List.cons.injEq] at h;rw [Ru h.1,Bp h.2]
theorem O3 (n:Nat)(x:Kn):ktD (n+1) (kD x)=some (kK x):=by
 cases x with
 |num i=>rfl
 |pr a b=>cases n<;>rfl
theorem Gn (n:Nat):∀l:List Kn,gj (ktD (n+1)) (l.map kD)=some (l.map kK)
 |[]=>rfl
 |x::l=>by
  show (ktD (n+1) (kD x)).bind (λk=>(gj (ktD (n+1)) (l.map kD)).map λks=>k::ks)=_;rw [O3,Gn n l];rfl
abbrev Ky:=Str×List Kn
def kyD (k:Ky):D:=.tup [.str k.1,.tup (k.2.map kD)]
def kyK (k:Ky):List Kt:=[.k (.inr k.1),.t (k.2.map kK)]
theorem Px (k:Ky):ph (kyD k)=some (kyK k):=by
 show gj (ktD 7) [.str k.1,.tup (k.2.map kD)]=_;have e:ktD 7 (.tup (k.2.map kD))=some (.t (k.2.map kK)):=by
  show (gj (ktD 6) (k.2.map kD)).map Kt.t=_;rw [Gn 5];rfl
 show (ktD 7 (.str k.1)).bind (λa=>(gj (ktD 7) [.tup (k.2.map kD)]).map λr=>a::r)=_;show (some (Kt.k (.inr k.1))).bind (λa=>((ktD 7 (.tup (k.2.map kD))).bind λb=>(gj (ktD 7) []).map λr=>b::r).map λr=>a::r)=_;rw [e];rfl
theorem Lr {a b:Ky}(h:kyK a=kyK b):a=b:=by
 simp only [kyK,List.cons.injEq,Kt.k.injEq,Sum.inr.injEq,Kt.t.injEq] at h;exact Prod.ext h.1 (Bp h.2.1)
abbrev Fr:=List Ky
def sN (j:Nat):Str:=("s" : Str)++((toString ((j:Int)+1):String):Str)
def nmL:Nat->Fr->List D
 |_,[]=>[]
 |i,_::r=>.str (sN i)::nmL (i+1) r
def frD (fr:Fr):D:=.dcu (fr.map kyK) (nmL 0 fr)
theorem JT:∀(i:Nat) (fr:Fr),(nmL i fr).length=fr.length
 |_,[]=>rfl
 |i,_::r=>congrArg (· + 1) (JT (i+1) r)
theorem Jm (k:Ky):∀(i:Nat) (fr:Fr),nmL i (fr++[k])=nmL i fr++[.str (sN (i+fr.length))]
 |_,[]=>rfl
 |i,x::r=>by
  show D.str (sN i)::nmL (i+1) (r++[k])=D.str (sN i)::nmL (i+1) r++_;rw [Jm k (i+1) r,List.length_cons,show i+1+r.length=i+(r.length+1) by omega];rfl
theorem JZ (k:Ky):∀(i:Nat) (fr:Fr),cU (fr.map kyK) (nmL i fr) (kyK k)=if k∈fr then some (.str (sN (i+fr.idxOf k))) else none
 |_,[]=>rfl
 |i,x::r=>by
  show (if kyK x=kyK k then some (D.str (sN i)) else cU (r.map kyK) (nmL (i+1) r) (kyK k))=_;by_cases h:x=k
  ·subst h;simp [List.idxOf_cons]
  ·have h':¬kyK x=kyK k:=λz=>h (Lr z);rw [if_neg h',JZ k (i+1) r,List.idxOf_cons];have h2:¬k=x:=λz=>h z.symm;simp only [List.mem_cons,h2,false_or];rw [show (x == k)=false by simpa using h];simp only [cond_false];rw [show i+1+r.idxOf k=i+(r.idxOf k+1) by omega]
def ins (fr:Fr)(k:Ky):Fr:=if k∈fr then fr else fr++[k]
theorem Ds (fr:Fr)(k:Ky):(ins fr k).length<=fr.length+1:=by unfold ins;split<;>simp
def wordOf:D->Str
 | .str w=>w
 |_=>""
section
variable (side:Int)(name:Str)
mutual
def shG:Gm->List Kn->Fr->Gm×Fr
 | .fin d,_,fr=>(.fin d,fr)
 | .deal n ws,kn,fr=>(.deal n (shW (λi _=>if n=name then kn++[.num i] else kn) 0 ws fr).1,(shW (λi _=>if n=name then kn++[.num i] else kn) 0 ws fr).2)
 | .move s n ws,kn,fr=>if s=side then (.move s (sN ((ins fr (n,kn)).idxOf (n,kn))) (shW (λ_ l=>kn++[.pr n (wordOf l)]) 0 ws (ins fr (n,kn))).1,(shW (λ_ l=>kn++[.pr n (wordOf l)]) 0 ws (ins fr (n,kn))).2)
  else (.move s n (shW (λ_ _=>kn) 0 ws fr).1,(shW (λ_ _=>kn) 0 ws fr).2)
def shW:(Nat->D->List Kn)->Nat->Ws->Fr->Ws×Fr
 |_,_,.nil,fr=>(.nil,fr)
 |f,i,.cons l g r,fr=>(.cons l (shG g (f i l) fr).1 (shW f (i+1) r (shG g (f i l) fr).2).1,(shW f (i+1) r (shG g (f i l) fr).2).2)
end
end
def lbs:Ws->Prop
 | .nil=>True
 | .cons l _ r=>(∃w,l=.str w)/\lbs r
mutual
def lbG:Gm->Prop
 | .fin _=>True
 | .deal _ ws=>lbW ws
 | .move _ _ ws=>lbs ws/\lbW ws
def lbW:Ws->Prop
 | .nil=>True
 | .cons _ g r=>lbG g/\lbW r
end
open L2 (atI ixN Key)
theorem eqS (a b:Str):gEq (.str a) (.str b)=some (decide (a=b)):=rfl
theorem eqI (a b:Int):gEq (.int a) (.int b)=some (decide (a=b)):=rfl
theorem yW {l:List D}{i:Nat}{d:D}(h:l[i]? = some d):atI l (i:Int)=some d:=by
 obtain ⟨lt,e⟩:=List.getElem?_eq_some_iff.mp h
 have:ixN l.length (i:Int)=some i:=by unfold ixN;grind
 unfold atI;rw [this];exact h
theorem xf {side:Int}{name n:Str}{ws:Ws}{i:Nat}:dJ [dG (.deal n ws),.int side,.str name,.int i]=.ok (false,.tup (if n=name then [.int i] else [])):=by
 by_cases h:n=name
 ·simp [dJ,jx,jy,bB,aO,gIf,aW,aC,aq,fC,dG,gIx,atI,ixN,gEq,cD,Me.let,Sl.let,fIf,aY,aj,aB,aG,h]
 ·simp [dJ,jx,jy,bB,aO,gIf,aW,aC,aq,fC,dG,gIx,atI,ixN,gEq,cD,Me.let,Sl.let,fIf,aY,aj,aB,aG,h]
theorem oO {side s:Int}{name n:Str}{ws:Ws}{i:Nat}{l c:D}(hl:(dWs ws)[i]? = some (.tup [l,c])):dJ [dG (.move s n ws),.int side,.str name,.int i]=.ok (false,.tup (if s=side then [.tup [.str n,l]] else [])):=by
 have e:=yW hl;have q:¬(("move" : Str) = "deal"):=by decide +kernel
 generalize hz:dWs ws=ds at e;by_cases h:s=side
 ·simp [dJ,jx,jy,bB,aO,gIf,aW,aC,aq,fC,dG,gIx,show ∀a b c d:D,atI [a,b,c,d] 0=some a from λ_ _ _ _=>rfl,show ∀a b c d:D,atI [a,b,c,d] 1=some b from λ_ _ _ _=>rfl,show ∀a b c d:D,atI [a,b,c,d] 2=some c from λ_ _ _ _=>rfl,show ∀a b c d:D,atI [a,b,c,d] 3=some d from λ_ _ _ _=>rfl,show ∀a b:D,atI [a,b] 0=some a from λ_ _=>rfl,eqS,eqI,q,cD,Me.let,Sl.let,gNx,fIf,aY,aj,aB,aG,h,e,hz]
 ·simp [dJ,jx,jy,bB,aO,gIf,aW,aC,aq,fC,dG,gIx,show ∀a b c d:D,atI [a,b,c,d] 0=some a from λ_ _ _ _=>rfl,show ∀a b c d:D,atI [a,b,c,d] 1=some b from λ_ _ _ _=>rfl,eqS,eqI,q,cD,Me.let,Sl.let,gNx,fIf,aY,aj,aB,aG,h]
theorem Fv {n:Str}{ws:Ws}{ds:List D}:cz [dG (.deal n ws),.lst ds]=.ok (false,.tup [.str "deal",.str n,.tup ds]):=by
 have c1:gSl (.tup [.str "deal",.str n,.tup (dWs ws)]) none (some (-1))=some (.tup [.str "deal",.str n]):=rfl;have z:(2:Nat)+1<=sizeLine:=by decide
 simp [cz,jK,jJ,bB,cD,Me.let,Sl.let,aC,fSl,aq,dG,fO0,fO1,fUn,uQ,fC,c1,aY,aj,aB,aM,gG,bM,z]
theorem vI {s:Int}{n:Str}{ws:Ws}{ds:List D}:cz [dG (.move s n ws),.lst ds]=.ok (false,.tup [.str "move",.int s,.str n,.tup ds]):=by
 have c1:gSl (.tup [.str "move",.int s,.str n,.tup (dWs ws)]) none (some (-1))=some (.tup [.str "move",.int s,.str n]):=rfl;have z:(3:Nat)+1<=sizeLine:=by decide
 simp [cz,jK,jJ,bB,cD,Me.let,Sl.let,aC,fSl,aq,dG,fO0,fO1,fUn,uQ,fC,c1,aY,aj,aB,aM,gG,bM,z]
abbrev sS (g:D)(s:Int)(n:Str)(kn:List D)(fr res:D)(new:Sl)(ws:List D)(x y z:Sl):Me:=[.fz g,.fz (.int s),.fz (.str n),.fz (.tup kn),.io fr,.fz res,new,.ow (.lst ws),x,y,z]
abbrev hE:Zh:=iW 2 (bz (hName 8) (bz (hName 9) iY))
theorem QT {Φ:List D->D->Res (D×D)}{g:D}{s:Int}{n:Str}{kn lr:List D}{fr fr' res r l c:D}{new z:Sl}{ws:List D}{i:Nat}{b:Bool}(hL:dJ [g,.int s,.str n,.int i]=.ok (b,.tup lr))
  (hΦ:Φ [c,.int s,.str n,.tup (kn++lr)] fr=.ok (r,fr')) (h1:kn.length+lr.length<=16777216) (h2:ws.length<16777216):
  eX Φ (sS g s n kn fr res new ws (.fz (.int i)) (.fz (.tup [l,c])) z)=.ok (.nx,sS g s n kn fr' res new (ws++[.tup [l,r]]) (.fz (.int i)) (.fz (.tup [l,c])) (.fz (.tup (kn++lr)))):=by
 have z2:(2:Nat)<=16777216:=by decide
 simp [eX,aO,bL,aC,aq,fFn,aj,aB,aG,hL,bM,h1,uA,oV,Kf,v5,IV,fX,gIx,show ∀a b:D,atI [a,b] 0=some a from λ_ _=>rfl,show ∀a b:D,atI [a,b] 1=some b from λ_ _=>rfl,fC,uX,Ey,hΦ,Js,z2,h2,putL]
open L2 (atI ixN Key)
def en:Nat->List D->List D
 |_,[]=>[]
 |i,d::r=>.tup [.int i,d]::en (i+1) r
theorem HN:∀(ds:List D) (i j:Nat),(en i ds)[j]? = ds[j]?.map λd=>.tup [.int ((i+j:Nat):Int),d]
 |[],_,_=>by simp [en]
 |d::r,i,0=>by simp [en]
 |d::r,i,j+1=>by
  simp only [en,List.getElem?_cons_succ];rw [HN r (i+1) j,show i+1+j=i+(j+1) by omega]
theorem Hs (ds:List D):lV ds=en 0 ds:=by
 apply List.ext_getElem?;intro j;rw [HN,lV,List.getElem?_mapIdx]
 simp
mutual
theorem vX (side:Int)(name:Str):∀(g:Gm) (kn:List Kn) (fr:Fr),(shG side name g kn fr).2.length<=fr.length+szG g
 | .fin d,kn,fr=>by simp [shG]
 | .deal n ws,kn,fr=>by
  have:=rM side name ws (λi _=>if n=name then kn++[.num i] else kn) 0 fr
  simp only [shG,szG];omega
 | .move s n ws,kn,fr=>by
  simp only [shG,szG];split
  ·have:=rM side name ws (λ_ l=>kn++[.pr n (wordOf l)]) 0 (ins fr (n,kn))
   have:=Ds fr (n,kn)
   simp only;omega
  ·have:=rM side name ws (λ_ _=>kn) 0 fr
   simp only;omega
theorem rM (side:Int)(name:Str):∀(ws:Ws) (f:Nat->D->List Kn) (i:Nat) (fr:Fr),(shW side name f i ws fr).2.length<=fr.length+szW ws
 | .nil,f,i,fr=>by simp [shW,szW]
 | .cons l g r,f,i,fr=>by
  have a:=vX side name g (f i l) fr;have b:=rM side name r f (i+1) (shG side name g (f i l) fr).2;simp only [shW,szW];omega
end
theorem lq (side:Int)(name:Str):∀(ws:Ws) (f:Nat->D->List Kn) (i:Nat) (fr:Fr),cR (shW side name f i ws fr).1=cR ws
 | .nil,f,i,fr=>by simp [shW,cR]
 | .cons l g r,f,i,fr=>by simp [shW,cR,lq side name r]
def Cl (side:Int)(name:Str)(Φ:List D->D->Res (D×D))(g:Gm):Prop:=∀(kn:List Kn) (fr:Fr),kn.length+dp g<=400->fr.length+szG g<=100->Φ [dG g,.int side,.str name,.tup (kn.map kD)] (frD fr)=.ok (dG (shG side name g kn fr).1,frD (shG side name g kn fr).2)
theorem mV {side:Int}{name:Str}{Φ:List D->D->Res (D×D)}{g0 res:D}{kn:List D}{f:Nat->D->List Kn}{new:Sl}:∀(ws:Ws) (i:Nat) (fr:Fr) (acc:List D) (x y z:Sl),
  (∀c∈eN ws,Cl side name Φ c)->(∀c∈eN ws,∀j l,(f j l).length+dp c<=400)->kn.length<=400->acc.length+cR ws<=1000->fr.length+szW ws<=100->
  (∀j l c,(dWs ws)[j]? = some (.tup [l,c])->∃b lr,lr.length<=1/\dJ [g0,.int side,.str name,.int ((i+j:Nat):Int)]=.ok (b,.tup lr)/\kn++lr=(f (i+j) l).map kD)->
  ∃x' y' z',bZ hE (eX Φ) (en i (dWs ws)) (sS g0 side name kn (frD fr) res new acc x y z)=.ok (.nx,sS g0 side name kn (frD (shW side name f i ws fr).2) res new (acc++dWs (shW side name f i ws fr).1) x' y' z')
 | .nil,i,fr,acc,x,y,z,_,_,_,_,_,_=>⟨x,y,z,by simp [dWs,en,bZ,shW]⟩
 | .cons l g r,i,fr,acc,x,y,z,hC,hd,hk,ha,hz,hl=>by
  have hz':fr.length+(szG g+szW r)<=100:=hz;have ha':acc.length+(cR r+1)<=1000:=ha;obtain ⟨b,lr,l1,l2,l3⟩:=hl 0 l (dG g) rfl;have c1:=hC g List.mem_cons_self (f i l) fr (hd g List.mem_cons_self i l) (by omega);rw [Nat.add_zero] at l2 l3;rw [← l3] at c1;have st:=QT (Φ:=Φ) (g:=g0) (res:=res) (l:=l) (new:=new) (z:=z) (ws:=acc) l2 c1 (by omega) (by omega);have sl:=vX side name g (f i l) fr;obtain ⟨x',y',z',ih⟩:=mV (kn:=kn) (g0:=g0) (res:=res) (f:=f) (new:=new) r (i+1) (shG side name g (f i l) fr).2 (acc++[.tup [l,dG (shG side name g (f i l) fr).1]]) (.fz (.int i)) (.fz (.tup [l,dG g])) (.fz (.tup (kn++lr)))
   (λc hc=>hC c (List.mem_cons_of_mem _ hc)) (λc hc=>hd c (List.mem_cons_of_mem _ hc)) hk (by simp;omega) (by omega) (λj l' c hj=>by
    obtain ⟨b',lr',a1,a2,a3⟩:=hl (j+1) l' c hj;exact ⟨b',lr',a1,by rw [show i+1+j=i+(j+1) by omega];exact a2,by rw [show i+1+j=i+(j+1) by omega];exact a3⟩)
  refine ⟨x',y',z',?_⟩;show bZ hE (eX Φ) (.tup [.int i,.tup [l,dG g]]::en (i+1) (dWs r)) _=_;rw [dZ (m1:=sS g0 side name kn (frD fr) res new acc (.fz (.int i)) (.fz (.tup [l,dG g])) z) rfl st,ih];simp [shW,dWs,List.append_assoc]
open L2 (atI ixN Key)
theorem x2 (a b:D):atI [a,b] 0=some a:=rfl
theorem x30 (a b c:D):atI [a,b,c] 0=some a:=rfl
theorem x40 (a b c d:D):atI [a,b,c,d] 0=some a:=rfl
theorem x41 (a b c d:D):atI [a,b,c,d] 1=some b:=rfl
theorem x42 (a b c d:D):atI [a,b,c,d] 2=some c:=rfl
theorem x43 (a b c d:D):atI [a,b,c,d] 3=some d:=rfl
theorem Vr:¬(("deal" : Str) = "end"):=by decide +kernel
theorem Vb:¬(("deal" : Str) = "move"):=by decide +kernel
theorem Su:¬(("move" : Str) = "end"):=by decide +kernel
theorem Mj {W:Zf}{L:Zg}{d:Q2}{s:Int}{n:Str}{kn fr:D}:gm 4 11 5 (bT W L) [dG (.fin d),.int s,.str n,kn] fr=.ok (dG (.fin d),fr):=by
 simp [gm,jd,bT,aO,gIf,aW,aC,aq,fC,dG,gIx,x2,eqS,cD,Me.let,Sl.let,aG,nJ]
theorem HR {W:Zf}{L:Zg}{nn:Str}{ws:Ws}{s:Int}{n:Str}{kn:List D}{fr fr' r:D}{ds:List D}{b:Bool}{x y z:Sl}
  (hL:L (sS (dG (.deal nn ws)) s n kn fr (dG (.deal nn ws)) .un [] .un .un .un)=.ok (.nx,sS (dG (.deal nn ws)) s n kn fr' (dG (.deal nn ws)) .un ds x y z)) (hW:W [dG (.deal nn ws),.lst ds]=.ok (b,r)):
  gm 4 11 5 (bT W L) [dG (.deal nn ws),.int s,.str n,.tup kn] fr=.ok (r,fr'):=by
 generalize hg:dG (.deal nn ws)=g at hL hW;have g0:gIx g (.int 0)=some (.str "deal"):=by rw [← hg];rfl
 simp [gm,jd,bT,aO,gIf,aW,aC,aq,fC,g0,eqS,Vr,Vb,gNx,bL,aG,uc,jt,ou,aB,hL,cD,Me.let,Sl.let,fFn,aj,hW,nJ]
theorem Eg {W:Zf}{L:Zg}{nn:Str}{ws:Ws}{s t:Int}{n:Str}{kn:List D}{fr fr' r:D}{ds:List D}{b:Bool}{x y z:Sl}(ht:¬t=s)
  (hL:L (sS (dG (.move t nn ws)) s n kn fr (dG (.move t nn ws)) .un [] .un .un .un)=.ok (.nx,sS (dG (.move t nn ws)) s n kn fr' (dG (.move t nn ws)) .un ds x y z)) (hW:W [dG (.move t nn ws),.lst ds]=.ok (b,r)):
  gm 4 11 5 (bT W L) [dG (.move t nn ws),.int s,.str n,.tup kn] fr=.ok (r,fr'):=by
 generalize hg:dG (.move t nn ws)=g at hL hW;have g0:gIx g (.int 0)=some (.str "move"):=by rw [← hg];rfl
 have g1:gIx g (.int 1)=some (.int t):=by rw [← hg];rfl
 simp [gm,jd,bT,aO,gIf,aW,aC,aq,fC,g0,g1,eqS,eqI,ht,Su,gNx,bL,aG,uc,jt,ou,aB,hL,cD,Me.let,Sl.let,fFn,aj,hW,nJ]
theorem Ml:∀k:Fin 101,((toString ((k.val:Int)+1):String):Str).length<=10:=by decide +kernel
theorem QH {g:D}{s:Int}{n nn:Str}{kn:List Kn}{fr:Fr}{res:D}(g2:gIx g (.int 2)=some (.str nn))(hz:fr.length<=100):
  tV 4 (aY (aj (aC gIx (aq 0) (fC (.int 2))) (aj (aG 3) aB))) (aC bM (fC (.str "s")) (aM xM (aj (aC bM (aM pJ (aj (aq 4) aB)) (fC (.int 1))) aB)))
   [.fz g,.fz (.int s),.fz (.str n),.fz (.tup (kn.map kD)),.io (frD fr),.fz res,.un,.un,.un,.un,.un] =
  .ok (.str (sN ((ins fr (nn,kn)).idxOf (nn,kn))),[.fz g,.fz (.int s),.fz (.str n),.fz (.tup (kn.map kD)),.io (frD (ins fr (nn,kn))),.fz res,.un,.un,.un,.un,.un]):=by
 have hk:ph (.tup [.str nn,.tup (kn.map kD)])=some (kyK (nn,kn)):=Px (nn,kn);have hv:=JZ (nn,kn) 0 fr;have hs:xM [.int ((fr.length:Int)+1)]=some (.str ((toString ((fr.length:Int)+1):String):Str)):=by
  show (if ((fr.length:Int)+1).natAbs.log2<1920 then _ else none)=_;rw [if_pos]
  have:((fr.length:Int)+1).natAbs<=1001:=by omega
  have h2:((fr.length:Int)+1).natAbs.log2<=((fr.length:Int)+1).natAbs:=Nat.log2_le_self _;omega
 have hlen:=Ml ⟨fr.length,by omega⟩;have ha:bM (.str "s") (.str ((toString ((fr.length:Int)+1):String):Str))=some (.str (sN fr.length)):=by
  show (if ("s" : Str).length+_<=sizeLine then _ else none)=_;rw [if_pos]
  ·rfl
  ·have:("s" : Str).length=1:=by decide +kernel
   have z:sizeLine=16777216:=rfl;simp only at hlen;omega
 have hu:pJ [frD fr]=some (.int (fr.length:Int)):=by simp [pJ,frD,dcK]
 clear hlen;generalize ((toString ((fr.length:Int)+1):String):Str)=t at hs ha;have z1:(fr.map kyK).length<sizeLine:=by have z:sizeLine=16777216:=rfl;rw [List.length_map];omega
 have z2:(2:Nat)<=16777216:=by decide
 have i1:bM (.int (fr.length:Int)) (.int 1)=some (.int ((fr.length:Int)+1)):=rfl;generalize hm0:([.fz g,.fz (.int s),.fz (.str n),.fz (.tup (kn.map kD)),.io (frD fr),.fz res,.un,.un,.un,.un,.un]:Me)=m;have fkE:aY (aj (aC gIx (aq 0) (fC (.int 2))) (aj (aG 3) aB)) m=.ok (.tup [.str nn,.tup (kn.map kD)]):=by
  rw [← hm0];simp [aY,aj,aC,aq,fC,g2,aG,aB,z2]
 have fvE:aC bM (fC (.str "s")) (aM xM (aj (aC bM (aM pJ (aj (aq 4) aB)) (fC (.int 1))) aB)) m=.ok (.str (sN fr.length)):=by
  have lE:aq 4 m=.ok (frD fr):=by rw [← hm0];rfl
  generalize (D.int ((fr.length:Int)+1))=dd at hs i1;simp only [aj,aC,fC,aB,aM,lE,Res.m5,hu,yd,i1,hs,ha]
 have oE:vU m 4=some (false,fr.map kyK,nmL 0 fr):=by rw [← hm0];rfl
 unfold tV;rw [oE,fkE,fvE];simp only [yd,Res.m5,hk,z1,if_true];by_cases hm:(nn,kn)∈fr
 ·have e:ins fr (nn,kn)=fr:=if_pos hm;rw [hv,if_pos hm,Nat.zero_add,e,hm0]
 ·have e:ins fr (nn,kn)=fr++[(nn,kn)]:=if_neg hm;have e2:(fr++[(nn,kn)]).idxOf (nn,kn)=fr.length:=by rw [List.idxOf_append,if_neg hm];simp
  rw [hv,if_neg hm,e,e2,← hm0];simp [lU,frD,Jm]
theorem Hm {W:Zf}{L:Zg}{nn:Str}{ws:Ws}{s:Int}{n:Str}{kn:List Kn}{fr:Fr}{fr' r:D}{ds:List D}{b:Bool}{x y z:Sl}(hz:fr.length<=100)
  (hL:L (sS (dG (.move s nn ws)) s n (kn.map kD) (frD (ins fr (nn,kn))) (dG (.move s (sN ((ins fr (nn,kn)).idxOf (nn,kn))) ws)) (.fz (.str (sN ((ins fr (nn,kn)).idxOf (nn,kn))))) [] .un .un .un) =
   .ok (.nx,sS (dG (.move s nn ws)) s n (kn.map kD) fr' (dG (.move s (sN ((ins fr (nn,kn)).idxOf (nn,kn))) ws)) (.fz (.str (sN ((ins fr (nn,kn)).idxOf (nn,kn))))) ds x y z)) (hW:W [dG (.move s (sN ((ins fr (nn,kn)).idxOf (nn,kn))) ws),.lst ds]=.ok (b,r)):
  gm 4 11 5 (bT W L) [dG (.move s nn ws),.int s,.str n,.tup (kn.map kD)] (frD fr)=.ok (r,fr'):=by
 have u:=QH (s:=s) (n:=n) (kn:=kn) (res:=dG (.move s nn ws)) (show gIx (dG (.move s nn ws)) (.int 2)=some (.str nn) from rfl) hz;generalize sN ((ins fr (nn,kn)).idxOf (nn,kn))=nm at hL hW u;have g5:dG (.move s nm ws)=.tup [.str "move",.int s,.str nm,.tup (dWs ws)]:=rfl;have g3:gIx (dG (.move s nn ws)) (.int 3)=some (.tup (dWs ws)):=rfl;have g0:gIx (dG (.move s nn ws)) (.int 0)=some (.str "move"):=rfl;have g1:gIx (dG (.move s nn ws)) (.int 1)=some (.int s):=rfl;generalize frD (ins fr (nn,kn))=fr1 at hL u;generalize frD fr=fr0 at u;generalize dG (.move s nn ws)=g at hL u g0 g1 g3;rw [g5] at hL hW;generalize dWs ws=dw at hL hW g3;generalize kn.map kD=kl at hL u;have z4:(4:Nat)<=16777216:=by decide
 have a1:gIf (uc (aW gEq (aC gIx (aq 0) (fC (.int 0))) (fC (.str "move"))) (aW gEq (aC gIx (aq 0) (fC (.int 1))) (aq 1))) (aO (qF 6 (tV 4 (aY (aj (aC gIx (aq 0) (fC (.int 2))) (aj (aG 3) aB))) (aC bM (fC (.str "s")) (aM xM (aj (aC bM (aM pJ (aj (aq 4) aB)) (fC (.int 1))) aB)))))
   (bL 5 (aY (aj (fC (.str "move")) (aj (aG 1) (aj (aG 6) (aj (aC gIx (aq 0) (fC (.int 3))) aB))))))) gNx [.fz g,.fz (.int s),.fz (.str n),.fz (.tup kl),.io fr0,.fz g,.un,.un,.un,.un,.un] =
   .ok (.nx,[.fz g,.fz (.int s),.fz (.str n),.fz (.tup kl),.io fr1,.fz (.tup [.str "move",.int s,.str nm,.tup dw]),.fz (.str nm),.un,.un,.un,.un]):=by
  generalize hU:(tV 4 (aY (aj (aC gIx (aq 0) (fC (.int 2))) (aj (aG 3) aB))) (aC bM (fC (.str "s")) (aM xM (aj (aC bM (aM pJ (aj (aq 4) aB)) (fC (.int 1))) aB))))=U at u;simp [gIf,uc,aW,aC,aq,fC,g0,g1,eqS,eqI,aO,qF,u,bL,aY,aj,aG,aB,g3,z4]
 unfold bT;generalize hA:gIf (uc (aW gEq (aC gIx (aq 0) (fC (.int 0))) (fC (.str "move"))) (aW gEq (aC gIx (aq 0) (fC (.int 1))) (aq 1))) (aO (qF 6 (tV 4 (aY (aj (aC gIx (aq 0) (fC (.int 2))) (aj (aG 3) aB))) (aC bM (fC (.str "s")) (aM xM (aj (aC bM (aM pJ (aj (aq 4) aB)) (fC (.int 1))) aB)))))
   (bL 5 (aY (aj (fC (.str "move")) (aj (aG 1) (aj (aG 6) (aj (aC gIx (aq 0) (fC (.int 3))) aB))))))) gNx=A at a1
 simp [gm,jd,aO,gIf,aW,aC,aq,fC,g0,eqS,Su,gNx,bL,aG,a1,jt,ou,aB,hL,cD,Me.let,Sl.let,fFn,aj,hW,nJ]
open L2 (atI ixN Key)
theorem pA:∀{ws:Ws} {c:Gm},lbW ws->c∈eN ws->lbG c
 | .cons _ g r,c,h,hc=>by
  rcases List.mem_cons.mp (show c∈g::eN r from hc) with e | e
  ·exact e ▸ h.1
  ·exact pA h.2 e
theorem HH:∀{ws:Ws} {j:Nat} {l c:D},lbs ws->(dWs ws)[j]? = some (.tup [l,c])->l=.str (wordOf l)
 | .nil,j,l,c,_,h=>by simp [dWs] at h
 | .cons a g r,0,l,c,hb,h=>by
  obtain ⟨⟨w,rfl⟩,_⟩:=hb
  have:D.tup [.str w,dG g]=.tup [l,c]:=by simpa [dWs] using h
  cases this;rfl
 | .cons a g r,j+1,l,c,hb,h=>HH hb.2 (show (dWs r)[j]? = some (.tup [l,c]) from h)
theorem xq {side:Int}{name:Str}{Φ:List D->D->Res (D×D)}{g:D}{m:Me}{dw:List D}(hg:gIx g (.int (-1))=some (.tup dw)){s:Int}{n:Str}{kn:List D}{fr res:D}{new:Sl}{ws:List D}{x y z:Sl}:
  eU Φ (sS g s n kn fr res new ws x y z)=bZ hE (eX Φ) (en 0 dw) (sS g s n kn fr res new ws x y z):=by
 unfold eU pI
 have:Cd (aj (aC gIx (aq 0) (fUn uQ (fC (.int 1)))) aB) (sS g s n kn fr res new ws x y z)=.ok (en 0 dw):=by
  simp [Cd,aj,aC,aq,fUn,uQ,fC,hg,aB,Hs]
 rw [this];rfl
theorem yI (side:Int)(name:Str):∀(n:Nat) (g:Gm),dp g<n->dH g->lbG g->Cl side name (bR n) g
 |0,g,h,_,_=>absurd h (Nat.not_lt_zero _)
 |n+1,.fin d,h,hl,hb=>λkn fr h1 h2=>by
  show gm 4 11 5 (bT cz (eU (bR n))) _ _=_;rw [Mj];rfl
 |n+1,.deal nn ws,h,hl,hb=>λkn fr h1 h2=>by
  have hdp:dp (.deal nn ws)=dpW ws+1:=rfl;have hsz:szG (.deal nn ws)=szW ws+1:=rfl;have hk:∀c∈eN ws,dp c<dp (.deal nn ws):=λc hc=>v9 (g:=.deal nn ws) hc;obtain ⟨x,y,z,e⟩:=mV (side:=side) (name:=name) (Φ:=bR n) (g0:=dG (.deal nn ws)) (res:=dG (.deal nn ws)) (kn:=kn.map kD) (f:=λi _=>if nn=name then kn++[.num i] else kn) (new:=.un) ws 0 fr [] .un .un .un
   (λc hc=>yI side name n c (by have:=hk c hc;omega) (iC hl.2 hc) (pA hb hc)) (λc hc j l=>by have:=hk c hc;split<;>simp<;>omega) (by simp;omega) (by have:=hl.1;simp;omega) (by omega)
   (λj l c hj=>by
    refine ⟨_,_,?_,xf,?_⟩
    ·split<;>simp
    ·split<;>simp [kD])
  show gm 4 11 5 (bT cz (eU (bR n))) _ _=_;refine HR (x:=x) (y:=y) (z:=z) (ds:=dWs (shW side name (λi _=>if nn=name then kn++[.num i] else kn) 0 ws fr).1) ((xq (side:=side) (name:=name) (m:=[]) rfl).trans e) Fv
 |n+1,.move s nn ws,h,hl,hb=>λkn fr h1 h2=>by
  have hdp:dp (.move s nn ws)=dpW ws+1:=rfl;have hsz:szG (.move s nn ws)=szW ws+1:=rfl;have hk:∀c∈eN ws,dp c<dp (.move s nn ws):=λc hc=>v9 (g:=.move s nn ws) hc;show gm 4 11 5 (bT cz (eU (bR n))) _ _=_;by_cases hs:s=side
  ·subst hs;have il:=Ds fr (nn,kn);obtain ⟨x,y,z,e⟩:=mV (side:=s) (name:=name) (Φ:=bR n) (g0:=dG (.move s nn ws)) (res:=dG (.move s (sN ((ins fr (nn,kn)).idxOf (nn,kn))) ws)) (kn:=kn.map kD) (f:=λ_ l=>kn++[.pr nn (wordOf l)]) (new:=.fz (.str (sN ((ins fr (nn,kn)).idxOf (nn,kn))))) ws 0 (ins fr (nn,kn)) [] .un .un .un
    (λc hc=>yI s name n c (by have:=hk c hc;omega) (iC hl.2 hc) (pA hb.2 hc)) (λc hc j l=>by have:=hk c hc;simp;omega) (by simp;omega) (by have:=hl.1;simp;omega) (by omega)
    (λj l c hj=>by
     refine ⟨_,_,?_,oO (l:=l) (c:=c) (by simpa using hj),?_⟩
     ·simp
     ·rw [HH hb.1 hj];simp [kD,wordOf])
   have r:=Hm (W:=cz) (n:=name) (x:=x) (y:=y) (z:=z) (ds:=dWs (shW s name (λ_ l=>kn++[.pr nn (wordOf l)]) 0 ws (ins fr (nn,kn))).1) (by omega) ((xq (side:=s) (name:=name) (m:=[]) rfl).trans e) vI;rw [r];simp [shG,dG]
  ·obtain ⟨x,y,z,e⟩:=mV (side:=side) (name:=name) (Φ:=bR n) (g0:=dG (.move s nn ws)) (res:=dG (.move s nn ws)) (kn:=kn.map kD) (f:=λ_ _=>kn) (new:=.un) ws 0 fr [] .un .un .un
    (λc hc=>yI side name n c (by have:=hk c hc;omega) (iC hl.2 hc) (pA hb.2 hc)) (λc hc j l=>by have:=hk c hc;omega) (by simp;omega) (by have:=hl.1;simp;omega) (by omega)
    (λj l c hj=>by
     refine ⟨_,_,?_,oO (l:=l) (c:=c) (by simpa using hj),?_⟩
     ·simp [hs]
     ·simp [hs])
   have r:=Eg (W:=cz) (n:=name) (x:=x) (y:=y) (z:=z) (ds:=dWs (shW side name (λ_ _=>kn) 0 ws fr).1) hs ((xq (side:=side) (name:=name) (m:=[]) rfl).trans e) vI;rw [r];simp [shG,dG,hs]
open L2 (atI ixN Key)
theorem Hn {g:Gm}(h:dH g)(hd:dp g<=12)(hz:szG g<=64):cC [dG g]=.ok (false,.non):=by
 have e:=places_eq h (by omega) (by omega);have hl:(plG [] g).length<=64:=by rw [rJ];exact hz
 have ec:dU (iW 2 (bz (hName 0) (bz (hName 1) iY))) iy dO [.un,.un] ((plG [] g).map pD)=.ok ((plG [] g).map λ_=>.bl false):=gk _ λp hp=>by
  refine ⟨[.fz (.tup (p.1.map D.int)),.fz (dG p.2)],rfl,rfl,?_⟩
  have:=JD [] g p hp
  have q:¬((p.1.length:Int) > 12):=by simp at this;omega
  have q':¬(12:Int)<(p.1.length:Int):=q;simp [dO,pK,aM,ig,aj,aB,aq,fC,gGt,q,q']
 have q1:¬((plG [] g).length:Int) > 64:=by omega
 have z1:(plG [] g).length<=16777216:=by omega
 have eq:dX [.fz (dG g),.fz (.lst ((plG [] g).map pD))]=.ok (.lst ((plG [] g).map λ_=>.bl false)):=by
  simp [dX,dB,kW,aq,cMe,ec,z1]
 have ea:=QM (f:=λ_:List Int×Gm=>D.bl false) (l:=plG [] g) λ_ _=>rfl;simp [cC,eZ,fj,bB,aO,bL,fFn,aj,aB,aG,e,gIf,aW,aM,ig,aq,fC,gGt,q1,gNx,fTv,eq,ea]
abbrev tb (g:Gm):List D:=(tbl (prG [] ([],[]) g)).2
theorem mF {g:Gm}{s:Int}{s2:Sl}(h:dH g)(hs:sdG g)(hd:dp g<=50)(hz:szG g<=10000):
  (okT (tb g) s->∃s2',bu [.fz (dG g),.fz (.int s),s2]=.ok (.nx,[.fz (dG g),.fz (.int s),s2']))/\(¬okT (tb g) s->(tb g).length<=10000->bu [.fz (dG g),.fz (.int s),s2]=.exc "TooGreat"):=by
 have e:=Mx (s:=s) h hs hd hz;generalize hl:((tbl (prG [] ([],[]) g)).2.filter λd=>decide (sdD d=s))=l at e;have hr:∀d∈l,GR d:=λd hd=>by rw [← hl] at hd;exact BW (List.mem_filter.mp hd).1
 have ek:okT (tb g) s↔l.length<=8/\(l.map λd=>(wdD d:Int)).sum<=24:=by unfold okT;rw [← hl]
 refine ⟨λht=>?_,λht hn=>?_⟩
 ·obtain ⟨t1,t2⟩:=ek.mp ht;have ec:=count_eq hr (by omega);have q1:¬(l.length:Int) > 8:=by omega
  have q2:¬(l.map λd=>(wdD d:Int)).sum > 24:=by omega
  refine ⟨.fz (.lst l),?_⟩;simp [bu,aO,bL,fFn,aj,aB,aG,e,gIf,aW,aM,ig,aq,fC,gGt,q1,gNx,ec,q2]
 ·have ll:l.length<=10000:=by
   rw [← hl];exact Nat.le_trans (List.length_filter_le _ _) hn
  have ec:=count_eq hr ll;by_cases q1:(l.length:Int) > 8
  ·simp [bu,aO,bL,fFn,aj,aB,aG,e,gIf,aW,aM,ig,aq,fC,gGt,q1,mR,fM]
  ·have q2:(l.map λd=>(wdD d:Int)).sum > 24:=by
    by_cases z:(l.map λd=>(wdD d:Int)).sum<=24
    ·exact absurd (ek.mpr ⟨by omega,z⟩) ht
    ·omega
   simp [bu,aO,bL,fFn,aj,aB,aG,e,gIf,aW,aM,ig,aq,fC,gGt,q1,gNx,ec,q2,mR,fM]
theorem xP {h:Zh}{b:Zg}{d:D}{ds:List D}{m m1:Me}{c:Str}(h1:h d m=some m1)(h2:b m1=.exc c):bZ h b (d::ds) m=.exc c:=by
 simp [bZ,h1,h2]
theorem Hi {g:Gm}(h:dH g)(hs:sdG g)(hd:dp g<=50)(hz:szG g<=10000)(hn:(tb g).length<=10000):(okT (tb g) 1/\okT (tb g) 2->bG [dG g]=.ok (false,.non))/\(¬(okT (tb g) 1/\okT (tb g) 2)->bG [dG g]=.exc "TooGreat"):=by
 have ei:yt (aY (aj (fC (.int 1)) (aj (fC (.int 2)) aB))) [.fz (dG g),.un,.un]=.ok [.int 1,.int 2]:=rfl;have el:cg [.fz (dG g),.un,.un]=bZ (hName 1) bu [.int 1,.int 2] [.fz (dG g),.un,.un]:=by
  unfold cg pI;rw [ei];rfl
 refine ⟨λ⟨h1,h2⟩=>?_,λht=>?_⟩
 ·obtain ⟨a,e1⟩:=(mF (s2:=.un) h hs hd hz).1 h1;obtain ⟨b,e2⟩:=(mF (s2:=a) h hs hd hz).1 h2;have e:cg [.fz (dG g),.un,.un]=.ok (.nx,[.fz (dG g),.fz (.int 2),b]):=by
   rw [el,dZ (m1:=[.fz (dG g),.fz (.int 1),.un]) rfl e1,dZ (m1:=[.fz (dG g),.fz (.int 2),a]) rfl e2];rfl
  simp [bG,dC,dq,bB,e]
 ·have e:cg [.fz (dG g),.un,.un]=.exc "TooGreat":=by
   rw [el];by_cases h1:okT (tb g) 1
   ·obtain ⟨a,e1⟩:=(mF (s2:=.un) h hs hd hz).1 h1;have h2:¬okT (tb g) 2:=λz=>ht ⟨h1,z⟩;rw [dZ (m1:=[.fz (dG g),.fz (.int 1),.un]) rfl e1];exact xP (m1:=[.fz (dG g),.fz (.int 2),a]) rfl ((mF h hs hd hz).2 h2 hn)
   ·exact xP (m1:=[.fz (dG g),.fz (.int 1),.un]) rfl ((mF h hs hd hz).2 h1 hn)
  simp [bG,dC,dq,bB,e]
theorem RZ {g:Gm}(h:dH g)(hs:sdG g)(hd:dp g<=12)(hz:szG g<=64)(hn:(tb g).length<=10000)(ht:okT (tb g) 1/\okT (tb g) 2):bF [dG g]=.ok (false,.non):=by
 have e1:=Hn h hd hz;have e2:=(Hi h hs (by omega) (by omega) hn).1 ht;simp [bF,cZ,du,bB,aO,gEx,fFn,aj,aB,aG,e1,e2]
theorem Ld {g:Gm}(h:dH g)(hs:sdG g)(hd:dp g<=12)(hz:szG g<=64)(hn:(tb g).length<=10000)(ht:¬(okT (tb g) 1/\okT (tb g) 2)):bF [dG g]=.exc "TooGreat":=by
 have e1:=Hn h hd hz;have e2:=(Hi h hs (by omega) (by omega) hn).2 ht;simp [bF,cZ,du,bB,aO,gEx,fFn,aj,aB,aG,e1,e2]
open L2 (atI ixN Key)
abbrev Mv:=Int×Str×Nat
mutual
def mvG:Gm->List Mv
 | .fin _=>[]
 | .deal _ ws=>mvW ws
 | .move s n ws=>(s,n,cR ws)::mvW ws
def mvW:Ws->List Mv
 | .nil=>[]
 | .cons _ g r=>mvG g++mvW r
end
def uJ (p:List Int×Gm×Rc):Option Mv:=match p.2.1 with
 | .move s n ws=>some (s,n,cR ws)
 |_=>none
mutual
theorem Oi:∀(w:List Int) (r:Rc) (g:Gm),(prG w r g).filterMap uJ=mvG g
 |w,r,.fin d=>by simp [prG,mvG,uJ]
 |w,r,.deal n ws=>by simp [prG,mvG,uJ,z6,List.filterMap_cons]
 |w,r,.move s n ws=>by simp [prG,mvG,uJ,z6,List.filterMap_cons]
theorem z6:∀(w:List Int) (f:D->Rc) (i:Nat) (ws:Ws),(prW w f i ws).filterMap uJ=mvW ws
 |w,f,i,.nil=>by simp [prW,mvW]
 |w,f,i,.cons l g r=>by simp [prW,mvW,Oi,z6]
end
def dk {α:Type}[DecidableEq α]{β:Type}(acc:List (α×β))(k:α×β):List (α×β):=if k.1∈acc.map (·.1) then acc else acc++[k]
def dks {α:Type}[DecidableEq α]{β:Type}(l:List (α×β)):List (α×β):=l.foldl dk []
abbrev Mk:=(Int×Str)×Nat
def mk (m:Mv):Mk:=((m.1,m.2.1),m.2.2)
def rv (d:D):Int×Nat:=(sdD d,wdD d)
theorem RG {a b:Int}{m n:Str}(h:kn a m=kn b n):a=b/\m=n:=by simpa [kn] using h
theorem xX {k:List Kt}:∀{ks:List (List Kt)} {ds:List D},ks.length=ds.length->((cU ks ds k).isSome=true↔k∈ks)
 |[],[],_=>by simp [cU]
 |a::ks,d::ds,h=>by
  show (if a=k then some d else cU ks ds k).isSome=true↔_;by_cases e:a=k
  ·simp [e]
  ·have e':¬k=a:=λz=>e z.symm;rw [if_neg e,xX (by simpa using h)];simp [e']
 |[],_::_,h=>by simp at h
 |_::_,[],h=>by simp at h
theorem sZ:∀(l:List (List Int×Gm×Rc)) (T:Tb) (acc:List Mk),T.1.length=T.2.length->T.1=acc.map (λm=>kn m.1.1 m.1.2)->T.2.map rv=acc.map (λm=>(m.1.1,m.2))->
  (l.foldl tst T).2.map rv=(((l.filterMap uJ).map mk).foldl dk acc).map (λm=>(m.1.1,m.2))
 |[],T,acc,_,_,h=>by simpa using h
 |p::l,T,acc,h1,h2,h3=>by
  obtain ⟨w,g,r⟩:=p;cases g with
  |fin d=>simpa [tst,uJ,List.filterMap_cons] using sZ l T acc h1 h2 h3
  |deal n ws=>simpa [tst,uJ,List.filterMap_cons] using sZ l T acc h1 h2 h3
  |move s n ws=>
   have hm:kn s n∈T.1↔(s,n)∈acc.map (·.1):=by
    rw [h2];simp only [List.mem_map];constructor
    ·rintro ⟨a,ha,e⟩;obtain ⟨e1,e2⟩:=RG e;exact ⟨a,ha,Prod.ext e1 e2⟩
    ·rintro ⟨a,ha,e⟩;exact ⟨a,ha,by rw [e]⟩
   have hv:=xX (k:=kn s n) h1;by_cases q:(s,n)∈acc.map (·.1)
   ·have t:tst T (w,.move s n ws,r)=T:=by
     show (if (cU T.1 T.2 (kn s n)).isSome=true then T else _)=T;rw [if_pos (hv.mpr (hm.mpr q))]
    have d:dk acc ((s,n),cR ws)=acc:=if_pos q
    have:=sZ l T acc h1 h2 h3
    simpa [uJ,mk,t,d] using this
   ·have t:tst T (w,.move s n ws,r)=(T.1++[kn s n],T.2++[pX s n ws r]):=by
     show (if (cU T.1 T.2 (kn s n)).isSome=true then T else _)=_;rw [if_neg (λz=>q (hm.mp (hv.mp z)))]
    have d:dk acc ((s,n),cR ws)=acc++[((s,n),cR ws)]:=if_neg q
    have:=sZ l (T.1++[kn s n],T.2++[pX s n ws r]) (acc++[((s,n),cR ws)]) (by simp [h1]) (by simp [h2]) (by simp [h3,rv,pX,sdD,wdD,mj])
    simpa [uJ,mk,t,d] using this
theorem Oj (g:Gm):(tb g).map rv=(dks ((mvG g).map mk)).map (λm=>(m.1.1,m.2)):=by
 have:=sZ (prG [] ([],[]) g) ([],[]) [] rfl rfl rfl
 rw [Oi] at this;exact this
theorem Dj (s:Int):∀(l:List D) (k:List (Int×Nat)),l.map rv=k->((l.filter λd=>decide (sdD d=s)).length=(k.filter λp=>decide (p.1=s)).length/\((l.filter λd=>decide (sdD d=s)).map λd=>(wdD d:Int)).sum=(((k.filter λp=>decide (p.1=s)).map (·.2)).sum:Nat))
 |[],_,rfl=>by simp
 |d::l,_,rfl=>by
  obtain ⟨a,b⟩:=Dj s l _ rfl;by_cases q:sdD d=s
  ·simp only [List.filter_cons,List.map_cons,rv,q,decide_true,if_true,List.length_cons,List.sum_cons];constructor
   ·first | (rw [a];done) | (rw [a];simp [rv])
   ·first | (rw [b];done) | (rw [b];simp [rv])
  ·simp only [List.filter_cons,List.map_cons,rv,q,decide_false,Bool.false_eq_true,if_false];exact ⟨a,b⟩
def cnt (l:List Mk)(s:Int):Nat:=((dks l).filter λm=>decide (m.1.1=s)).length
def wds (l:List Mk)(s:Int):Nat:=(((dks l).filter λm=>decide (m.1.1=s)).map (·.2)).sum
theorem Cu (g:Gm)(s:Int):okT (tb g) s↔cnt ((mvG g).map mk) s<=8/\wds ((mvG g).map mk) s<=24:=by
 obtain ⟨a,b⟩:=Dj s (tb g) _ (Oj g);have e1:(((dks ((mvG g).map mk)).map (λm=>(m.1.1,m.2))).filter λp=>decide (p.1=s))=((dks ((mvG g).map mk)).filter λm=>decide (m.1.1=s)).map (λm=>(m.1.1,m.2)):=by
  rw [List.filter_map];rfl
 rw [e1] at a b;rw [List.length_map] at a;rw [List.map_map] at b;unfold okT cnt wds;rw [a,b]
 have:(((dks ((mvG g).map mk)).filter λm=>decide (m.1.1=s)).map ((·.2) ∘ λm=>(m.1.1,m.2)))=((dks ((mvG g).map mk)).filter λm=>decide (m.1.1=s)).map (·.2):=rfl
 rw [this];omega
open L2 (atI ixN Key)
section
variable {α β γ:Type}[DecidableEq α][DecidableEq γ]
theorem vD (P:α->Bool):∀(l acc:List (α×β)),(l.foldl dk acc).filter (λk=>P k.1)=(l.filter λk=>P k.1).foldl dk (acc.filter λk=>P k.1)
 |[],acc=>rfl
 |k::l,acc=>by
  rw [List.foldl_cons,vD P l];by_cases hp:P k.1=true
  ·have e:(k::l).filter (λk=>P k.1)=k::l.filter (λk=>P k.1):=by simp [hp]
   rw [e,List.foldl_cons];congr 1;unfold dk;have hm:k.1∈(acc.filter λk=>P k.1).map (·.1)↔k.1∈acc.map (·.1):=by
    simp only [List.mem_map,List.mem_filter];constructor
    ·rintro ⟨a,⟨h1,_⟩,h2⟩;exact ⟨a,h1,h2⟩
    ·rintro ⟨a,h1,h2⟩;exact ⟨a,⟨h1,by rw [h2];exact hp⟩,h2⟩
   by_cases q:k.1∈acc.map (·.1)
   ·rw [if_pos q,if_pos (hm.mpr q)]
   ·rw [if_neg q,if_neg (λz=>q (hm.mp z))];simp [hp]
  ·have e:(k::l).filter (λk=>P k.1)=l.filter (λk=>P k.1):=by simp [hp]
   rw [e];congr 1;unfold dk;split
   ·rfl
   ·simp [hp]
theorem zO (P:α->Bool)(l:List (α×β)):(dks l).filter (λk=>P k.1)=dks (l.filter λk=>P k.1):=vD P l []
theorem zB (φ:α->γ):∀(l acc:List (α×β)),(∀a∈(acc++l).map (·.1),∀b∈(acc++l).map (·.1),φ a=φ b->a=b)->
  (l.map λk=>(φ k.1,k.2)).foldl dk (acc.map λk=>(φ k.1,k.2))=(l.foldl dk acc).map λk=>(φ k.1,k.2)
 |[],acc,_=>rfl
 |k::l,acc,h=>by
  have hm:(φ k.1)∈(acc.map λk=>(φ k.1,k.2)).map (·.1)↔k.1∈acc.map (·.1):=by
   rw [List.map_map];simp only [List.mem_map,Function.comp];constructor
   ·rintro ⟨a,h1,h2⟩;exact ⟨a,h1,h a.1 (by simp only [List.map_append,List.mem_append];exact .inl (List.mem_map_of_mem h1)) k.1 (by simp) h2⟩
   ·rintro ⟨a,h1,h2⟩;exact ⟨a,h1,by rw [h2]⟩
  rw [List.map_cons,List.foldl_cons,List.foldl_cons];by_cases q:k.1∈acc.map (·.1)
  ·have e1:dk acc k=acc:=if_pos q;have e2:dk (acc.map λk=>(φ k.1,k.2)) (φ k.1,k.2)=acc.map λk=>(φ k.1,k.2):=if_pos (hm.mpr q);rw [e1,e2];exact zB φ l acc λa ha b hb=>h a (by simp only [List.map_append,List.mem_append,List.map_cons,List.mem_cons] at ha ⊢;exact ha.imp id .inr) b (by simp only [List.map_append,List.mem_append,List.map_cons,List.mem_cons] at hb ⊢;exact hb.imp id .inr)
  ·have e1:dk acc k=acc++[k]:=if_neg q;have e2:dk (acc.map λk=>(φ k.1,k.2)) (φ k.1,k.2)=(acc++[k]).map λk=>(φ k.1,k.2):=by
    rw [List.map_append];exact if_neg λz=>q (hm.mp z)
   rw [e1,e2];exact zB φ l (acc++[k]) λa ha b hb=>h a (by simpa using ha) b (by simpa using hb)
theorem LC (φ:α->γ)(l:List (α×β))(h:∀a∈l.map (·.1),∀b∈l.map (·.1),φ a=φ b->a=b):dks (l.map λk=>(φ k.1,k.2))=(dks l).map λk=>(φ k.1,k.2):=zB φ l [] (by simpa using h)
end
theorem Gu:∀(l acc:List (Ky×Nat)),l.foldl (λfr k=>ins fr k.1) (acc.map (·.1))=(l.foldl dk acc).map (·.1)
 |[],acc=>rfl
 |k::l,acc=>by
  rw [List.foldl_cons,List.foldl_cons]
  have:ins (acc.map (·.1)) k.1=(dk acc k).map (·.1):=by
   unfold ins dk;split<;>simp
  rw [this];exact Gu l (dk acc k)
theorem Dc:∀(l:List (Ky×Nat)) (fr:Fr),∃t,l.foldl (λfr k=>ins fr k.1) fr=fr++t
 |[],fr=>⟨[],by simp⟩
 |k::l,fr=>by
  obtain ⟨t,e⟩:=Dc l (ins fr k.1);rw [List.foldl_cons,e];unfold ins;split
  ·exact ⟨t,rfl⟩
  ·exact ⟨k.1::t,by simp⟩
theorem KJ (fr:Fr)(k:Ky):k∈ins fr k:=by unfold ins;split<;>simp_all
section
variable (side:Int)(name:Str)
mutual
def ksG:Gm->List Kn->List (Ky×Nat)
 | .fin _,_=>[]
 | .deal n ws,kn=>ksW (λi _=>if n=name then kn++[.num i] else kn) 0 ws
 | .move s n ws,kn=>if s=side then ((n,kn),cR ws)::ksW (λ_ l=>kn++[.pr n (wordOf l)]) 0 ws else ksW (λ_ _=>kn) 0 ws
def ksW:(Nat->D->List Kn)->Nat->Ws->List (Ky×Nat)
 |_,_,.nil=>[]
 |f,i,.cons l g r=>ksG g (f i l)++ksW f (i+1) r
end
mutual
theorem Ol:∀(g:Gm) (kn:List Kn) (fr:Fr),(shG side name g kn fr).2=(ksG side name g kn).foldl (λfr k=>ins fr k.1) fr
 | .fin d,kn,fr=>by simp [shG,ksG]
 | .deal n ws,kn,fr=>by simp only [shG,ksG];exact tQ ws _ 0 fr
 | .move s n ws,kn,fr=>by
  by_cases h:s=side
  ·simp only [shG,ksG,if_pos h,List.foldl_cons];exact tQ ws _ 0 _
  ·simp only [shG,ksG,if_neg h];exact tQ ws _ 0 fr
theorem tQ:∀(ws:Ws) (f:Nat->D->List Kn) (i:Nat) (fr:Fr),(shW side name f i ws fr).2=(ksW side name f i ws).foldl (λfr k=>ins fr k.1) fr
 | .nil,f,i,fr=>by simp [shW,ksW]
 | .cons l g r,f,i,fr=>by simp only [shW,ksW,List.foldl_append];rw [tQ r,Ol g]
end
theorem By (ws:Ws)(f:Nat->D->List Kn)(i:Nat)(fr:Fr):∃t,(shW side name f i ws fr).2=fr++t:=by rw [tQ];exact Dc _ _
mutual
theorem Ht:∀(g:Gm) (kn:List Kn) (fr frF t:Fr),frF=(shG side name g kn fr).2++t->(mvG (shG side name g kn fr).1).filter (λm=>decide (m.1=side))=(ksG side name g kn).map λk=>(side,sN (frF.idxOf k.1),k.2)
 | .fin d,kn,fr,frF,t,e=>by simp [shG,ksG,mvG]
 | .deal n ws,kn,fr,frF,t,e=>by simp only [shG,ksG,mvG];exact rF ws _ 0 fr frF t (by simpa [shG] using e)
 | .move s n ws,kn,fr,frF,t,e=>by
  by_cases h:s=side
  ·simp only [shG,if_pos h] at e;have ih:=rF ws (λ_ l=>kn++[.pr n (wordOf l)]) 0 (ins fr (n,kn)) frF t e;obtain ⟨t',e'⟩:=By side name ws (λ_ l=>kn++[.pr n (wordOf l)]) 0 (ins fr (n,kn));have ix:frF.idxOf (n,kn)=(ins fr (n,kn)).idxOf (n,kn):=by
    rw [e,e',List.append_assoc,List.idxOf_append,if_pos (KJ fr (n,kn))]
   simp only [shG,ksG,mvG,if_pos h,List.filter_cons,h,decide_true,if_true,List.map_cons];rw [ih,ix,lq]
  ·simp only [shG,if_neg h] at e;have ih:=rF ws (λ_ _=>kn) 0 fr frF t e;simp only [shG,ksG,mvG,if_neg h,List.filter_cons,h,decide_false,Bool.false_eq_true,if_false];exact ih
theorem rF:∀(ws:Ws) (f:Nat->D->List Kn) (i:Nat) (fr frF t:Fr),frF=(shW side name f i ws fr).2++t->(mvW (shW side name f i ws fr).1).filter (λm=>decide (m.1=side))=(ksW side name f i ws).map λk=>(side,sN (frF.idxOf k.1),k.2)
 | .nil,f,i,fr,frF,t,e=>by simp [shW,ksW,mvW]
 | .cons l g r,f,i,fr,frF,t,e=>by
  simp only [shW] at e;obtain ⟨t',e'⟩:=By side name r f (i+1) (shG side name g (f i l) fr).2;have a:=Ht g (f i l) fr frF (t'++t) (by rw [e,e',List.append_assoc]);have b:=rF r f (i+1) (shG side name g (f i l) fr).2 frF t e;simp only [shW,ksW,mvW,List.filter_append,List.map_append];rw [a,b]
end
mutual
theorem xV {s':Int}(hs:s'≠side):∀(g:Gm) (kn:List Kn) (fr:Fr),(mvG (shG side name g kn fr).1).filter (λm=>decide (m.1=s'))=(mvG g).filter (λm=>decide (m.1=s'))
 | .fin d,kn,fr=>by simp [shG,mvG]
 | .deal n ws,kn,fr=>by simp only [shG,mvG];exact mY hs ws _ 0 fr
 | .move s n ws,kn,fr=>by
  by_cases h:s=side
  ·have h':¬s=s':=λz=>hs (by rw [← z,h]);simp only [shG,mvG,if_pos h,List.filter_cons,h',decide_false,Bool.false_eq_true,if_false];exact mY hs ws _ 0 _
  ·simp only [shG,mvG,if_neg h,List.filter_cons];rw [mY hs ws _ 0 fr,lq]
theorem mY {s':Int}(hs:s'≠side):∀(ws:Ws) (f:Nat->D->List Kn) (i:Nat) (fr:Fr),(mvW (shW side name f i ws fr).1).filter (λm=>decide (m.1=s'))=(mvW ws).filter (λm=>decide (m.1=s'))
 | .nil,f,i,fr=>by simp [shW,mvW]
 | .cons l g r,f,i,fr=>by
  simp only [shW,mvW,List.filter_append];rw [xV hs g,mY hs r]
end
end
open L2 (atI ixN Key)
theorem JX:∀i j:Fin 65,sN i.val=sN j.val->i=j:=by decide +kernel
section
variable {α β:Type}[DecidableEq α]
theorem wY {a:α}:∀(l acc:List (α×β)),a∈(l.foldl dk acc).map (·.1)↔a∈acc.map (·.1)\/a∈l.map (·.1)
 |[],acc=>by simp
 |k::l,acc=>by
  rw [List.foldl_cons,wY l];unfold dk;split
  ·rename_i q;simp only [List.map_cons,List.mem_cons];constructor
   ·rintro (h | h)
    ·exact .inl h
    ·exact .inr (.inr h)
   ·rintro (h | h | h)
    ·exact .inl h
    ·exact .inl (h ▸ q)
    ·exact .inr h
  ·simp [or_assoc]
theorem Ny {a:α}{l:List (α×β)}:a∈(dks l).map (·.1)↔a∈l.map (·.1):=by unfold dks;rw [wY];simp
theorem HS:∀(l acc:List (α×β)),(l.foldl dk acc).length<=acc.length+l.length
 |[],acc=>by simp
 |k::l,acc=>by
  have:=HS l (dk acc k)
  have:(dk acc k).length<=acc.length+1:=by unfold dk;split<;>simp
  rw [List.foldl_cons,List.length_cons];omega
end
theorem Mp {fr:Fr}{a b:Ky}(ha:a∈fr)(hb:b∈fr)(h:fr.idxOf a=fr.idxOf b):a=b:=by
 have la:=List.idxOf_lt_length_of_mem ha;have lb:=List.idxOf_lt_length_of_mem hb;have e1:fr[fr.idxOf a]'la=a:=List.getElem_idxOf la;have e2:fr[fr.idxOf b]'lb=b:=List.getElem_idxOf lb;rw [← e1,← e2];simp only [h]
theorem Gz (side:Int)(name:Str)(g:Gm):(shG side name g [] []).2=(dks (ksG side name g [])).map (·.1):=by
 rw [Ol];exact Gu _ []
theorem uw (l:List Mk)(s:Int):cnt l s=(dks (l.filter λm=>decide (m.1.1=s))).length/\wds l s=((dks (l.filter λm=>decide (m.1.1=s))).map (·.2)).sum:=by
 have:=zO (λk:Int×Str=>decide (k.1=s)) l
 unfold cnt wds;rw [this];exact ⟨rfl,rfl⟩
theorem pH (l:List Mv)(s:Int):(l.map mk).filter (λm=>decide (m.1.1=s))=(l.filter λm=>decide (m.1=s)).map mk:=by rw [List.filter_map];rfl
theorem MJ {side:Int}{name:Str}{g:Gm}(hz:(shG side name g [] []).2.length<=64):cnt ((mvG (shG side name g [] []).1).map mk) side=(dks (ksG side name g [])).length/\wds ((mvG (shG side name g [] []).1).map mk) side=((dks (ksG side name g [])).map (·.2)).sum:=by
 obtain ⟨a,b⟩:=uw ((mvG (shG side name g [] []).1).map mk) side;rw [pH,Ht side name g [] [] (shG side name g [] []).2 [] (by simp),List.map_map] at a b;have hm:∀k∈(ksG side name g []).map (·.1),k∈(shG side name g [] []).2:=λk hk=>by rw [Gz];exact Ny.mpr hk
 have e:=LC (λk:Ky=>(side,sN ((shG side name g [] []).2.idxOf k))) (ksG side name g []) λx hx y hy h=>by
  have h1:sN ((shG side name g [] []).2.idxOf x)=sN ((shG side name g [] []).2.idxOf y):=congrArg Prod.snd h;have lx:=List.idxOf_lt_length_of_mem (hm x hx);have ly:=List.idxOf_lt_length_of_mem (hm y hy)
  have:=JX ⟨(shG side name g [] []).2.idxOf x,by omega⟩ ⟨(shG side name g [] []).2.idxOf y,by omega⟩ h1
  exact Mp (hm x hx) (hm y hy) (congrArg Fin.val this)
 have e':dks ((ksG side name g []).map (mk ∘ λk=>(side,sN ((shG side name g [] []).2.idxOf k.1),k.2)))=(dks (ksG side name g [])).map λk=>((side,sN ((shG side name g [] []).2.idxOf k.1)),k.2):=e;rw [e'] at a b;rw [List.length_map] at a;rw [List.map_map] at b;exact ⟨a,b⟩
theorem Ek {side s':Int}(hs:s'≠side)(name:Str)(g:Gm):cnt ((mvG (shG side name g [] []).1).map mk) s'=cnt ((mvG g).map mk) s'/\wds ((mvG (shG side name g [] []).1).map mk) s'=wds ((mvG g).map mk) s':=by
 obtain ⟨a,b⟩:=uw ((mvG (shG side name g [] []).1).map mk) s';obtain ⟨c,d⟩:=uw ((mvG g).map mk) s';rw [pH,xV side name hs] at a b;rw [pH] at c d;exact ⟨a.trans c.symm,b.trans d.symm⟩
mutual
theorem uo (side:Int)(name:Str):∀(g:Gm) (kn:List Kn) (fr:Fr),dp (shG side name g kn fr).1=dp g/\szG (shG side name g kn fr).1=szG g/\(dH g->dH (shG side name g kn fr).1)/\(sdG g->sdG (shG side name g kn fr).1)
 | .fin d,kn,fr=>by simp [shG]
 | .deal n ws,kn,fr=>by
  obtain ⟨a,b,c,d⟩:=ni side name ws (λi _=>if n=name then kn++[.num i] else kn) 0 fr;have l:=lq side name ws (λi _=>if n=name then kn++[.num i] else kn) 0 fr;simp only [shG,dp,szG,dH,sdG];exact ⟨by rw [a],by rw [b],λh=>⟨by rw [l];exact h.1,c h.2⟩,d⟩
 | .move s n ws,kn,fr=>by
  by_cases h:s=side
  ·obtain ⟨a,b,c,d⟩:=ni side name ws (λ_ l=>kn++[.pr n (wordOf l)]) 0 (ins fr (n,kn));have l:=lq side name ws (λ_ l=>kn++[.pr n (wordOf l)]) 0 (ins fr (n,kn));simp only [shG,if_pos h,dp,szG,dH,sdG];exact ⟨by rw [a],by rw [b],λh=>⟨by rw [l];exact h.1,c h.2⟩,λh=>⟨h.1,d h.2⟩⟩
  ·obtain ⟨a,b,c,d⟩:=ni side name ws (λ_ _=>kn) 0 fr;have l:=lq side name ws (λ_ _=>kn) 0 fr;simp only [shG,if_neg h,dp,szG,dH,sdG];exact ⟨by rw [a],by rw [b],λh=>⟨by rw [l];exact h.1,c h.2⟩,λh=>⟨h.1,d h.2⟩⟩
theorem ni (side:Int)(name:Str):∀(ws:Ws) (f:Nat->D->List Kn) (i:Nat) (fr:Fr),dpW (shW side name f i ws fr).1=dpW ws/\szW (shW side name f i ws fr).1=szW ws/\(iu ws->iu (shW side name f i ws fr).1)/\(sdW ws->sdW (shW side name f i ws fr).1)
 | .nil,f,i,fr=>by simp [shW]
 | .cons l g r,f,i,fr=>by
  obtain ⟨a,b,c,d⟩:=uo side name g (f i l) fr;obtain ⟨a',b',c',d'⟩:=ni side name r f (i+1) (shG side name g (f i l) fr).2;simp only [shW,dpW,szW,iu,sdW];exact ⟨by rw [a,a'],by rw [b,b'],λh=>⟨c h.1,c' h.2⟩,λh=>⟨d h.1,d' h.2⟩⟩
end
mutual
theorem Gv:∀g:Gm,(mvG g).length<=szG g
 | .fin d=>by simp [mvG]
 | .deal n ws=>by have:=wK ws;simp only [mvG,szG];omega
 | .move s n ws=>by have:=wK ws;simp only [mvG,szG,List.length_cons];omega
theorem wK:∀ws:Ws,(mvW ws).length<=szW ws
 | .nil=>by simp [mvW]
 | .cons l g r=>by have:=Gv g;have:=wK r;simp only [mvW,szW,List.length_append];omega
end
theorem Ih (g:Gm):(tb g).length<=szG g:=by
 have e:=congrArg List.length (Oj g);rw [List.length_map,List.length_map] at e;have h1:=HS ((mvG g).map mk) [];have h2:=Gv g;rw [List.length_map,List.length_nil] at h1;have e':(tb g).length=(((mvG g).map mk).foldl dk []).length:=e;omega
open L2 (atI ixN Key)
def prs:Nat->Fr->List D
 |_,[]=>[]
 |i,k::r=>.tup [.str (sN i),.str k.1]::prs (i+1) r
theorem SQ (k:Ky):gIx (tupK (kyK k)) (.int 0)=some (.str k.1):=rfl
theorem rY:∀(fr:Fr) (i:Nat),dU (iW 2 (bz (hName 0) (bz (hName 1) iY))) iy jG [.un,.un] (jB (fr.map kyK) (nmL i fr))=.ok (prs i fr)
 |[],i=>rfl
 |k::r,i=>by
  have ih:=rY r (i+1);have z2:(2:Nat)<=16777216:=by decide
  have e:jG [.fz (tupK (kyK k)),.fz (.str (sN i))]=.ok (.tup [.str (sN i),.str k.1]):=by
   have q:=SQ k;generalize tupK (kyK k)=t at q;simp [jG,aY,aj,aG,aC,aq,fC,q,aB,z2]
  show dU (iW 2 (bz (hName 0) (bz (hName 1) iY))) iy jG [.un,.un] (.tup [tupK (kyK k),.str (sN i)]::jB (r.map kyK) (nmL (i+1) r))=_;have h1:iW 2 (bz (hName 0) (bz (hName 1) iY)) (.tup [tupK (kyK k),.str (sN i)]) [.un,.un]=some [.fz (tupK (kyK k)),.fz (.str (sN i))]:=rfl;unfold dU;rw [h1];simp only [iy,e,ih,prs]
theorem Ng:∀(i:Nat) (fr:Fr),(prs i fr).length=fr.length
 |_,[]=>rfl
 |i,_::r=>congrArg (· + 1) (Ng (i+1) r)
def prL:Nat->Fr->List (D×D)
 |_,[]=>[]
 |i,k::r=>(.str (sN i),.str k.1)::prL (i+1) r
theorem BJ:∀(i:Nat) (fr:Fr),DX (prs i fr)=some (prL i fr)
 |_,[]=>rfl
 |i,k::r=>by
  show (DX (prs (i+1) r)).map ((D.str (sN i),D.str k.1)::·)=_;rw [BJ (i+1) r];rfl
theorem BX:∀(fr:Fr) (i:Nat) (ks:List Key) (ds:List D),ks=(List.range i).map (λj=>Sum.inr (sN j))->i+fr.length<=65->∃vs,wW ks ds (prL i fr)=some ((List.range (i+fr.length)).map (λj=>Sum.inr (sN j)),vs)
 |[],i,ks,ds,e,_=>⟨ds,by rw [e];rfl⟩
 |k::r,i,ks,ds,e,h=>by
  have h':i+(r.length+1)<=65:=h;have hn:ks.any (λx=>decide (x=Sum.inr (sN i)))=false:=by
   rw [List.any_eq_false];intro x hx;rw [e] at hx;obtain ⟨j,hj,rfl⟩:=List.mem_map.mp hx;have lj:=List.mem_range.mp hj;simp only [decide_eq_true_eq];intro z
   have:=JX ⟨j,by omega⟩ ⟨i,by omega⟩ (Sum.inr.inj z)
   have:=congrArg Fin.val this
   simp only at this;omega
  have hp:putD ks ds (Sum.inr (sN i)) (.str k.1)=(ks++[Sum.inr (sN i)],ds++[.str k.1]):=by
   unfold putD;rw [hn];rfl
  obtain ⟨vs,ih⟩:=BX r (i+1) (ks++[Sum.inr (sN i)]) (ds++[.str k.1]) (by rw [e,List.range_succ,List.map_append];rfl) (by omega);refine ⟨vs,?_⟩;show (HY (.str (sN i))).bind (λk'=>wW (putD ks ds k' (.str k.1)).1 (putD ks ds k' (.str k.1)).2 (prL (i+1) r))=_;show wW (putD ks ds (Sum.inr (sN i)) (.str k.1)).1 (putD ks ds (Sum.inr (sN i)) (.str k.1)).2 (prL (i+1) r)=_;rw [hp]
  have:i+(k::r).length=i+1+r.length:=by simp;omega
  rw [this];exact ih
theorem Mz {fr:Fr}(h:fr.length<=64):∃ks vs,xJ [.lst (prs 0 fr)]=some (.dct ks vs)/\ks.length=fr.length:=by
 obtain ⟨vs,e⟩:=BX fr 0 [] [] rfl (by omega);refine ⟨(List.range (0+fr.length)).map (λj=>Sum.inr (sN j)),vs,?_,?_⟩
 ·show (DX (prs 0 fr)).bind (λl=>(wW [] [] l).map λr=>D.dct r.1 r.2)=_;rw [BJ];show (wW [] [] (prL 0 fr)).map (λr=>D.dct r.1 r.2)=_;rw [e];rfl
 ·simp
structure Sm (g:Gm):Prop where
 len:dH g
 lb:lbG g
 sd:sdG g
 dp:dp g<=7
 sz:szG g<=64
section
variable {g:Gm}{side:Int}{name:Str}
theorem Je (h:Sm g):(shG side name g [] []).2.length<=64:=by
 have:=vX side name g [] []
 have:=h.sz
 simp at *;omega
theorem Gh {R:Zf}{Φ:List D->D->Res (D×D)}{L:Zl}{d r:D}{ks:List (List Kt)}{vs:List D}{kk:List Key}{kv:List D}{b:Bool}{ps:List D}
  (e1:Φ [d,.int side,.str name,.tup []] (.dcu [] [])=.ok (r,.dcu ks vs)) (e2:R [r]=.ok (b,.non)) (e3:L [.fz d,.fz (.int side),.fz (.str name),.fz (.dcf ks vs),.fz r]=.ok (.lst ps)) (e4:xJ [.lst ps]=some (.dct kk kv)):
  bB 5 3 (kO R Φ L) [d,.int side,.str name]=.ok (false,.tup [r,.dct kk kv]):=by
 have z2:(2:Nat)<=16777216:=by decide
 simp [bB,kO,aO,jt,vO,qF,uX,Ey,aj,aG,aY,aB,e1,Js,gEx,fFn,e2,La,cD,Me.let,Sl.let,aM,e3,e4,z2]
theorem Iu {R:Zf}{Φ:List D->D->Res (D×D)}{L:Zl}{d r:D}{ks:List (List Kt)}{vs:List D}{c:Str}
  (e1:Φ [d,.int side,.str name,.tup []] (.dcu [] [])=.ok (r,.dcu ks vs)) (e2:R [r]=.exc c):
  bB 5 3 (kO R Φ L) [d,.int side,.str name]=.exc c:=by
 simp [bB,kO,aO,jt,vO,qF,uX,Ey,aj,aG,aY,aB,e1,Js,gEx,fFn,e2]
def Fits (side:Int)(name:Str)(g:Gm):Prop:=((dks (ksG side name g [])).length<=8/\((dks (ksG side name g [])).map (·.2)).sum<=24)/\(cnt ((mvG g).map mk) (3-side)<=8/\wds ((mvG g).map mk) (3-side)<=24)
theorem yc (h:Sm g)(hs:side=1\/side=2):(okT (tb (shG side name g [] []).1) 1/\okT (tb (shG side name g [] []).1) 2)↔Fits side name g:=by
 obtain ⟨a,b⟩:=MJ (side:=side) (name:=name) (g:=g) (Je h);obtain ⟨c,d⟩:=Ek (side:=side) (s':=3-side) (by omega) name g;have e1:=Cu (shG side name g [] []).1 side;have e2:=Cu (shG side name g [] []).1 (3-side);rw [a,b] at e1;rw [c,d] at e2;unfold Fits;rw [← e1,← e2];rcases hs with rfl | rfl
 ·exact Iff.rfl
 ·exact And.comm
theorem m8 (h:Sm g)(hs:side=1\/side=2)(hf:Fits side name g):∃r ks vs,bH [dG g,.int side,.str name]=.ok (false,.tup [r,.dct ks vs])/\ks.length=(dks (ksG side name g [])).length:=by
 obtain ⟨s1,s2,s3,s4⟩:=uo side name g [] [];have hz:=h.sz;have hd:=h.dp;have e1:=yI side name 8 g (by omega) h.len h.lb [] [] (by simp;omega) (by simp;omega);have e2:=RZ (s3 h.len) (s4 h.sd) (by omega) (by omega) (Nat.le_trans (Ih _) (by omega)) ((yc h hs).mpr hf);obtain ⟨ks,vs,e4,e5⟩:=Mz (Je (side:=side) (name:=name) h);have e3:oA [.fz (dG g),.fz (.int side),.fz (.str name),.fz (.dcf ((shG side name g [] []).2.map kyK) (nmL 0 (shG side name g [] []).2)),.fz (dG (shG side name g [] []).1)]=.ok (.lst (prs 0 (shG side name g [] []).2)):=by
  have q:=rY (shG side name g [] []).2 0;have il:(jB ((shG side name g [] []).2.map kyK) (nmL 0 (shG side name g [] []).2)).length<=16777216:=by
   rw [oh (by rw [List.length_map,JT]),List.length_map];exact Nat.le_trans (Je h) (by decide)
  simp [oA,dB,Q3,aG,il,cMe,q]
 refine ⟨_,ks,vs,Gh e1 e2 e3 e4,?_⟩;rw [e5,Gz,List.length_map]
theorem zU (h:Sm g)(hs:side=1\/side=2)(hf:¬Fits side name g):bH [dG g,.int side,.str name]=.exc "TooGreat":=by
 obtain ⟨s1,s2,s3,s4⟩:=uo side name g [] [];have hz:=h.sz;have hd:=h.dp;have e1:=yI side name 8 g (by omega) h.len h.lb [] [] (by simp;omega) (by simp;omega);have e2:=Ld (s3 h.len) (s4 h.sd) (by omega) (by omega) (Nat.le_trans (Ih _) (by omega)) (λz=>hf ((yc h hs).mp z));exact Iu e1 e2
end
open L2 (atI ixN Key)
theorem Gk:sJ [d8,fK,c7,d7,fV,gO,dh,fW,fL,fP] "TooGreat" = some false:=by
 simp [sJ,d8,fK,c7,d7,fV,gO,dh,fW,fL,fP]
theorem Bx {a b c:Addr}{Θ:Zf}{g s n:D}(ht:tb2 a b bH gn c=some Θ)(e:Θ [g,s,n]=.exc "TooGreat"):cJ a b [.adr c,g,s,n]=.ok (false,.bl true):=by
 have h1:gZ 0 (tb2 a b bH gn) (aj (aG 1) (aj (aG 2) (aj (aG 3) aB))) [.fz (.adr c),.fz g,.fz s,.fz n,.fz .non,.un]=.exc "TooGreat":=by
  simp [gZ,ht,aj,aG,aB,e]
 have h2:uR 5 bY (gZ 0 (tb2 a b bH gn) (aj (aG 1) (aj (aG 2) (aj (aG 3) aB)))) (bL 4 (aG 5)) [.fz (.adr c),.fz g,.fz s,.fz n,.fz .non,.un]=.ok (.nx,[.fz (.adr c),.fz g,.fz s,.fz n,.fz (.exc "TooGreat"),.un]):=by
  simp [uR,h1,bY,bL,aG]
 have i1:fZ "TooGreat" = some true:=by simp [fZ]
 have i2:dW "TooGreat" = some true:=by simp [dW]
 have i3:=Gk;unfold cJ gR g8;generalize uR 5 bY (gZ 0 (tb2 a b bH gn) (aj (aG 1) (aj (aG 2) (aj (aG 3) aB)))) (bL 4 (aG 5))=T at h2;generalize sJ [d8,fK,c7,d7,fV,gO,dh,fW,fL,fP]=U at i3;simp [bB,aO,bL,fC,h2,gIf,fTv,zZ,aq,i3,gNx,cD,Me.let,Sl.let,Mt,i1,De,i2]
theorem QR {a b c:Addr}{Θ:Zf}{g s n:D}{r:Bool×D}(ht:tb2 a b bH gn c=some Θ)(e:Θ [g,s,n]=.ok r):cJ a b [.adr c,g,s,n]=.ok (false,.bl false):=by
 have h1:gZ 0 (tb2 a b bH gn) (aj (aG 1) (aj (aG 2) (aj (aG 3) aB))) [.fz (.adr c),.fz g,.fz s,.fz n,.fz .non,.un]=.ok (.nx,[.fz (.adr c),.fz g,.fz s,.fz n,.fz .non,.un]):=by
  simp [gZ,ht,aj,aG,aB,e]
 have h2:uR 5 bY (gZ 0 (tb2 a b bH gn) (aj (aG 1) (aj (aG 2) (aj (aG 3) aB)))) (bL 4 (aG 5)) [.fz (.adr c),.fz g,.fz s,.fz n,.fz .non,.un]=.ok (.nx,[.fz (.adr c),.fz g,.fz s,.fz n,.fz .non,.un]):=by
  simp [uR,h1]
 unfold cJ gR g8;generalize uR 5 bY (gZ 0 (tb2 a b bH gn) (aj (aG 1) (aj (aG 2) (aj (aG 3) aB)))) (bL 4 (aG 5))=T at h2;generalize sJ [d8,fK,c7,d7,fV,gO,dh,fW,fL,fP]=U;simp [bB,aO,bL,fC,h2,gIf,fTv,zZ,aq,gNx,cD,Me.let,Sl.let,Mt]
theorem Kh {g s n:D}(e:bH [g,s,n]=.exc "TooGreat"):gn [g,s,n]=.exc "TooGreat":=by
 simp [gn,zE,zj,bB,aO,bL,aC,fFn,aj,aB,aG,e]
theorem Dd (a b:Addr):tb2 a b bH gn a=some bH:=if_pos rfl
theorem Nx {a b:Addr}(h:a≠b):tb2 a b bH gn b=some gn:=by
 unfold tb2;rw [if_neg (λz=>h z.symm),if_pos rfl]
end K56
namespace Lw
open PySem L2 Hd F Pk
section
end
end Lw
namespace Pk
open PySem L2 Hd F
end Pk
namespace Lw
open PySem L2 Hd F Pk
section
variable {e:En}{A:Addr×Addr}{a r dep:Nat}{N:Nd}{m:Int×Int}{rc:Rc}
end
section
variable {e:En}{A:Addr×Addr}{a r dep:Nat}{N:Nd}{m:Int×Int}{rc:Rc}{x y:Int}
end
def ss:List Nat:=[97,98,99,100,101,102,103,104,105,106,107,108,109,110,111,112,113,114,115,116,117,118,119,120,121,122,48,49,50,51,52,53,54,55,56,57]
theorem RD:Str.ofString "abcdefghijklmnopqrstuvwxyz0123456789" = tx ss:=by decide +kernel
theorem Tq:ss.Nodup:=by decide
def sgn (i:Int):Nat:=ss.getD i.toNat 0
theorem Uv (h:0<=i/\i<36):sgn i∈ss:=by
 have hl:i.toNat<ss.length:=by show i.toNat<36;omega
 unfold sgn;rw [List.getD_eq_getElem?_getD,List.getElem?_eq_getElem hl];exact List.getElem_mem hl
theorem CK (h:0<=i/\i<36)(h':0<=j/\j<36)(e:sgn i=sgn j):i=j:=by
 have hl:i.toNat<ss.length:=by show i.toNat<36;omega
 have hl':j.toNat<ss.length:=by show j.toNat<36;omega
 unfold sgn at e;rw [List.getD_eq_getElem?_getD,List.getElem?_eq_getElem hl,List.getD_eq_getElem?_getD,List.getElem?_eq_getElem hl'] at e
 have:=(List.getElem_inj (h₀:=hl) (h₁:=hl') Tq).mp e
 omega
theorem Ov (h:0<=i/\i<36):gIx (.str "abcdefghijklmnopqrstuvwxyz0123456789") (.int i)=some (.str (tx [sgn i])):=by
 show gIx (.str (Str.ofString "abcdefghijklmnopqrstuvwxyz0123456789")) _=_;rw [RD];have hl:i.toNat<ss.length:=by show i.toNat<36;omega
 have e:atI ss i=some (sgn i):=by
  have:=Bc (xs:=ss) (j:=i.toNat) (List.getElem?_eq_getElem hl)
  rw [show ((i.toNat:Nat):Int)=i by omega] at this;rw [this];unfold sgn;rw [List.getD_eq_getElem?_getD,List.getElem?_eq_getElem hl];rfl
 show (if (tx ss).length<=sizeLine then (atI (tx ss).cps.toList i).map λc=>D.str ⟨#[c]⟩ else none)=_;rw [if_pos (by rw [zb];decide),M4,e];rfl
end Lw
namespace K56
open PySem L2 Hd F Pk
open L2 (atI ixN Key)
open Lw (sgn Ov CK)
theorem bqS {i:Int}(h1:-1000000000000000000000000000000<=i)(h2:i<=1000000000000000000000000000000):Bq i:=by
 have e:(2:Nat) ^ 100=1267650600228229401496703205376:=by decide
 exact Pk.T8 (k:=100) (by rw [e];omega)
theorem bgT {i:Int}(h1:-1000000000000000000000000000000<=i)(h2:i<=1000000000000000000000000000000):Bg i:=SN (bqS h1 h2)
theorem jV {a b:Int}(hb:0<b):lX (.int a) (.int b)=some (.int (a % b)):=by
 have:¬b=0:=by omega
 simp [lX,mdI,this,hb]
theorem qL {a b:Int}(hb:0<b)(h2:b<=1000000):t8 (.int a) (.int b)=some (.int (a / b)):=by
 have h3:¬b=0:=by omega
 have h4:=bqS (i:=b) (by omega) (by omega);simp [t8,dvI,hb,h3,h4]
theorem t7 {a b:Int}(h1:-1000000000000000000000000000000<=a)(h2:a<=1000000000000000000000000000000)(h3:-1000000000000000000000000000000<=b)(h4:b<=1000000000000000000000000000000):rZ (.int a) (.int b)=some (.int (a*b)):=by
 simp [rZ,bgT h1 h2,bgT h3 h4]
def lg (x:Int):Int:=1+x % 8
def at_ (x:Int):Int:=x / 8 % lg x
def nmI (x k:Int)(j:Nat):Int:=(x / ((j:Int)*j+64)+j+(7+k)*(if (j:Int)=at_ x then 1 else 0)) % 36
def nmS (x k:Int):List Nat:=(List.range (lg x).toNat).map λj=>sgn (nmI x k j)
def nm (x k:Int):Str:=tx (nmS x k)
theorem Ge {x k:Int}{l:Int}{acc:List Nat}{j:Nat}(hk:0<=k/\k<=100)(hj:j<=8)(ha:acc.length<=100):
  iR [.fz (.int x),.fz (.int k),.fz (.str "abcdefghijklmnopqrstuvwxyz0123456789"),.fz (.int l),.fz (.int (at_ x)),.fz (.str (tx acc)),.fz (.int (j:Int))] =
   .ok (.nx,[.fz (.int x),.fz (.int k),.fz (.str "abcdefghijklmnopqrstuvwxyz0123456789"),.fz (.int l),.fz (.int (at_ x)),.fz (.str (tx (acc++[sgn (nmI x k j)]))),.fz (.int (j:Int))]):=by
 have b1:0<=nmI x k j/\nmI x k j<36:=by unfold nmI;omega
 have e1:=Ov b1;have e2:=t7 (a:=(j:Int)) (b:=(j:Int)) (by omega) (by omega) (by omega) (by omega);have jj:(j:Int)*j<=64:=by
  have:(j:Int)*j<=8*8:=Int.mul_le_mul (by omega) (by omega) (by omega) (by omega)
  omega
 have j0:0<=(j:Int)*j:=Int.mul_nonneg (by omega) (by omega);have e3:=qL (a:=x) (b:=(j:Int)*j+64) (by omega) (by omega);have e4:uh [.bl (decide ((j:Int)=at_ x))]=some (.int (if (j:Int)=at_ x then 1 else 0)):=by simp [uh]
 have e5:=t7 (a:=7+k) (b:=if (j:Int)=at_ x then 1 else 0) (by omega) (by omega) (by split<;>omega) (by split<;>omega);have e6:=jV (a:=x / ((j:Int)*j+64)+j+(7+k)*(if (j:Int)=at_ x then 1 else 0)) (b:=36) (by decide);have e6':(x / ((j:Int)*j+64)+j+(7+k)*(if (j:Int)=at_ x then 1 else 0)) % 36=nmI x k j:=rfl;rw [e6'] at e6;have a1:∀a b:Int,bM (.int a) (.int b)=some (.int (a+b)):=λ_ _=>rfl;have e7:bM (.str (tx acc)) (.str (tx [sgn (nmI x k j)]))=some (.str (tx (acc++[sgn (nmI x k j)]))):=by
  show (if (tx acc).length+(tx [sgn (nmI x k j)]).length<=sizeLine then some (D.str (tx acc++tx [sgn (nmI x k j)])) else none)=_;rw [if_pos,RQ];rw [zb,zb];have z:sizeLine=16777216:=rfl
  simp
  omega
 have e8:gEq (.int (j:Int)) (.int (at_ x))=some (decide ((j:Int)=at_ x)):=rfl;generalize (if (j:Int)=at_ x then (1:Int) else 0)=ii at *;generalize decide ((j:Int)=at_ x)=bb at *;generalize nmI x k j=nj at *;generalize at_ x=ax at *;generalize D.str "abcdefghijklmnopqrstuvwxyz0123456789" = Z at *;simp only [iR,bL,aC,aq,fC,aM,aj,aB,pK];simp [e1,e2,a1,e3,e4,e5,e6,e7,e8]
theorem vM {x k l:Int}(hk:0<=k/\k<=100):∀(c i:Nat) (acc:List Nat) (s6:Sl),i+c<=8->acc.length+c<=100->∃s6':Sl,
  bZ (hName 6) iR ((List.range' i c).map λ(j:Nat)=>D.int j) [.fz (.int x),.fz (.int k),.fz (.str "abcdefghijklmnopqrstuvwxyz0123456789"),.fz (.int l),.fz (.int (at_ x)),.fz (.str (tx acc)),s6] =
   .ok (.nx,[.fz (.int x),.fz (.int k),.fz (.str "abcdefghijklmnopqrstuvwxyz0123456789"),.fz (.int l),.fz (.int (at_ x)),.fz (.str (tx (acc++(List.range' i c).map λj=>sgn (nmI x k j)))),s6'])
 |0,i,acc,s6,_,_=>⟨s6,by simp [bZ]⟩
 |c+1,i,acc,s6,h1,h2=>by
  have st:=Ge (x:=x) (k:=k) (l:=l) (acc:=acc) (j:=i) hk (by omega) (by omega);obtain ⟨s6',e⟩:=vM hk c (i+1) (acc++[sgn (nmI x k i)]) (.fz (.int (i:Int))) (by omega) (by simp;omega);refine ⟨s6',?_⟩;rw [List.range'_succ,List.map_cons,dZ (m1:=[.fz (.int x),.fz (.int k),.fz (.str "abcdefghijklmnopqrstuvwxyz0123456789"),.fz (.int l),.fz (.int (at_ x)),.fz (.str (tx acc)),.fz (.int (i:Int))]) rfl st,e]
  simp
theorem Qe:Str.ofString "" = tx []:=by decide +kernel
theorem JW {L:Zg}{x k:Int}{w:Str}{s6:Sl}(e:L [.fz (.int x),.fz (.int k),.fz (.str "abcdefghijklmnopqrstuvwxyz0123456789"),.fz (.int (lg x)),.fz (.int (at_ x)),.fz (.str ""),.un]=.ok (.nx,[.fz (.int x),.fz (.int k),.fz (.str "abcdefghijklmnopqrstuvwxyz0123456789"),.fz (.int (lg x)),.fz (.int (at_ x)),.fz (.str w),s6])):
  bB 7 2 (jL L) [.int x,.int k]=.ok (false,.str w):=by
 have e1:=jV (a:=x) (b:=8) (by decide);have e2:bM (.int 1) (.int (x % 8))=some (.int (lg x)):=rfl;have e3:=qL (a:=x) (b:=8) (by decide) (by decide);have e4:lX (.int (x / 8)) (.int (lg x))=some (.int (at_ x)):=jV (by unfold lg;omega);unfold bB jL;generalize lg x=lx at *;generalize at_ x=ax at *;generalize D.str "abcdefghijklmnopqrstuvwxyz0123456789" = Z at *;generalize D.str "" = Z0 at *;simp [aO,bL,fC,aC,aq,e1,e2,e3,e4,e,cD,Me.let,Sl.let,aG]
theorem Cq {x k:Int}(hk:0<=k/\k<=100):gJ [.int x,.int k]=.ok (false,.str (nm x k)):=by
 have l1:1<=lg x/\lg x<=8:=by unfold lg;omega
 obtain ⟨s6,e⟩:=vM (x:=x) (k:=k) (l:=lg x) hk (lg x).toNat 0 [] .un (by omega) (by simp;omega);refine JW (w:=nm x k) (s6:=s6) ?_;have hi:jn (aj (aq 3) aB) [.fz (.int x),.fz (.int k),.fz (.str "abcdefghijklmnopqrstuvwxyz0123456789"),.fz (.int (lg x)),.fz (.int (at_ x)),.fz (.str ""),.un]=.ok ((List.range (lg x).toNat).map λ(j:Nat)=>D.int j):=by
  have q:-(2 ^ 62)<=lg x/\lg x<2 ^ 62:=by omega
  simp only [jn,aj,aq,aB];simp [q];omega
 unfold nC pI;rw [hi,List.range_eq_range'];rw [show (D.str "" : D)=.str (tx []) from congrArg D.str Qe];refine Eq.trans e ?_;simp [nm,nmS,List.range_eq_range']
theorem Dp {x k l:Int}(hk:0<=k/\k<=20)(hl:0<=l/\l<=20)(h:nm x k=nm x l):k=l:=by
 have e:nmS x k=nmS x l:=Qd.mp h;have l1:1<=lg x/\lg x<=8:=by unfold lg;omega
 have a1:0<=at_ x/\at_ x<lg x:=by unfold at_;exact ⟨Int.emod_nonneg _ (by omega),Int.emod_lt_of_pos _ (by omega)⟩
 have g:∀k,(nmS x k)[(at_ x).toNat]? = some (sgn (nmI x k (at_ x).toNat)):=λk=>by
  unfold nmS;rw [List.getElem?_map,List.getElem?_range (by omega)];rfl
 have e2:sgn (nmI x k (at_ x).toNat)=sgn (nmI x l (at_ x).toNat):=by
  have:=g k
  rw [e,g l] at this;exact (Option.some.inj this).symm
 have e3:=CK (by unfold nmI;omega) (by unfold nmI;omega) e2;unfold nmI at e3;have t:(((at_ x).toNat:Nat):Int)=at_ x:=by omega
 rw [t,if_pos rfl] at e3;omega
open L2 (atI ixN Key)
def wsE (q:Q2):List Str->Ws
 |[]=>.nil
 |w::r=>.cons (.str w) (.fin q) (wsE q r)
theorem Ax (q:Q2):∀ws:List Str,dWs (wsE q ws)=ws.map λw=>D.tup [.str w,.tup [.str "end",qD q]]
 |[]=>rfl
 |w::r=>by simp [wsE,dWs,dG,Ax q r]
def inn (s:Int)(n1 n3:Str)(ws:List Str)(c:Int):Gm:=
 .deal n1 (.cons (.tup [.int 1,.int 2]) (.move s n3 (wsE (c % 5,1) (ws.take 2))) (.cons (.tup [.int 1,.int 2]) (.move s n3 (wsE (2-c % 3,1) (ws.take 2))) .nil))
theorem Eb {ws:List Str}{c:Int}{u0 u1 u4 u5:Sl}(hw:ws.length<=100):gU [u0,u1,.fz (.lst (ws.map D.str)),.fz (.int c),u4,u5]=.ok (.lst (dWs (wsE (c % 5,1) (ws.take 2)))):=by
 have z2:(2:Nat)<=16777216:=by decide
 have e1:=jV (a:=c) (b:=5) (by decide);have ec:dU (hName 0) iy jC [.un,.fz (.int c)] ((ws.take 2).map D.str)=.ok ((ws.take 2).map λw=>D.tup [.str w,.tup [.str "end",qD (c % 5,1)]]):=gk _ λw _=>by
  refine ⟨[.fz (.str w),.fz (.int c)],rfl,rfl,?_⟩;simp [jC,aY,aj,aB,aG,fC,aC,aq,e1,z2,qD]
 have es:gSl (.lst (ws.map D.str)) none (some 2)=some (.lst ((ws.take 2).map D.str)):=by
  show some (D.lst (cut (ws.map D.str) none (some 2)))=_;rw [uB (by decide),List.map_take];rfl
 have zl:((ws.take 2).map D.str).length<=16777216:=by simp;omega
 rw [Ax];simp only [gU,dB,kW,fSl,aq,fO0,fO1,fC];generalize hA:(List.take 2 ws).map D.str=A at *;simp [es,zl,cMe,Sl.bor,ec]
theorem Fw {ws:List Str}{c:Int}{u0 u1 u4 u5:Sl}(hw:ws.length<=100):ie [u0,u1,.fz (.lst (ws.map D.str)),.fz (.int c),u4,u5]=.ok (.lst (dWs (wsE (2-c % 3,1) (ws.take 2)))):=by
 have z2:(2:Nat)<=16777216:=by decide
 have e1:=jV (a:=c) (b:=3) (by decide);have e2:o8 (.int 2) (.int (c % 3))=some (.int (2-c % 3)):=rfl;have ec:dU (hName 0) iy jH [.un,.fz (.int c)] ((ws.take 2).map D.str)=.ok ((ws.take 2).map λw=>D.tup [.str w,.tup [.str "end",qD (2-c % 3,1)]]):=gk _ λw _=>by
  refine ⟨[.fz (.str w),.fz (.int c)],rfl,rfl,?_⟩;simp [jH,aY,aj,aB,aG,fC,aC,aq,e1,e2,z2,qD]
 have es:gSl (.lst (ws.map D.str)) none (some 2)=some (.lst ((ws.take 2).map D.str)):=by
  show some (D.lst (cut (ws.map D.str) none (some 2)))=_;rw [uB (by decide),List.map_take];rfl
 have zl:((ws.take 2).map D.str).length<=16777216:=by simp;omega
 rw [Ax];simp only [ie,dB,kW,fSl,aq,fO0,fO1,fC];generalize hA:(List.take 2 ws).map D.str=A at *;simp [es,zl,cMe,Sl.bor,ec]
theorem Gg {s c:Int}{N:D}{n1 n3:Str}{ws:List Str}(hw:ws.length<=100)(h1:gIx N (.int 1)=some (.str n1))(h3:gIx N (.int 3)=some (.str n3)):gf [.int s,N,.lst (ws.map D.str),.int c]=.ok (false,dG (inn s n1 n3 ws c)):=by
 have z2:(2:Nat)<=16777216:=by decide
 have z3:(3:Nat)<=16777216:=by decide
 have z4:(4:Nat)<=16777216:=by decide
 have e1:=λu5=>Eb (c:=c) (u0:=.fz (.int s)) (u1:=.fz N) (u4:=.un) (u5:=u5) hw;have e2:=λu4 u5=>Fw (c:=c) (u0:=.fz (.int s)) (u1:=.fz N) (u4:=u4) (u5:=u5) hw;unfold gf lJ;generalize gU=A at *;generalize ie=B at *;simp only [inn,dG,dWs];generalize dWs (wsE (c % 5,1) (ws.take 2))=X at *;generalize dWs (wsE (2-c % 3,1) (ws.take 2))=Y at *;generalize ws.map D.str=W at *;simp [lB,bB,aO,bL,aY,aj,aB,fC,aG,aC,aq,h1,h3,aM,gG,e1,e2,z2,z3,z4,cD,Me.let,Sl.let]
open L2 (atI ixN Key)
structure Pt where
 c:Int
 s:Int
 n0:Str
 n1:Str
 n2:Str
 n3:Str
 w0:Str
 wr:List Str
 ws:List Str
 dp:Bool
def Pt.q (p:Pt)(k:Nat):Q2:=(p.c / 198 % 7+k,1)
def Pt.fst (p:Pt)(k:Nat):Gm:=if p.dp then inn p.s p.n1 p.n3 p.ws (p.c / 198+k) else .fin (p.q k)
def Pt.mv (p:Pt)(k:Nat):Gm:=.move p.s p.n2 (.cons (.str p.w0) (p.fst k) (wsE (p.q k) p.wr))
def Pt.wy (p:Pt)(W:Int):Nat->Nat->Ws
 |_,0=>.nil
 |i,n+1=>.cons (.tup [.int 1,.int W]) (p.mv i) (p.wy W (i+1) n)
def Pt.g0 (p:Pt)(W:Nat):Gm:=.deal p.n0 (p.wy W 0 W)
def Pt.ji (p:Pt)(W:Nat)(ah:Bool):Gm:=if ah then .move (3-p.s) p.n2 (.cons (.str p.w0) (p.g0 W) .nil) else p.g0 W
theorem Oa {p:Pt}{k:Nat}{many:Int}{u1 u2 u5 u6 u7 u9 u10:Sl}(hw:p.ws.take many.toNat=p.w0::p.wr)(hm:0<=many)(hl:p.ws.length<=100):
  gr [.fz (.int p.c),u1,u2,.fz (.int many),.fz (.lst (p.ws.map D.str)),u5,u6,u7,.fz (.int (k:Int)),u9,u10]=.ok (.lst (dWs (wsE (p.q k) (p.w0::p.wr)))):=by
 have z2:(2:Nat)<=16777216:=by decide
 have e1:=qL (a:=p.c) (b:=198) (by decide) (by decide);have e2:=jV (a:=p.c / 198) (b:=7) (by decide);have e3:bM (.int (p.c / 198 % 7)) (.int (k:Int))=some (.int (p.c / 198 % 7+k)):=rfl;have ec:dU (hName 0) iy j5 [.un,.fz (.int (k:Int)),.fz (.int p.c)] ((p.w0::p.wr).map D.str)=.ok ((p.w0::p.wr).map λw=>D.tup [.str w,.tup [.str "end",qD (p.q k)]]):=gk _ λw _=>by
  refine ⟨[.fz (.str w),.fz (.int (k:Int)),.fz (.int p.c)],rfl,rfl,?_⟩;simp [j5,aY,aj,aB,aG,fC,aC,aq,e1,e2,e3,z2,qD,Pt.q]
 have es:gSl (.lst (p.ws.map D.str)) none (some many)=some (.lst ((p.w0::p.wr).map D.str)):=by
  show some (D.lst (cut (p.ws.map D.str) none (some many)))=_;rw [uB hm,← hw,List.map_take]
 have zl:((p.w0::p.wr).map D.str).length<=16777216:=by
  rw [← hw,List.length_map,List.length_take];omega
 rw [Ax];simp only [gr,dB,kW,fSl,aq,fO0,fO1];generalize hA:(p.w0::p.wr).map D.str=A at *;simp [es,zl,cMe,Sl.bor,ec]
abbrev gS (p:Pt)(N:D)(many W:Int)(acc:List D)(x y:Sl):Me:=[.fz (.int p.c),.fz (.int p.s),.fz N,.fz (.int many),.fz (.lst (p.ws.map D.str)),.fz (.bl p.dp),.fz (.int W),.ow (.lst acc),x,y,.un]
structure Nms (N:D)(p:Pt):Prop where
 h0:gIx N (.int 0)=some (.str p.n0)
 h1:gIx N (.int 1)=some (.str p.n1)
 h2:gIx N (.int 2)=some (.str p.n2)
 h3:gIx N (.int 3)=some (.str p.n3)
structure Wok (p:Pt)(many:Int):Prop where
 hw:p.ws.take many.toNat=p.w0::p.wr
 hm:0<=many
 hl:p.ws.length<=100
theorem Wok.at {p:Pt}{many:Int}(h:Wok p many):gIx (.lst (p.ws.map D.str)) (.int 0)=some (.str p.w0):=by
 have:p.ws[0]? = some p.w0:=by
  have:=congrArg (λl:List Str=>l[0]?) h.hw
  simp only [List.getElem?_cons_zero] at this;have hm:many.toNat≠0:=λz=>by rw [z] at this;simp at this
  rw [List.getElem?_take_of_lt (by omega)] at this;exact this
 show atI (p.ws.map D.str) 0=_;exact yW (i:=0) (by rw [List.getElem?_map,this];rfl)
theorem Dy {p:Pt}{N:D}{many:Int}{W:Int}{acc:List D}{k:Nat}{y:Sl}(hN:Nms N p)(hW:Wok p many)(ha:acc.length<1000):
  ∃y',eV (gS p N many W acc (.fz (.int (k:Int))) y)=.ok (.nx,gS p N many W (acc++[.tup [.tup [.int 1,.int W],dG (p.mv k)]]) (.fz (.int (k:Int))) y'):=by
 have z2:(2:Nat)<=16777216:=by decide
 have z4:(4:Nat)<=16777216:=by decide
 have za:acc.length<16777216:=by omega
 have e7:=λu1 u2 u5 u6 u7 u9 u10=>Oa (k:=k) (u1:=u1) (u2:=u2) (u5:=u5) (u6:=u6) (u7:=u7) (u9:=u9) (u10:=u10) hW.hw hW.hm hW.hl;have h2:=hN.h2;have w0:=hW.at;by_cases hd:p.dp=true
 ·have ei:=Gg (s:=p.s) (c:=p.c / 198+k) hW.hl hN.h1 hN.h3;have e1:=qL (a:=p.c) (b:=198) (by decide) (by decide);have e3:bM (.int (p.c / 198)) (.int (k:Int))=some (.int (p.c / 198+k)):=rfl;have fm:dG (p.mv k)=.tup [.str "move",.int p.s,.str p.n2,.tup (.tup [.str p.w0,dG (inn p.s p.n1 p.n3 p.ws (p.c / 198+k))]::dWs (wsE (p.q k) p.wr))]:=by simp [Pt.mv,Pt.fst,hd,dG,dWs]
  have fe:dWs (wsE (p.q k) (p.w0::p.wr))=.tup [.str p.w0,dG (.fin (p.q k))]::dWs (wsE (p.q k) p.wr):=rfl;rw [fm];simp only [fe] at e7;refine ⟨.ow (.lst (.tup [.str p.w0,dG (inn p.s p.n1 p.n3 p.ws (p.c / 198+k))]::dWs (wsE (p.q k) p.wr))),?_⟩;simp only [gS];generalize dG (inn p.s p.n1 p.n3 p.ws (p.c / 198+k))=I at *;generalize dWs (wsE (p.q k) p.wr)=R at *;generalize dG (.fin (p.q k))=F0 at *;generalize D.lst (p.ws.map D.str)=WD at *;simp only [eV,hd];generalize gr=Q at *;generalize gf=FI at *;simp [aO,jt,e7,gIf,fTv,aG,zX,oV,aY,aj,aB,aC,aq,fC,w0,fFn,e1,e3,ei,z2,ixN,putL,jM,h2,aM,gG,z4,za]
 ·have hd':p.dp=false:=by simpa using hd
  have fm:dG (p.mv k)=.tup [.str "move",.int p.s,.str p.n2,.tup (dWs (wsE (p.q k) (p.w0::p.wr)))]:=by simp [Pt.mv,Pt.fst,hd',dG,dWs,wsE]
  rw [fm];refine ⟨.ow (.lst (dWs (wsE (p.q k) (p.w0::p.wr)))),?_⟩;simp only [gS];generalize dWs (wsE (p.q k) (p.w0::p.wr))=R at *;generalize D.lst (p.ws.map D.str)=WD at *;simp only [eV,hd'];generalize gr=Q at *;simp [aO,jt,e7,gIf,fTv,aG,gNx,jM,oV,putL,aY,aj,aB,aC,aq,fC,h2,aM,gG,z2,z4,za]
theorem vN {p:Pt}{N:D}{many:Int}{W:Int}(hN:Nms N p)(hW:Wok p many):∀(c i:Nat) (acc:List D) (x y:Sl),acc.length+c<=1000->∃x' y',
  bZ (hName 8) eV ((List.range' i c).map λ(k:Nat)=>D.int k) (gS p N many W acc x y)=.ok (.nx,gS p N many W (acc++dWs (p.wy W i c)) x' y')
 |0,i,acc,x,y,_=>⟨x,y,by simp [bZ,Pt.wy,dWs]⟩
 |c+1,i,acc,x,y,h=>by
  obtain ⟨y1,st⟩:=Dy (W:=W) (acc:=acc) (k:=i) (y:=y) hN hW (by omega);obtain ⟨x',y',e⟩:=vN hN hW c (i+1) (acc++[.tup [.tup [.int 1,.int W],dG (p.mv i)]]) (.fz (.int (i:Int))) y1 (by simp;omega);refine ⟨x',y',?_⟩;rw [List.range'_succ,List.map_cons,dZ (m1:=gS p N many W acc (.fz (.int (i:Int))) y) rfl st,e];simp [Pt.wy,dWs]
open L2 (atI ixN Key)
def wsL (c many:Int):List Str:=(List.range (if many > 2 then many else 2).toNat).map λ(k:Nat)=>nm c k
theorem tU {c many:Int}{u1 u2 u4 u5 u6 u7 u8 u9 u10:Sl}(hm:1<=many/\many<=6):iQ [.fz (.int c),u1,u2,.fz (.int many),u4,u5,u6,u7,u8,u9,u10]=.ok (.lst ((wsL c many).map D.str)):=by
 have e1:N5 [.int 2,.int many]=some (.int (if many > 2 then many else 2)):=rfl;generalize hb:(if many > 2 then many else 2)=b at e1;have hb1:0<=b/\b<=6:=by rw [← hb];split<;>omega
 have hi:jn (aj (aM N5 (aj (fC (.int 2)) (aj (aq 3) aB))) aB) [.fz (.int c),u1,u2,.fz (.int many),u4,u5,u6,u7,u8,u9,u10]=.ok ((List.range b.toNat).map λ(j:Nat)=>D.int j):=by
  have q:-(2 ^ 62)<=b/\b<2 ^ 62:=by omega
  simp only [jn,aj,aq,aB,aM,fC];simp [e1,q];omega
 have ec:dU (hName 0) iy jY [.un,.fz (.int c)] ((List.range b.toNat).map λ(j:Nat)=>D.int j)=.ok ((List.range b.toNat).map λ(j:Nat)=>D.str (nm c j)):=gk _ λj hj=>by
  have:=List.mem_range.mp hj
  have e:=Cq (x:=c) (k:=(j:Int)) (by omega);refine ⟨[.fz (.int (j:Int)),.fz (.int c)],rfl,rfl,?_⟩;simp [jY,fFn,aj,aB,aG,e]
 have zl:((List.range b.toNat).map λ(j:Nat)=>D.int j).length<=16777216:=by simp;omega
 have er:(wsL c many).map D.str=(List.range b.toNat).map λ(j:Nat)=>D.str (nm c j):=by
  unfold wsL;rw [hb,List.map_map];rfl
 rw [er];unfold iQ dB;rw [hi];simp only [Res.m5];rw [if_pos (by simpa using zl)]
 have:cMe 1 [0] [.fz (.int c),u1,u2,.fz (.int many),u4,u5,u6,u7,u8,u9,u10]=[.un,.fz (.int c)]:=rfl
 rw [this,ec]
abbrev wS (c s:Int)(N:D)(many:Int)(wd:D)(d:Bool)(w:Int):Me:=[.fz (.int c),.fz (.int s),.fz N,.fz (.int many),.fz wd,.fz (.bl d),.fz (.int w),.un,.un,.un,.un]
def un (many:Int)(d:Bool):Int:=1+many+6*(if d then 1 else 0)
theorem VP {c s many:Int}{N wd:D}{d:Bool}{w:Int}(hm:1<=many/\many<=6)(hw:0<=w/\w<=100):iI (wS c s N many wd d w)=.ok (decide (2+w*un many d > 64)):=by
 have e1:uh [.bl d]=some (.int (if d then 1 else 0)):=rfl;have e2:=t7 (a:=6) (b:=if d then 1 else 0) (by omega) (by omega) (by split<;>omega) (by split<;>omega);have e3:bM (.int 1) (.int many)=some (.int (1+many)):=rfl;have e4:bM (.int (1+many)) (.int (6*(if d then 1 else 0)))=some (.int (un many d)):=rfl;have hu:0<=un many d/\un many d<=13:=by unfold un;split<;>omega
 have e5:=t7 (a:=w) (b:=un many d) (by omega) (by omega) (by omega) (by omega);have e6:bM (.int 2) (.int (w*un many d))=some (.int (2+w*un many d)):=rfl;have e7:gGt (.int (2+w*un many d)) (.int 64)=some (decide (2+w*un many d > 64)):=rfl;generalize un many d=u at *;generalize (if d then (1:Int) else 0)=ii at *;generalize decide (2+w*u > 64)=r at *;generalize D.int (2+w*u)=z at *;generalize D.int (w*u)=z2 at *;generalize D.int (6*ii)=z3 at *;generalize D.int (1+many)=z4 at *;simp only [iI,aW,aC,fC,aq,aM,aj,aB];simp [e1,e2,e3,e4,e5,e6,e7]
theorem xU {c s many:Int}{N wd:D}{d:Bool}(hm:1<=many/\many<=6):∀w:Nat,2<=w->w<=100->∃n W:Nat,wh iI j8 n (wS c s N many wd d w)=some (.ok (.nx,wS c s N many wd d W))/\2<=W/\W<=w/\2+(W:Int)*un many d<=64
 |0,h,_=>by omega
 |w+1,h,h2=>by
  have t:=VP (c:=c) (s:=s) (N:=N) (wd:=wd) (d:=d) (w:=((w+1:Nat):Int)) hm (by omega);have hu:0<=un many d/\un many d<=13:=by unfold un;split<;>omega
  by_cases q:2+((w+1:Nat):Int)*un many d > 64
  ·have hw:2<=w:=by
    rcases Nat.lt_or_ge w 2 with z | z
    ·have:((w+1:Nat):Int)*un many d<=2*13:=Int.mul_le_mul (by omega) hu.2 hu.1 (by omega)
     omega
    ·exact z
   obtain ⟨n,W,e,a,b,c'⟩:=xU (c:=c) (s:=s) (N:=N) (wd:=wd) (d:=d) hm w hw (by omega);rw [decide_eq_true q] at t;refine ⟨n+1,W,Bj t (m':=wS c s N many wd d w) ?_ e,a,by omega,c'⟩
   have:o8 (.int ((w+1:Nat):Int)) (.int 1)=some (.int (w:Int)):=by
    show some (D.int (((w+1:Nat):Int) - 1))=_;congr 2;omega
   generalize ((w+1:Nat):Int)=w1 at *;simp [j8,bL,aC,aq,fC,this]
  ·rw [decide_eq_false q] at t;exact ⟨1,w+1,Bl t,h,Nat.le_refl _,by omega⟩
open L2 (atI ixN Key)
def mny (c:Int):Int:=1+c / 11 % 6
def dpB (c:Int):Bool:=decide (c / 66 % 3=1)
def ahB (c:Int):Bool:=decide (c / 1386 % 2=1)
theorem Hf {Q:Zl}{L5 L9:Zg}{c s:Int}{N:D}{n0 n2 w0:Str}{wd:D}{ps:List D}{W:Int}{x y:Sl}(h0:gIx N (.int 0)=some (.str n0))(h2:gIx N (.int 2)=some (.str n2))(hw:gIx wd (.int 0)=some (.str w0))
  (eQ:Q [.fz (.int c),.fz (.int s),.fz N,.fz (.int (mny c)),.un,.un,.un,.un,.un,.un,.un]=.ok wd) (e5:L5 (wS c s N (mny c) wd (dpB c) (2+c % 11))=.ok (.nx,wS c s N (mny c) wd (dpB c) W))
  (e9:L9 [.fz (.int c),.fz (.int s),.fz N,.fz (.int (mny c)),.fz wd,.fz (.bl (dpB c)),.fz (.int W),.ow (.lst []),.un,.un,.un]=.ok (.nx,[.fz (.int c),.fz (.int s),.fz N,.fz (.int (mny c)),.fz wd,.fz (.bl (dpB c)),.fz (.int W),.ow (.lst ps),x,y,.un])):
  bB 11 3 (gH Q L5 L9) [.int c,.int s,N]=.ok (false,.tup [if ahB c then .tup [.str "move",.int (3-s),.str n2,.tup [.tup [.str w0,.tup [.str "deal",.str n0,.tup ps]]]] else .tup [.str "deal",.str n0,.tup ps],.int W,.int (mny c),.bl (dpB c)]):=by
 have z1:(1:Nat)<=16777216:=by decide
 have z2:(2:Nat)<=16777216:=by decide
 have z3:(3:Nat)<=16777216:=by decide
 have z4:(4:Nat)<=16777216:=by decide
 have a1:=qL (a:=c) (b:=11) (by decide) (by decide);have a2:=jV (a:=c / 11) (b:=6) (by decide);have a3:bM (.int 1) (.int (c / 11 % 6))=some (.int (mny c)):=rfl;have b1:=qL (a:=c) (b:=66) (by decide) (by decide);have b2:=jV (a:=c / 66) (b:=3) (by decide);have b3:gEq (.int (c / 66 % 3)) (.int 1)=some (dpB c):=rfl;have d1:=jV (a:=c) (b:=11) (by decide);have d2:bM (.int 2) (.int (c % 11))=some (.int (2+c % 11)):=rfl;have f1:=qL (a:=c) (b:=1386) (by decide) (by decide);have f2:=jV (a:=c / 1386) (b:=2) (by decide);have f3:gEq (.int (c / 1386 % 2)) (.int 1)=some (ahB c):=rfl;have g1:o8 (.int 3) (.int s)=some (.int (3-s)):=rfl;generalize mny c=m at *;generalize dpB c=d at *;generalize ahB c=ah at *;simp only [wS] at e5;generalize D.int (2+c % 11)=z at *;generalize D.int (c / 1386 % 2)=y1 at *;generalize D.int (c / 66 % 3)=y2 at *;generalize D.int (c / 11 % 6)=y3 at *;generalize D.int (3-s)=y4 at *;cases ah with
 |true=>simp [bB,gH,aO,bL,aC,aq,fC,a1,a2,a3,eQ,pK,b1,b2,b3,d1,d2,e5,jt,ou,aB,e9,aY,aj,h0,aM,gG,z1,z2,z3,z4,gIf,aW,f1,f2,f3,g1,h2,hw,aG,cD,Me.let,Sl.let]
 |false=>simp [bB,gH,aO,bL,aC,aq,fC,a1,a2,a3,eQ,pK,b1,b2,b3,d1,d2,e5,jt,ou,aB,e9,aY,aj,h0,aM,gG,z1,z2,z3,z4,gIf,aW,f1,f2,f3,gNx,aG,cD,Me.let,Sl.let]
def DN (c s:Int)(n0 n1 n2 n3:Str):Pt:=⟨c,s,n0,n1,n2,n3,nm c 0,((wsL c (mny c)).take (mny c).toNat).tail,wsL c (mny c),dpB c⟩
theorem p7 (c:Int):1<=mny c/\mny c<=6:=by unfold mny;omega
theorem CZ (c:Int):2<=(wsL c (mny c)).length/\(wsL c (mny c)).length<=6/\mny c<=(wsL c (mny c)).length:=by
 have:=p7 c
 unfold wsL;simp only [List.length_map,List.length_range];split<;>omega
theorem wok (c s:Int)(n0 n1 n2 n3:Str):Wok (DN c s n0 n1 n2 n3) (mny c):=by
 have m:=p7 c;have l:=CZ c;refine ⟨?_,by omega,by show (wsL c (mny c)).length<=100;omega⟩;show (wsL c (mny c)).take (mny c).toNat=nm c 0::((wsL c (mny c)).take (mny c).toNat).tail
 have:((wsL c (mny c)).take (mny c).toNat)[0]? = some (nm c 0):=by
  rw [List.getElem?_take_of_lt (by omega)];unfold wsL;rw [List.getElem?_map,List.getElem?_range (by split<;>omega)];rfl
 cases h:(wsL c (mny c)).take (mny c).toNat with
 |nil=>rw [h] at this;simp at this
 |cons a r=>rw [h] at this;simp at this;rw [this];rfl
theorem zc:fU=bB 11 3 (gH iQ j7 iH):=rfl
theorem Qt (m:Me):iH m=(jn (aj (aq 6) aB) m).bind λds=>bZ (hName 8) eV ds m:=rfl
theorem VB {u0 u1 u2 u3 u4 u5 u7 u8 u9 u10:Sl}{W:Nat}(h:W<=100):jn (aj (aq 6) aB) [u0,u1,u2,u3,u4,u5,.fz (.int (W:Int)),u7,u8,u9,u10]=.ok ((List.range' 0 W).map λ(j:Nat)=>D.int j):=by
 have q:-(2 ^ 62)<=(W:Int)/\(W:Int)<2 ^ 62:=by omega
 have e:aj (aq 6) aB [u0,u1,u2,u3,u4,u5,.fz (.int (W:Int)),u7,u8,u9,u10]=.ok [.int (W:Int)]:=rfl;unfold jn;rw [e,Res.m5];simp only [];rw [if_pos q,List.range_eq_range',Int.toNat_natCast]
theorem Sd {p:Pt}{N:D}{many:Int}(hN:Nms N p)(hW:Wok p many){W:Nat}(h:W<=100):∃x y,iH (gS p N many W [] .un .un)=.ok (.nx,gS p N many W (dWs (p.wy W 0 W)) x y):=by
 obtain ⟨x,y,e9⟩:=vN (W:=(W:Int)) hN hW W 0 [] .un .un (by simp;omega);refine ⟨x,y,?_⟩;rw [Qt,VB h,Res.m5,e9,List.nil_append]
theorem RV (p:Pt)(W:Nat)(ah:Bool):dG (p.ji W ah)=if ah then .tup [.str "move",.int (3-p.s),.str p.n2,.tup [.tup [.str p.w0,.tup [.str "deal",.str p.n0,.tup (dWs (p.wy W 0 W))]]]] else .tup [.str "deal",.str p.n0,.tup (dWs (p.wy W 0 W))]:=by
 unfold Pt.ji;cases ah<;>rfl
theorem Gy {p:Pt}{N:D}{c:Int}(hc:p.c=c)(hd:p.dp=dpB c)(hws:p.ws=wsL c (mny c))(hN:Nms N p)(hW:Wok p (mny c)){W:Nat}(h:W<=100)(e5:j7 (wS c p.s N (mny c) (.lst (p.ws.map D.str)) (dpB c) (2+c % 11))=.ok (.nx,wS c p.s N (mny c) (.lst (p.ws.map D.str)) (dpB c) W)):
  fU [.int c,.int p.s,N]=.ok (false,.tup [dG (p.ji W (ahB c)),.int W,.int (mny c),.bl (dpB c)]):=by
 obtain ⟨x,y,e9⟩:=Sd hN hW h;have eQ:=tU (c:=c) (many:=mny c) (u1:=.fz (.int p.s)) (u2:=.fz N) (u4:=.un) (u5:=.un) (u6:=.un) (u7:=.un) (u8:=.un) (u9:=.un) (u10:=.un) (p7 c);rw [← hws] at eQ;simp only [gS,hc,hd] at e9;rw [zc,Hf (x:=x) (y:=y) hN.h0 hN.h2 hW.at eQ e5 e9,RV]
theorem Ks {c s:Int}{N:D}{n0 n1 n2 n3:Str}(hN:Nms N (DN c s n0 n1 n2 n3)):∃W:Nat,2<=W/\W<=12/\2+(W:Int)*un (mny c) (dpB c)<=64/\
  fU [.int c,.int s,N]=.ok (false,.tup [dG ((DN c s n0 n1 n2 n3).ji W (ahB c)),.int W,.int (mny c),.bl (dpB c)]):=by
 obtain ⟨n,W,e,w1,w2,w3⟩:=xU (c:=c) (s:=s) (N:=N) (wd:=.lst ((wsL c (mny c)).map D.str)) (d:=dpB c) (p7 c) (2+c % 11).toNat (by omega) (by omega);rw [show (((2+c % 11).toNat:Nat):Int)=2+c % 11 by omega] at e;exact ⟨W,w1,by omega,w3,Gy (p:=DN c s n0 n1 n2 n3) rfl rfl rfl hN (wok c s n0 n1 n2 n3) (by omega) (vy n e)⟩
open L2 (atI ixN Key)
theorem iG (q:Q2)(side:Int)(name:Str):∀ws:List Str,szW (wsE q ws)=ws.length/\cR (wsE q ws)=ws.length/\dpW (wsE q ws)=0/\lbs (wsE q ws)/\lbW (wsE q ws)/\iu (wsE q ws)/\sdW (wsE q ws)/\mvW (wsE q ws)=[]/\∀f i,ksW side name f i (wsE q ws)=[]
 |[]=>by simp [wsE,szW,cR,dpW,lbs,lbW,iu,sdW,mvW,ksW]
 |w::r=>by
  obtain ⟨a,b,c,d,e,f,g,h,i⟩:=iG q side name r;simp [wsE,szW,cR,dpW,lbs,lbW,iu,sdW,mvW,ksW,szG,dp,lbG,dH,sdG,mvG,ksG,a,b,c,d,e,f,g,h,i];omega
structure PkO (p:Pt)(many:Nat):Prop where
 s:p.s=1\/p.s=2
 wr:p.wr.length+1=many
 w2:(p.ws.take 2).length=2
 n23:p.n2≠p.n3
 n01:p.n0≠p.n1
 m6:many<=6
def dN (b:Bool):Nat:=if b then 1 else 0
section
variable {p:Pt}{many:Nat}
theorem MT (h:PkO p many)(c:Int):szG (inn p.s p.n1 p.n3 p.ws c)=7/\dp (inn p.s p.n1 p.n3 p.ws c)=2/\dH (inn p.s p.n1 p.n3 p.ws c)/\lbG (inn p.s p.n1 p.n3 p.ws c)/\sdG (inn p.s p.n1 p.n3 p.ws c)/\mvG (inn p.s p.n1 p.n3 p.ws c)=[(p.s,p.n3,2),(p.s,p.n3,2)]:=by
 obtain ⟨a1,b1,c1,d1,e1,f1,g1,h1,_⟩:=iG (c % 5,1) 1 "" (p.ws.take 2);obtain ⟨a2,b2,c2,d2,e2,f2,g2,h2,_⟩:=iG (2-c % 3,1) 1 "" (p.ws.take 2);rw [h.w2] at a1 b1 a2 b2;have hs:=h.s;simp [inn,szG,szW,dp,dpW,dH,cR,iu,lbG,lbW,sdG,sdW,mvG,mvW,a1,b1,c1,d1,e1,f1,g1,h1,a2,b2,c2,d2,e2,f2,g2,h2,hs]
theorem O8 (h:PkO p many)(c:Int)(name:Str)(kn:List Kn):ksG p.s name (inn p.s p.n1 p.n3 p.ws c) kn=[((p.n3,if p.n1=name then kn++[.num 0] else kn),2),((p.n3,if p.n1=name then kn++[.num 1] else kn),2)]:=by
 obtain ⟨a1,b1,c1,d1,e1,f1,g1,h1,i1⟩:=iG (c % 5,1) p.s name (p.ws.take 2);obtain ⟨a2,b2,c2,d2,e2,f2,g2,h2,i2⟩:=iG (2-c % 3,1) p.s name (p.ws.take 2);rw [h.w2] at b1 b2;simp [inn,ksG,ksW,b1,b2,i1,i2]
theorem Pn (c:Int){side:Int}(hs:¬p.s=side)(name:Str)(kn:List Kn):ksG side name (inn p.s p.n1 p.n3 p.ws c) kn=[]:=by
 obtain ⟨a1,b1,c1,d1,e1,f1,g1,h1,i1⟩:=iG (c % 5,1) side name (p.ws.take 2);obtain ⟨a2,b2,c2,d2,e2,f2,g2,h2,i2⟩:=iG (2-c % 3,1) side name (p.ws.take 2);simp [inn,ksG,ksW,i1,i2,hs]
theorem Ni (h:PkO p many)(k:Nat):szG (p.fst k)=1+6*dN p.dp/\dp (p.fst k)<=2/\dH (p.fst k)/\lbG (p.fst k)/\sdG (p.fst k)/\mvG (p.fst k)=if p.dp then [(p.s,p.n3,2),(p.s,p.n3,2)] else []:=by
 unfold Pt.fst dN;split
 ·obtain ⟨a,b,c,d,e,f⟩:=MT h (p.c / 198+k);exact ⟨a,by omega,c,d,e,f⟩
 ·simp [szG,dp,dH,lbG,sdG,mvG]
theorem Ry (h:PkO p many)(k:Nat):szG (p.mv k)=1+many+6*dN p.dp/\dp (p.mv k)<=3/\dH (p.mv k)/\lbG (p.mv k)/\sdG (p.mv k)/\mvG (p.mv k)=(p.s,p.n2,many)::if p.dp then [(p.s,p.n3,2),(p.s,p.n3,2)] else []:=by
 obtain ⟨a1,b1,c1,d1,e1,f1,g1,h1,_⟩:=iG (p.q k) 1 "" p.wr;obtain ⟨a,b,c,d,e,f⟩:=Ni h k;have hs:=h.s;have hw:=h.wr;have hm:=h.m6;unfold Pt.mv;simp only [szG,szW,dp,dpW,dH,cR,iu,lbG,lbs,lbW,sdG,sdW,mvG,mvW,a1,b1,c1,h1,a,f,List.append_nil,hw];exact ⟨by omega,by omega,⟨by omega,c,f1⟩,⟨⟨⟨p.w0,rfl⟩,d1⟩,d,e1⟩,⟨hs,e,g1⟩,trivial⟩
def blk (p:Pt)(many:Nat)(name:Str)(kn:List Kn):List (Ky×Nat):=((p.n2,kn),many)::if p.dp then [((p.n3,if p.n1=name then kn++[.pr p.n2 p.w0]++[.num 0] else kn++[.pr p.n2 p.w0]),2),((p.n3,if p.n1=name then kn++[.pr p.n2 p.w0]++[.num 1] else kn++[.pr p.n2 p.w0]),2)] else []
theorem S8 (h:PkO p many)(k:Nat)(name:Str)(kn:List Kn):ksG p.s name (p.mv k) kn=blk p many name kn:=by
 obtain ⟨a1,b1,c1,d1,e1,f1,g1,h1,i1⟩:=iG (p.q k) p.s name p.wr;have hw:=h.wr;have ef:ksG p.s name (p.fst k) (kn++[.pr p.n2 p.w0])=if p.dp then [((p.n3,if p.n1=name then kn++[.pr p.n2 p.w0]++[.num 0] else kn++[.pr p.n2 p.w0]),2),((p.n3,if p.n1=name then kn++[.pr p.n2 p.w0]++[.num 1] else kn++[.pr p.n2 p.w0]),2)] else []:=by
  unfold Pt.fst;split
  ·exact O8 h _ name _
  ·simp [ksG]
 unfold Pt.mv blk;simp only [ksG,ksW,cR,b1,hw,i1,List.append_nil,if_true,wordOf,ef]
theorem Tv (k:Nat){side:Int}(hs:¬p.s=side)(name:Str)(kn:List Kn):ksG side name (p.mv k) kn=[]:=by
 obtain ⟨a1,b1,c1,d1,e1,f1,g1,h1,i1⟩:=iG (p.q k) side name p.wr;have ef:ksG side name (p.fst k) kn=[]:=by
  unfold Pt.fst;split
  ·exact Pn _ hs name _
  ·simp [ksG]
 unfold Pt.mv;simp [ksG,ksW,i1,hs,ef]
def bl (p:Pt)(many:Nat)(name:Str):Nat->Nat->List (Ky×Nat)
 |_,0=>[]
 |i,c+1=>blk p many name (if p.n0=name then [.num i] else [])++bl p many name (i+1) c
def bm (p:Pt)(many:Nat):Nat->List Mv
 |0=>[]
 |c+1=>((p.s,p.n2,many)::if p.dp then [(p.s,p.n3,2),(p.s,p.n3,2)] else [])++bm p many c
theorem zG (h:PkO p many)(W:Int):∀(c i:Nat),szW (p.wy W i c)=c*(1+many+6*dN p.dp)/\cR (p.wy W i c)=c/\dpW (p.wy W i c)<=3/\iu (p.wy W i c)/\lbW (p.wy W i c)/\sdW (p.wy W i c)/\mvW (p.wy W i c)=bm p many c
 |0,i=>by simp [Pt.wy,szW,cR,dpW,iu,lbW,sdW,mvW,bm]
 |c+1,i=>by
  obtain ⟨a,b,d,e,f,g,j⟩:=zG h W c (i+1);obtain ⟨a',b',c',d',e',f'⟩:=Ry h i;simp only [Pt.wy,szW,cR,dpW,iu,lbW,sdW,mvW,bm,a,b,a',f',j];refine ⟨?_,trivial,by omega,⟨c',e⟩,⟨d',f⟩,⟨e',g⟩,trivial⟩;generalize 1+many+6*dN p.dp=u;rw [Nat.succ_mul];omega
theorem Il (h:PkO p many)(W:Int)(name:Str):∀(c i:Nat),ksW p.s name (λi _=>if p.n0=name then [.num i] else []) i (p.wy W i c)=bl p many name i c
 |0,i=>rfl
 |c+1,i=>by
  simp only [Pt.wy,ksW,bl,S8 h,Il h W name c (i+1)]
theorem Kd (W:Int){side:Int}(hs:¬p.s=side)(name:Str)(f:Nat->D->List Kn):∀(c i:Nat),ksW side name f i (p.wy W i c)=[]
 |0,i=>rfl
 |c+1,i=>by simp only [Pt.wy,ksW,Tv i hs,Kd W hs name f c (i+1),List.append_nil]
end
open L2 (atI ixN Key)
section
variable {p:Pt}{many:Nat}
theorem Lq (h:PkO p many){W:Nat}(hW:W<=12)(hz:2+W*(1+many+6*dN p.dp)<=64)(ah:Bool):Sm (p.ji W ah):=by
 obtain ⟨a,b,d,e,f,g,j⟩:=zG h (W:Int) W 0;have hs:=h.s;unfold Pt.ji Pt.g0;cases ah with
 |true=>exact ⟨by simp [dH,iu,cR,b,e];omega,by simp [lbG,lbs,lbW,f],by simp [sdG,sdW,g];omega,by simp [dp,dpW];omega,by simp only [if_true,szG,szW,a];omega⟩
 |false=>exact ⟨by simp [dH,b,e];omega,by simpa [lbG] using f,by simpa [sdG] using g,by simp [dp];omega,by simp only [Bool.false_eq_true,if_false,szG,a];omega⟩
theorem wA (h:PkO p many)(W:Nat)(ah:Bool)(name:Str):ksG p.s name (p.ji W ah) []=bl p many name 0 W:=by
 have hs:¬(3-p.s=p.s):=by have:=h.s;omega
 unfold Pt.ji Pt.g0;cases ah with
 |true=>simp [ksG,ksW,hs,Il h]
 |false=>simp [ksG,Il h]
theorem Mi (h:PkO p many)(W:Nat)(ah:Bool)(name:Str):ksG (3-p.s) name (p.ji W ah) []=if ah then [((p.n2,[]),1)] else []:=by
 have hs:¬(p.s=3-p.s):=by have:=h.s;omega
 unfold Pt.ji Pt.g0;cases ah with
 |true=>simp [ksG,ksW,cR,Kd _ hs]
 |false=>simp [ksG,Kd _ hs]
theorem Pb (p:Pt)(many:Nat):∀c,∀m∈bm p many c,m.1=p.s
 |0,m,h=>by simp [bm] at h
 |c+1,m,h=>by
  rcases List.mem_append.mp (show m∈((p.s,p.n2,many)::if p.dp then [(p.s,p.n3,2),(p.s,p.n3,2)] else [])++bm p many c from h) with e | e
  ·rcases List.mem_cons.mp e with e | e
   ·rw [e]
   ·split at e
    ·simp at e;rw [e]
    ·simp at e
  ·exact Pb p many c m e
theorem Bd (h:PkO p many)(W:Nat)(ah:Bool):mvG (p.ji W ah)=(if ah then [(3-p.s,p.n2,1)] else [])++bm p many W:=by
 obtain ⟨a,b,d,e,f,g,j⟩:=zG h (W:Int) W 0;unfold Pt.ji Pt.g0;cases ah with
 |true=>simp [mvG,mvW,cR,j]
 |false=>simp [mvG,j]
theorem sU {α β:Type}[DecidableEq α]:∀(l acc:List (α×β)),(∀k∈l,k.1∈acc.map (·.1))->l.foldl dk acc=acc
 |[],acc,_=>rfl
 |k::l,acc,h=>by
  have e:dk acc k=acc:=if_pos (h k List.mem_cons_self);rw [List.foldl_cons,e];exact sU l acc λx hx=>h x (List.mem_cons_of_mem _ hx)
theorem zQ (h:PkO p many)(W:Nat)(ah:Bool):cnt ((mvG (p.ji W ah)).map mk) (3-p.s)<=8/\wds ((mvG (p.ji W ah)).map mk) (3-p.s)<=24:=by
 obtain ⟨a,b⟩:=uw ((mvG (p.ji W ah)).map mk) (3-p.s);have hs:¬(p.s=3-p.s):=by have:=h.s;omega
 have e:(mvG (p.ji W ah)).filter (λm=>decide (m.1=3-p.s))=if ah then [(3-p.s,p.n2,1)] else []:=by
  rw [Bd h,List.filter_append]
  have:(bm p many W).filter (λm=>decide (m.1=3-p.s))=[]:=by
   rw [List.filter_eq_nil_iff];intro m hm;rw [Pb p many W m hm];simpa using hs
  rw [this];cases ah<;>simp
 rw [pH,e] at a b;rw [a,b];cases ah<;>simp [dks,dk,mk]
theorem Cy (p:Pt)(many:Nat):∀c,∀m∈(bm p many c).map mk,m.1=(p.s,p.n2)\/p.dp=true/\m.1=(p.s,p.n3)
 |0,m,h=>by simp [bm] at h
 |c+1,m,h=>by
  rw [bm,List.map_append] at h;rcases List.mem_append.mp h with e | e
  ·cases hd:p.dp<;>simp [hd,mk] at e
   ·exact .inl (by rw [e])
   ·rcases e with e | e<;>simp [e]
  ·exact Cy p many c m e
theorem JB (h:PkO p many)(W:Nat)(ah:Bool):cnt ((mvG (p.ji W ah)).map mk) p.s<=8/\wds ((mvG (p.ji W ah)).map mk) p.s<=24:=by
 obtain ⟨a,b⟩:=uw ((mvG (p.ji W ah)).map mk) p.s;have hs:¬(3-p.s=p.s):=by have:=h.s;omega
 have hm:=h.m6;have e:(mvG (p.ji W ah)).filter (λm=>decide (m.1=p.s))=bm p many W:=by
  rw [Bd h,List.filter_append]
  have:(bm p many W).filter (λm=>decide (m.1=p.s))=bm p many W:=by
   rw [List.filter_eq_self];intro m hm;simpa using Pb p many W m hm
  rw [this];cases ah<;>simp [hs]
 rw [pH,e] at a b;rw [a,b];cases W with
 |zero=>simp [bm,dks]
 |succ W=>
  have hk:=Cy p many W;have n23:=h.n23;have n32:¬p.n3=p.n2:=λz=>n23 z.symm;cases hd:p.dp with
  |false=>
   have:dks ((bm p many (W+1)).map mk)=[((p.s,p.n2),many)]:=by
    unfold dks;rw [bm,hd,List.map_append,List.foldl_append];have f:((((p.s,p.n2,many)::if false=true then [(p.s,p.n3,2),(p.s,p.n3,2)] else []).map mk).foldl dk []:List Mk)=[((p.s,p.n2),many)]:=by simp [dk,mk]
    rw [f];refine sU _ _ λk hk'=>?_;rcases hk k hk' with z | ⟨z,_⟩
    ·simp [z]
    ·rw [hd] at z;cases z
   rw [this];simp;omega
  |true=>
   have:dks ((bm p many (W+1)).map mk)=[((p.s,p.n2),many),((p.s,p.n3),2)]:=by
    unfold dks;rw [bm,hd,List.map_append,List.foldl_append];have f:((((p.s,p.n2,many)::if true=true then [(p.s,p.n3,2),(p.s,p.n3,2)] else []).map mk).foldl dk []:List Mk)=[((p.s,p.n2),many),((p.s,p.n3),2)]:=by simp [dk,mk,n32]
    rw [f];refine sU _ _ λk hk'=>?_;rcases hk k hk' with z | ⟨_,z⟩<;>simp [z]
   rw [this];simp;omega
theorem wG (p:Pt)(many:Nat){name:Str}(h0:p.n0≠name):∀c i,∀k∈bl p many name i c,k.1∈(blk p many name []).map (·.1)
 |0,i,k,h=>by simp [bl] at h
 |c+1,i,k,h=>by
  rw [bl,if_neg h0] at h;rcases List.mem_append.mp h with e | e
  ·exact List.mem_map_of_mem e
  ·exact wG p many h0 c (i+1) k e
theorem HF (h:PkO p many){name:Str}(h0:p.n0≠name)(h1:p.n1≠name)(W:Nat):(dks (bl p many name 0 (W+1))).length=1+dN p.dp/\((dks (bl p many name 0 (W+1))).map (·.2)).sum=many+2*dN p.dp:=by
 have n32:¬p.n3=p.n2:=λz=>h.n23 z.symm;have e:dks (bl p many name 0 (W+1))=(blk p many name []).foldl dk []:=by
  unfold dks;rw [bl,if_neg h0,List.foldl_append];refine sU _ _ λk hk=>?_
  have:=wG p many h0 W 1 k hk
  rw [wY];exact .inr this
 rw [e];cases hd:p.dp<;>simp [blk,hd,h1,dk,n32,dN]
theorem M9 (h:PkO p many)(W:Nat):(dks (bl p many p.n1 0 (W+1))).length=1+2*dN p.dp/\((dks (bl p many p.n1 0 (W+1))).map (·.2)).sum=many+4*dN p.dp:=by
 have n32:¬p.n3=p.n2:=λz=>h.n23 z.symm;have e:dks (bl p many p.n1 0 (W+1))=(blk p many p.n1 []).foldl dk []:=by
  unfold dks;rw [bl,if_neg h.n01,List.foldl_append];refine sU _ _ λk hk=>?_
  have:=wG p many h.n01 W 1 k hk
  rw [wY];exact .inr this
 rw [e];cases hd:p.dp<;>simp [blk,hd,dk,n32,dN]
theorem BV (h:PkO p many):∀(c i:Nat) (acc:List (Ky×Nat)),(∀k∈acc.map (·.1),∃j r,j<i/\k.2=.num j::r)->
  ((bl p many p.n0 i c).foldl dk acc).length=acc.length+c*(1+dN p.dp)/\(((bl p many p.n0 i c).foldl dk acc).map (·.2)).sum=(acc.map (·.2)).sum+c*(many+2*dN p.dp)
 |0,i,acc,_=>by simp [bl]
 |c+1,i,acc,ha=>by
  have n32:¬p.n3=p.n2:=λz=>h.n23 z.symm;have n10:¬p.n1=p.n0:=λz=>h.n01 z.symm;have no:∀n r,((n,Kn.num i::r):Ky)∉acc.map (·.1):=λn r z=>by
   obtain ⟨j,r',hj,e⟩:=ha _ z;simp only [List.cons.injEq,Kn.num.injEq] at e;omega
  have b:(blk p many p.n0 [.num i]).foldl dk acc=acc++(((p.n2,[.num i]),many)::if p.dp then [((p.n3,[.num i,.pr p.n2 p.w0]),2)] else []):=by
   have e1:dk acc ((p.n2,[.num i]),many)=acc++[((p.n2,[.num i]),many)]:=if_neg (no _ _);cases hd:p.dp with
   |false=>simp [blk,hd,e1]
   |true=>
    have e2:dk (acc++[((p.n2,[.num i]),many)]) ((p.n3,[.num i,.pr p.n2 p.w0]),2)=acc++[((p.n2,[.num i]),many)]++[((p.n3,[.num i,.pr p.n2 p.w0]),2)]:=if_neg (by
     rw [List.map_append,List.mem_append];rintro (z | z)
     ·exact no _ _ z
     ·simp at z)
    have e3:dk (acc++[((p.n2,[.num i]),many)]++[((p.n3,[.num i,.pr p.n2 p.w0]),2)]) ((p.n3,[.num i,.pr p.n2 p.w0]),2)=acc++[((p.n2,[.num i]),many)]++[((p.n3,[.num i,.pr p.n2 p.w0]),2)]:=if_pos (by simp);have eb:blk p many p.n0 [.num i]=[((p.n2,[.num i]),many),((p.n3,[.num i,.pr p.n2 p.w0]),2),((p.n3,[.num i,.pr p.n2 p.w0]),2)]:=by simp [blk,hd,n10]
    rw [eb,List.foldl_cons,List.foldl_cons,List.foldl_cons,e1,e2,e3]
    simp
  rw [bl,if_pos rfl,List.foldl_append,b];obtain ⟨r1,r2⟩:=BV h c (i+1) (acc++(((p.n2,[.num i]),many)::if p.dp then [((p.n3,[.num i,.pr p.n2 p.w0]),2)] else [])) (λk hk=>by
   rw [List.map_append] at hk;rcases List.mem_append.mp hk with z | z
   ·obtain ⟨j,r,hj,e⟩:=ha k z;exact ⟨j,r,by omega,e⟩
   ·cases hd:p.dp<;>simp [hd] at z
    ·exact ⟨i,[],by omega,by rw [z]⟩
    ·rcases z with z | z
     ·exact ⟨i,[],by omega,by rw [z]⟩
     ·exact ⟨i,[.pr p.n2 p.w0],by omega,by rw [z]⟩)
  rw [r1,r2];cases hd:p.dp<;>simp [dN,Nat.succ_mul]<;>omega
end
open L2 (atI ixN Key)
theorem cell_eq (ns:List Int)(k:Nat):∃v:Int,cu [.lst (ns.map D.int),.int (k:Int)]=.ok (false,.int v):=by
 by_cases h:k<ns.length
 ·have e1:atI (ns.map D.int) (k:Int)=some (.int ns[k]):=yW (by rw [List.getElem?_map,List.getElem?_eq_getElem h];rfl);have h':(k:Int)<(ns.length:Int):=by omega
  exact ⟨ns[k],by simp [cu,gY,gP,bB,aO,gIf,aW,aq,aM,ig,aj,aB,gLt,h,h',cD,Me.let,Sl.let,aC,gIx,e1]⟩
 ·have h':¬(k:Int)<(ns.length:Int):=by omega
  exact ⟨0,by simp [cu,gY,gP,bB,aO,gIf,aW,aq,aM,ig,aj,aB,gLt,h,h',cD,Me.let,Sl.let,gNx,fC]⟩
theorem Le:Ie (.int 10) (.int 15)=some (.int 1000000000000000):=by
 have:(10:Int) ^ 15=1000000000000000:=by decide
 simp [Ie,this]
theorem a37:bM (.int 1000000000000000) (.int 37)=some (.int 1000000000000037):=rfl
def Up (x:Int):D:=.lst [.str (nm x 0),.str (nm x 1),.str (nm x 2),.str (nm x 3),.str (nm x 4)]
theorem JC {ns:D}{c2:Int}{u1 u2 u3 u4 u5 u6 u7 u8 u9:Sl}(h2:cu [ns,.int 2]=.ok (false,.int c2)):rB [.fz ns,u1,u2,u3,u4,u5,u6,u7,u8,u9]=.ok (Up (c2 % 1000000000000037)):=by
 have hi:jn (aj (fC (.int 5)) aB) [.fz ns,u1,u2,u3,u4,u5,u6,u7,u8,u9]=.ok (([0,1,2,3,4]:List Int).map D.int):=rfl;have e1:=jV (a:=c2) (b:=1000000000000037) (by decide);have ec:dU (hName 0) iy xn [.un,.fz ns] (([0,1,2,3,4]:List Int).map D.int)=.ok (([0,1,2,3,4]:List Int).map λk=>D.str (nm (c2 % 1000000000000037) k)):=gk _ λk hk=>by
  have hk':0<=k/\k<=100:=by
   simp at hk;omega
  have e:=Cq (x:=c2 % 1000000000000037) hk';refine ⟨[.fz (.int k),.fz ns],rfl,rfl,?_⟩;simp [xn,fFn,aj,aB,aG,fC,h2,aC,Le,a37,e1,e]
 unfold rB dB;rw [hi];simp only [Res.m5];rw [if_pos (by decide)]
 have:cMe 1 [0] [.fz ns,u1,u2,u3,u4,u5,u6,u7,u8,u9]=[.un,.fz ns]:=rfl
 rw [this,ec];rfl
def iN (d:Bool):Int:=if d then 1 else 0
theorem Ay {a b:Addr}{Fk Fc Fr Fg:Zf}{Q:Zl}{ns N G r0 r4 r1 ro:D}{c0 c1 W m:Int}{d:Bool}{n0 n1 n4:Str}{k0 k4 k1 ko:List Key}{v0 v4 v1 vo:List D}
  (h0:Fc [ns,.int 0]=.ok (false,.int c0)) (h1:Fc [ns,.int 1]=.ok (false,.int c1)) (hQ:Q [.fz ns,.fz (.int (c0 % 1000000000000037)),.fz (.int (1+c1 % 2)),.un,.un,.un,.un,.un,.un,.un]=.ok N)
  (hG:Fg [.int (c0 % 1000000000000037),.int (1+c1 % 2),N]=.ok (false,.tup [G,.int W,.int m,.bl d])) (hW:0<=W/\W<=100) (hm:0<=m/\m<=100)
  (i0:gIx N (.int 0)=some (.str n0)) (i1:gIx N (.int 1)=some (.str n1)) (i4:gIx N (.int 4)=some (.str n4))
  (R1:Fr [.adr a,G,.int (1+c1 % 2),.str n0]=.ok (false,.bl (decide (W*(1+iN d) > 8) || decide (W*(m+2*iN d) > 24))))
  (R2:(decide (W*(1+iN d) > 8) || decide (W*(m+2*iN d) > 24))=true->Fr [.adr b,G,.int (1+c1 % 2),.str n0]=.ok (false,.bl true))
  (K0:(decide (W*(1+iN d) > 8) || decide (W*(m+2*iN d) > 24))=false->Fk [G,.int (1+c1 % 2),.str n0]=.ok (false,.tup [r0,.dct k0 v0])/\(k0.length:Int)=W*(1+iN d))
  (K4:Fk [G,.int (1+c1 % 2),.str n4]=.ok (false,.tup [r4,.dct k4 v4])) (l4:(k4.length:Int)=1+iN d)
  (K1:Fk [G,.int (1+c1 % 2),.str n1]=.ok (false,.tup [r1,.dct k1 v1])) (l1:(k1.length:Int)=1+2*iN d)
  (Ko:Fk [G,.int (3-(1+c1 % 2)),.str n0]=.ok (false,.tup [ro,.dct ko vo])) (lo:(ko.length:Int)=c0 % 1000000000000037 / 1386 % 2):
  bB 10 1 (ur a b Fk Fc Fr Fg Q) [ns]=.ok (false,.bl true):=by
 have e1:=jV (a:=c0) (b:=1000000000000037) (by decide);have e2:=jV (a:=c1) (b:=2) (by decide);have e3:bM (.int 1) (.int (c1 % 2))=some (.int (1+c1 % 2)):=rfl;have e4:uh [.bl d]=some (.int (iN d)):=rfl;have hi:0<=iN d/\iN d<=1:=by unfold iN;split<;>omega
 have e5:bM (.int 1) (.int (iN d))=some (.int (1+iN d)):=rfl;have e6:=t7 (a:=W) (b:=1+iN d) (by omega) (by omega) (by omega) (by omega);have e7:=t7 (a:=2) (b:=iN d) (by omega) (by omega) (by omega) (by omega);have e8:bM (.int m) (.int (2*iN d))=some (.int (m+2*iN d)):=rfl;have e9:=t7 (a:=W) (b:=m+2*iN d) (by omega) (by omega) (by omega) (by omega);have f1:gGt (.int (W*(1+iN d))) (.int 8)=some (decide (W*(1+iN d) > 8)):=rfl;have f2:gGt (.int (W*(m+2*iN d))) (.int 24)=some (decide (W*(m+2*iN d) > 24)):=rfl;have e10:bM (.int 1) (.int (2*iN d))=some (.int (1+2*iN d)):=rfl;have e11:o8 (.int 3) (.int (1+c1 % 2))=some (.int (3-(1+c1 % 2))):=rfl;have e12:=qL (a:=c0 % 1000000000000037) (b:=1386) (by decide) (by decide);have e13:=jV (a:=c0 % 1000000000000037 / 1386) (b:=2) (by decide);have x1:∀p q:D,gIx (.tup [p,q]) (.int 1)=some q:=λ_ _=>rfl;have nI:∀x y:Int,gNe (.int x) (.int y)=some (!decide (x=y)):=λ_ _=>rfl;have nB:∀x:Bool,gNe (.bl x) (.bl x)=some false:=λx=>by cases x<;>rfl
 have qI:∀x y:Int,gEq (.int x) (.int y)=some (decide (x=y)):=λ_ _=>rfl;have L4:ig [.dct k4 v4]=some (.int (1+iN d)):=by rw [← l4];rfl
 have L1:ig [.dct k1 v1]=some (.int (1+2*iN d)):=by rw [← l1];rfl
 have Lo:ig [.dct ko vo]=some (.int (c0 % 1000000000000037 / 1386 % 2)):=by rw [← lo];rfl
 generalize hp:decide (W*(1+iN d) > 8)=P at *;generalize hq:decide (W*(m+2*iN d) > 24)=S at *;generalize 3-(1+c1 % 2)=so at *;generalize 1+c1 % 2=s at *;generalize c0 % 1000000000000037 / 1386 % 2=ao at *;generalize W*(1+iN d)=ct at *;generalize W*(m+2*iN d)=wd at *;generalize c0 % 1000000000000037 / 1386=c3 at *;generalize c0 % 1000000000000037=c at *;generalize 1+2*iN d=d2 at *;generalize 1+iN d=d1 at *;generalize 2*iN d=d3 at *;cases P with
 |true=>
  have R2':=R2 rfl;simp [bB,ur,aO,bL,fFn,aj,aB,aG,fC,h0,h1,aC,Le,a37,e1,e2,e3,hQ,JL,hG,iW,bz,hName,iY,aq,aM,e4,e5,e6,e7,e8,e9,gIf,aW,i0,R1,fOr,pK,f1,nB,gNx,GC,Cw,fTv,R2',i4,K4,x1,L4,nI,i1,K1,L1,e10,cD,Me.let,Sl.let,e11,Ko,Lo,e12,e13,qI]
 |false=>
  cases S with
  |true=>
   have R2':=R2 rfl;simp [bB,ur,aO,bL,fFn,aj,aB,aG,fC,h0,h1,aC,Le,a37,e1,e2,e3,hQ,JL,hG,iW,bz,hName,iY,aq,aM,e4,e5,e6,e7,e8,e9,gIf,aW,i0,R1,fOr,pK,f1,f2,nB,gNx,GC,Cw,fTv,R2',i4,K4,x1,L4,nI,i1,K1,L1,e10,cD,Me.let,Sl.let,e11,Ko,Lo,e12,e13,qI]
  |false=>
   obtain ⟨K0',l0⟩:=K0 rfl;have L0:ig [.dct k0 v0]=some (.int ct):=by rw [← l0];rfl
   simp [bB,ur,aO,bL,fFn,aj,aB,aG,fC,h0,h1,aC,Le,a37,e1,e2,e3,hQ,JL,hG,iW,bz,hName,iY,aq,aM,e4,e5,e6,e7,e8,e9,gIf,aW,i0,R1,fOr,pK,f1,f2,nB,gNx,GC,fTv,K0',L0,i4,K4,x1,L4,nI,i1,K1,L1,e10,cD,Me.let,Sl.let,e11,Ko,Lo,e12,e13,qI]
theorem LQ (a b:Addr):GD a b=bB 10 1 (ur a b bH cu (cJ a b) fU rB):=rfl
theorem uU (d:Bool):((dN d:Nat):Int)=iN d:=by cases d<;>rfl
theorem Ue (m:Nat)(d:Bool):un (m:Int) d=((1+m+6*dN d:Nat):Int):=by unfold un dN;cases d<;>simp
theorem R8 {c s x:Int}(hs:s=1\/s=2):PkO (DN c s (nm x 0) (nm x 1) (nm x 2) (nm x 3)) (mny c).toNat:=by
 have m:=p7 c;have l:=CZ c;refine ⟨hs,?_,?_,λz=>?_,λz=>?_,by omega⟩
 ·show ((wsL c (mny c)).take (mny c).toNat).tail.length+1=_;rw [List.length_tail,List.length_take];omega
 ·show ((wsL c (mny c)).take 2).length=2;rw [List.length_take];omega
 ·have:=Dp (k:=2) (l:=3) (by decide) (by decide) z
  omega
 ·have:=Dp (k:=0) (l:=1) (by decide) (by decide) z
  omega
theorem Hc {a b:Addr}(hne:a≠b):∀ns:List Int,ns.length<=63->∃fr,GD a b [.lst (ns.map D.int)]=.ok (fr,.bl true):=by
 intro ns hn;obtain ⟨c0,h0⟩:=cell_eq ns 0;obtain ⟨c1,h1⟩:=cell_eq ns 1;obtain ⟨c2,h2⟩:=cell_eq ns 2;generalize hx:c2 % 1000000000000037=x;generalize hc:c0 % 1000000000000037=c;generalize hsd:1+c1 % 2=s;have hs:s=1\/s=2:=by omega
 have hQ:=λu3=>JC (u1:=.fz (.int c)) (u2:=.fz (.int s)) (u3:=u3) (u4:=.un) (u5:=.un) (u6:=.un) (u7:=.un) (u8:=.un) (u9:=.un) h2;rw [hx] at hQ;have P:=R8 (c:=c) (x:=x) hs;obtain ⟨W,w1,w2,w3,eG⟩:=Ks (c:=c) (s:=s) (N:=Up x) (n0:=nm x 0) (n1:=nm x 1) (n2:=nm x 2) (n3:=nm x 3) ⟨rfl,rfl,rfl,rfl⟩;have hm:=p7 c;generalize hp:DN c s (nm x 0) (nm x 1) (nm x 2) (nm x 3)=p at *;have p0:p.n0=nm x 0:=by rw [← hp];rfl
 have p1:p.n1=nm x 1:=by rw [← hp];rfl
 have ps:p.s=s:=by rw [← hp];rfl
 have pd:p.dp=dpB c:=by rw [← hp];rfl
 have hmN:((mny c).toNat:Int)=mny c:=by omega
 have w3':2+W*(1+(mny c).toNat+6*dN p.dp)<=64:=by
  rw [← hmN,← pd,Ue] at w3;exact_mod_cast w3
 have S:=Lq P w2 w3' (ahB c);have n04:p.n0≠nm x 4:=λz=>by rw [p0] at z;have:=Dp (k:=0) (l:=4) (by decide) (by decide) z;omega
 have n14:p.n1≠nm x 4:=λz=>by rw [p1] at z;have:=Dp (k:=1) (l:=4) (by decide) (by decide) z;omega
 have of:=zQ P W (ahB c);have wf:=JB P W (ahB c);have d1:dN p.dp<=1:=by unfold dN;split<;>omega
 obtain ⟨V,rfl⟩:∃V,W=V+1:=⟨W - 1,by omega⟩;have k0:=wA P (V+1) (ahB c) p.n0;have k1:=wA P (V+1) (ahB c) p.n1;have k4:=wA P (V+1) (ahB c) (nm x 4);have ko:=Mi P (V+1) (ahB c) p.n0;obtain ⟨q4,q4'⟩:=HF P n04 n14 V;obtain ⟨q1,q1'⟩:=M9 P V;obtain ⟨q0,q0'⟩:=BV P (V+1) 0 [] (λk hk=>by simp at hk);simp only [List.length_nil,List.map_nil,List.sum_nil,Nat.zero_add] at q0 q0';have F4:Fits p.s (nm x 4) (p.ji (V+1) (ahB c)):=by
  unfold Fits;rw [k4,q4,q4'];exact ⟨by omega,of⟩
 have F1:Fits p.s p.n1 (p.ji (V+1) (ahB c)):=by
  unfold Fits;rw [k1,q1,q1'];exact ⟨by omega,of⟩
 have Fo:Fits (3-p.s) p.n0 (p.ji (V+1) (ahB c)):=by
  unfold Fits;rw [ko,show 3-(3-p.s)=p.s by omega];refine ⟨?_,wf⟩;cases ahB c<;>simp [dks,dk]
 have hps:p.s=1\/p.s=2:=P.s;obtain ⟨r4,a4,b4,e4,l4⟩:=m8 S hps F4;obtain ⟨r1,a1,b1,e1,l1⟩:=m8 S hps F1;obtain ⟨ro,ao,bo,eo,lo⟩:=m8 S (side:=3-p.s) (by omega) Fo;rw [k4,q4] at l4;rw [k1,q1] at l1;rw [ko] at lo;have f0:Fits p.s p.n0 (p.ji (V+1) (ahB c))↔((V+1)*(1+dN p.dp)<=8/\(V+1)*((mny c).toNat+2*dN p.dp)<=24):=by
  unfold Fits;rw [k0,show dks (bl p (mny c).toNat p.n0 0 (V+1))=(bl p (mny c).toNat p.n0 0 (V+1)).foldl dk [] from rfl,q0,q0'];exact ⟨λz=>z.1,λz=>⟨z,of⟩⟩
 have c1':((V+1:Nat):Int)*(1+iN (dpB c))=(((V+1)*(1+dN p.dp):Nat):Int):=by rw [← pd,← uU];push_cast;rfl
 have c2':((V+1:Nat):Int)*(mny c+2*iN (dpB c))=(((V+1)*((mny c).toNat+2*dN p.dp):Nat):Int):=by rw [← pd,← uU,← hmN];push_cast;rfl
 rw [LQ];refine ⟨false,?_⟩;have lo':(ao.length:Int)=c / 1386 % 2:=by
  rw [lo];have h2:c / 1386 % 2=0\/c / 1386 % 2=1:=by omega
  unfold ahB;rcases h2 with z | z<;>rw [z]<;>simp [dks,dk]
 rw [p0,ps] at eo;rw [ps] at e4;rw [p1,ps] at e1;rw [← hc] at eG hQ lo';rw [← hsd] at eG hQ e4 e1 eo;have b0:(decide (((V+1:Nat):Int)*(1+iN (dpB c)) > 8) || decide (((V+1:Nat):Int)*(mny c+2*iN (dpB c)) > 24)) = !decide ((V+1)*(1+dN p.dp)<=8/\(V+1)*((mny c).toNat+2*dN p.dp)<=24):=by
  rw [c1',c2',Bool.eq_iff_iff];simp only [Bool.or_eq_true,decide_eq_true_eq,Bool.not_eq_true',decide_eq_false_iff_not,gt_iff_lt];omega
 have wq:0<=((V+1:Nat):Int)/\((V+1:Nat):Int)<=100:=by omega
 rw [hc] at eG hQ lo';by_cases hf:Fits p.s p.n0 (p.ji (V+1) (ahB c))
 ·obtain ⟨r0,a0,b0',e0,l0⟩:=m8 S hps hf;rw [k0,show dks (bl p (mny c).toNat p.n0 0 (V+1))=(bl p (mny c).toNat p.n0 0 (V+1)).foldl dk [] from rfl,q0] at l0;rw [p0,ps,← hsd] at e0;rw [decide_eq_true (f0.mp hf)] at b0;exact Ay (W:=((V+1:Nat):Int)) (m:=mny c) (d:=dpB c) (r0:=r0) (k0:=a0) (v0:=b0') h0 h1 (by rw [hc];exact hQ _) (by rw [hc];exact eG) wq (by omega) rfl rfl rfl (by rw [b0];exact QR (Dd a b) e0) (λz=>by rw [b0] at z;cases z) (λ_=>⟨e0,by rw [l0,c1']⟩) e4 (by rw [l4,← pd,← uU];push_cast;rfl) e1 (by rw [l1,← pd,← uU];push_cast;rfl) eo (by rw [hc];exact lo')
 ·have e0:=zU S hps hf;rw [p0,ps,← hsd] at e0;rw [decide_eq_false (λz=>hf (f0.mpr z))] at b0;exact Ay (W:=((V+1:Nat):Int)) (m:=mny c) (d:=dpB c) (r0:=.non) (k0:=[]) (v0:=[]) h0 h1 (by rw [hc];exact hQ _) (by rw [hc];exact eG) wq (by omega) rfl rfl rfl (by rw [b0];exact Bx (Dd a b) e0) (λ_=>Bx (Nx hne) (Kh e0)) (λz=>by rw [b0] at z;cases z) e4 (by rw [l4,← pd,← uU];push_cast;rfl) e1 (by rw [l1,← pd,← uU];push_cast;rfl) eo (by rw [hc];exact lo')
def top (i:Nat):Stmt:=PySem.Challenge.pw_hushduel_k56_too_much_seen.main.body.getD i (.Pass ⟨0,0,0,0⟩)
theorem uL:bootBuiltins "ValueError" = some (.type "ValueError"):=by decide +kernel
theorem Qc:bootBuiltins "any" = some (.builtin "any"):=by decide +kernel
theorem Ln:bootBuiltins "dict" = some (.type "dict"):=by decide +kernel
theorem pO:bootBuiltins "int" = some (.type "int"):=by decide +kernel
theorem jX:bootBuiltins "isinstance" = some (.builtin "isinstance"):=by decide +kernel
theorem jm:bootBuiltins "len" = some (.builtin "len"):=by decide +kernel
theorem wQ:bootBuiltins "list" = some (.type "list"):=by decide +kernel
theorem O5:bootBuiltins "max" = some (.builtin "max"):=by decide +kernel
theorem Qg:bootBuiltins "str" = some (.type "str"):=by decide +kernel
theorem QC:bootBuiltins "sum" = some (.builtin "sum"):=by decide +kernel
theorem km:bootBuiltins "tuple" = some (.type "tuple"):=by decide +kernel
structure Bt (mg:Zs):Prop where
 ValueError:mg "ValueError" = none
 abs:mg "abs" = none
 all:mg "all" = none
 any:mg "any" = none
 bool:mg "bool" = none
 dict:mg "dict" = none
 enumerate:mg "enumerate" = none
 int:mg "int" = none
 isinstance:mg "isinstance" = none
 len:mg "len" = none
 list:mg "list" = none
 max:mg "max" = none
 range:mg "range" = none
 reversed:mg "reversed" = none
 sorted:mg "sorted" = none
 str:mg "str" = none
 sum:mg "sum" = none
 tuple:mg "tuple" = none
 zip:mg "zip" = none
structure CnT (K:W.Frag)(mg:Zs):Prop where
 NOUGHT:∃v u,mg "NOUGHT" = some u/\RelV v u/\∀O H,DV ⟨K,mg⟩ O H v (.tup [(.int 0),(.int 1)])
 ONE:∃v u,mg "ONE" = some u/\RelV v u/\∀O H,DV ⟨K,mg⟩ O H v (.tup [(.int 1),(.int 1)])
 MOST_PLACES:∃v u,mg "MOST_PLACES" = some u/\RelV v u/\∀O H,DV ⟨K,mg⟩ O H v (.int 64)
 MOST_BRANCHES:∃v u,mg "MOST_BRANCHES" = some u/\RelV v u/\∀O H,DV ⟨K,mg⟩ O H v (.int 12)
 MOST_NAMES:∃v u,mg "MOST_NAMES" = some u/\RelV v u/\∀O H,DV ⟨K,mg⟩ O H v (.int 8)
 MOST_WORDS_SEEN:∃v u,mg "MOST_WORDS_SEEN" = some u/\RelV v u/\∀O H,DV ⟨K,mg⟩ O H v (.int 24)
 MOST_ROWS:∃v u,mg "MOST_ROWS" = some u/\RelV v u/\∀O H,DV ⟨K,mg⟩ O H v (.int 8)
 MOST_WISHED:∃v u,mg "MOST_WISHED" = some u/\RelV v u/\∀O H,DV ⟨K,mg⟩ O H v (.int 8)
 MOST_OF_BOTH:∃v u,mg "MOST_OF_BOTH" = some u/\RelV v u/\∀O H,DV ⟨K,mg⟩ O H v (.int 7)
theorem sG {X:Cx}{E:XK}{pos:Pos}(Cn:CnT X.K X.mg)(hg:Gl X "MOST_PLACES"):FE X E (.Name "MOST_PLACES" pos) (fC (.int 64)):=by
 obtain ⟨v,u,h1,h2,h3⟩:=Cn.MOST_PLACES;exact o6 hg h1 h2 h3
theorem qp {X:Cx}{E:XK}{pos:Pos}(Cn:CnT X.K X.mg)(hg:Gl X "MOST_BRANCHES"):FE X E (.Name "MOST_BRANCHES" pos) (fC (.int 12)):=by
 obtain ⟨v,u,h1,h2,h3⟩:=Cn.MOST_BRANCHES;exact o6 hg h1 h2 h3
theorem uP {X:Cx}{E:XK}{pos:Pos}(Cn:CnT X.K X.mg)(hg:Gl X "MOST_NAMES"):FE X E (.Name "MOST_NAMES" pos) (fC (.int 8)):=by
 obtain ⟨v,u,h1,h2,h3⟩:=Cn.MOST_NAMES;exact o6 hg h1 h2 h3
theorem oF {X:Cx}{E:XK}{pos:Pos}(Cn:CnT X.K X.mg)(hg:Gl X "MOST_WORDS_SEEN"):FE X E (.Name "MOST_WORDS_SEEN" pos) (fC (.int 24)):=by
 obtain ⟨v,u,h1,h2,h3⟩:=Cn.MOST_WORDS_SEEN;exact o6 hg h1 h2 h3
structure ExT (K:W.Frag)(mg:Zs):Prop where
 TooGreat:∃C,mg "TooGreat" = some (.ref C)/\W.excIn K C [.type "ValueError",.type "Exception",.type "BaseException",.type "object"] "ValueError.__new__" = true
structure XcT (K:W.Frag)(mg:Zs):Prop where
 c_DuelError:∃C,mg "DuelError" = some (.ref C)/\∀c D,bY c=true->mg c=some (.ref D)->W.exmOne K (.ref D) (.ref C)=some true
 i_Forgets:ICl K mg "Forgets" d8
 i_NoName:ICl K mg "NoName" fK
 i_NoNumber:ICl K mg "NoNumber" c7
 i_NoPlace:ICl K mg "NoPlace" d7
 i_NoPlan:ICl K mg "NoPlan" fV
 i_NoRow:ICl K mg "NoRow" gO
 i_NoShares:ICl K mg "NoShares" dh
 i_NoText:ICl K mg "NoText" fW
 i_NoWord:ICl K mg "NoWord" fL
 i_TooGreat:ICl K mg "TooGreat" fZ
 i_Unlike:ICl K mg "Unlike" fP
 i_ValueError:mg "ValueError" = none/\∀c D b,dW c=some b->mg c=some (.ref D)->XC K D/\W.kitOne K (.ref D) (.type "ValueError")=some b
abbrev Ms:Stmt:=top 22
abbrev iU:Stmt:=top 28
theorem uK:bC ["game"] ["game"] (aJ iU):=⟨rfl,rfl,rfl,by decide +kernel,rfl,by decide +kernel,by decide +kernel⟩
abbrev mD:Stmt:=top 29
theorem yS:bC ["game", "ways"] ["game", "ways"] (aJ mD):=⟨rfl,rfl,rfl,by decide +kernel,rfl,by decide +kernel,by decide +kernel⟩
abbrev jN:Stmt:=top 30
theorem jb:bC ["game", "places", "waiting", "place", "behind"] ["game"] (aJ jN):=⟨rfl,rfl,rfl,by decide +kernel,rfl,by decide +kernel,by decide +kernel⟩
abbrev lR:Stmt:=top 36
theorem zY:bC ["move"] ["move"] (aJ lR):=⟨rfl,rfl,rfl,by decide +kernel,rfl,by decide +kernel,by decide +kernel⟩
abbrev iB:Stmt:=top 37
theorem kJ:bC ["place", "records", "number", "pair"] ["place", "records", "number"] (aJ iB):=⟨rfl,rfl,rfl,by decide +kernel,rfl,by decide +kernel,by decide +kernel⟩
abbrev eY:Stmt:=top 38
theorem bI:bC ["game", "known", "found", "way", "place", "number"] ["game"] (aJ eY):=⟨rfl,rfl,rfl,by decide +kernel,rfl,by decide +kernel,by decide +kernel⟩
abbrev ue:Stmt:=top 39
theorem GX:bC ["move", "records"] ["move", "records"] (aJ ue):=⟨rfl,rfl,rfl,by decide +kernel,rfl,by decide +kernel,by decide +kernel⟩
abbrev nU:Stmt:=top 40
theorem jE:bC ["game", "rows", "way", "place", "records"] ["game"] (aJ nU):=⟨rfl,rfl,rfl,by decide +kernel,rfl,by decide +kernel,by decide +kernel⟩
abbrev mW:Stmt:=top 41
theorem El:bC ["game", "side"] ["game", "side"] (aJ mW):=⟨rfl,rfl,rfl,by decide +kernel,rfl,by decide +kernel,by decide +kernel⟩
abbrev iJ:Stmt:=top 42
theorem uF:bC ["rows"] ["rows"] (aJ iJ):=⟨rfl,rfl,rfl,by decide +kernel,rfl,by decide +kernel,by decide +kernel⟩
abbrev cX:Stmt:=top 43
theorem ir:bC ["game", "places"] ["game"] (aJ cX):=⟨rfl,rfl,rfl,by decide +kernel,rfl,by decide +kernel,by decide +kernel⟩
abbrev fY:Stmt:=top 44
theorem fH:bC ["game", "side", "rows"] ["game"] (aJ fY):=⟨rfl,rfl,rfl,by decide +kernel,rfl,by decide +kernel,by decide +kernel⟩
abbrev fJ:Stmt:=top 45
theorem my:bC ["game"] ["game"] (aJ fJ):=⟨rfl,rfl,rfl,by decide +kernel,rfl,by decide +kernel,by decide +kernel⟩
abbrev Em:Stmt:=top 80
abbrev pY:Stmt:=top 82
theorem Gf:bC ["place", "side", "name", "number"] ["place", "side", "name", "number"] (aJ pY):=⟨rfl,rfl,rfl,by decide +kernel,rfl,by decide +kernel,by decide +kernel⟩
abbrev mq:Stmt:=top 83
theorem d9:bC ["place", "side", "name", "known", "fresh", "result", "new", "ways", "number", "way", "more"] ["place", "side", "name", "known", "fresh"] (aJ mq):=⟨rfl,rfl,rfl,by decide +kernel,rfl,by decide +kernel,by decide +kernel⟩
abbrev oR:Stmt:=top 84
theorem tR:bC ["game", "side", "name", "fresh", "result"] ["game", "side", "name"] (aJ oR):=⟨rfl,rfl,rfl,by decide +kernel,rfl,by decide +kernel,by decide +kernel⟩
abbrev zr:Stmt:=top 85
theorem zR:bC ["game", "side", "name", "keen", "plain"] ["game", "side", "name"] (aJ zr):=⟨rfl,rfl,rfl,by decide +kernel,rfl,by decide +kernel,by decide +kernel⟩
abbrev jD:Stmt:=top 87
theorem rP:bC ["_law_script", "_law_k"] ["_law_script", "_law_k"] (aJ jD):=⟨rfl,rfl,rfl,by decide +kernel,rfl,by decide +kernel,by decide +kernel⟩
abbrev mQ:Stmt:=top 88
theorem fQ:bC ["_law_number", "_law_k", "_law_signs", "_law_long", "_law_at", "_law_name_here", "_law_j"] ["_law_number", "_law_k"] (aJ mQ):=⟨rfl,rfl,rfl,by decide +kernel,rfl,by decide +kernel,by decide +kernel⟩
abbrev jz:Stmt:=top 89
theorem gV:bC ["_law_asked", "_law_game_here", "_law_side", "_law_name_here", "_law_kept", "e"] ["_law_asked", "_law_game_here", "_law_side", "_law_name_here"] (aJ jz):=⟨rfl,rfl,rfl,by decide +kernel,rfl,by decide +kernel,by decide +kernel⟩
abbrev gQ:Stmt:=top 90
theorem lO:bC ["_law_side", "_law_names", "_law_words", "_law_cell", "_law_low", "_law_other"] ["_law_side", "_law_names", "_law_words", "_law_cell"] (aJ gQ):=⟨rfl,rfl,rfl,by decide +kernel,rfl,by decide +kernel,by decide +kernel⟩
abbrev iV:Stmt:=top 91
theorem cM:bC ["_law_cell", "_law_side", "_law_names", "_law_many", "_law_words", "_law_deep", "_law_ways", "_law_parts", "_law_k", "_law_some", "_law_game_here"] ["_law_cell", "_law_side", "_law_names"] (aJ iV):=⟨rfl,rfl,rfl,by decide +kernel,rfl,by decide +kernel,by decide +kernel⟩
abbrev tL:Stmt:=top 92
theorem nu:bC ["_law_script", "_law_cell", "_law_side", "_law_names", "_law_game_here", "_law_ways", "_law_many", "_law_deep", "_law_count", "_law_words"] ["_law_script"] (aJ tL):=⟨rfl,rfl,rfl,by decide +kernel,rfl,by decide +kernel,by decide +kernel⟩
variable {P:Program}{w:World}{K:W.Frag}{mg:Zs}{base:Heap}{f:Addr}{fd:FuncData}
theorem sX(B:Bt mg)(Fu:Fun K "branches_of" "branches_of" iU f fd)  :
  dm P w K mg base (CX1 P w) 1 f fd ["game"] (spF ⟨K,mg⟩ dF):=
 cB Fu uK λcdv A outer s H E hr=>by
 have hu:=hr.units;unfold nG eO;exact (aF (gA (cP (gF hu) (ak (aX bO (az 0) (ak au) (λ_ _=>rfl))) (ak cT) (bN _))
  (aK (qW (pR aA)))
  cN)
  (aK (qW (jR (aJ iU) ["lead", "branch"] [] 2 [] rfl ⟨rfl,by decide +kernel,by decide +kernel,by decide +kernel,by decide +kernel⟩ .nil (rO (zf (aX bO (az 0) (ak (Jt wN (ak au))) (λ_ _=>rfl)))) (λ_ _ _ _ _ _=>(lQ rfl (bK (bj (i:=0) (show List.Nodup (["lead", "branch"]:List Str) by decide) rfl (Or.inl rfl)) (bK (bj (i:=1) (show List.Nodup (["lead", "branch"]:List Str) by decide) rfl (Or.inl rfl)) jr)))) (λ_ _ _ _ _ _=>fG) (λ_ _ _ _ _ _=>(aD 1))))))
theorem w5(B:Bt mg)(Fu:Fun K "with_ways" "with_ways" mD f fd)  :
  dm P w K mg base (CX1 P w) 1 f fd ["game", "ways"] (spF ⟨K,mg⟩ cz):=
 cB Fu yS λcdv A outer s H E hr=>by
 have hu:=hr.units;unfold jK jJ;exact (aK (cL (aL bD (ak (o7 (az 0) rA (qZ (ak (Jt wN (ak au)))))) (ak (aQ (aa (cQ gM rfl B.tuple km (aP (az 1) aZ)) aA))))))
theorem wZ(B:Bt mg)(Fu:Fun K "places_of" "places_of" jN f fd)(Gbranches_of:FF P w K mg base 1 "branches_of" ["game"] dF):
  dm P w K mg base (CX1 P w) 2 f fd ["game"] (spF ⟨K,mg⟩ fO):=
 cB Fu jb λcdv A outer s H E hr=>by
 have hu:=hr.units;unfold qG jQ;exact (aF (mJ (i:=1) jb.nd rfl (Or.inl rfl) (pR aA))
  (aF (mJ (i:=2) jb.nd rfl (Or.inl rfl) (pR (aa (aQ (aa (aQ aA) (aa (aD 0) aA))) aA)))
  (aF (yJ PassesOwn.leaving (cP j9 (ak (cV dI rfl B.len jm (aP (az 2) aZ))) (ak au) (bN _))
  (aF (DR 3 2 jb.nd rfl (Or.inr rfl))
  (aF (pN 1 (aD 3))
  (aF (nO (i:=4) (aJ jN) ["number", "branch", "place"] ["place"] 2 [3] jb.nd rfl (Or.inl rfl) rfl ⟨rfl,by decide +kernel,by decide +kernel,by decide +kernel,by decide +kernel⟩ (.cons rfl .nil) (Gr rfl B.enumerate (aP (ak (cO Gbranches_of hr bf (aa (aX bO (az 3) (ak au) (λ_ _=>rfl)) aA))) aZ)) (λ_ _ _ _ _ _=>(lQ rfl (bK (bj (i:=0) (show List.Nodup (["number", "branch", "place"]:List Str) by decide) rfl (Or.inl rfl)) (bK (bj (i:=1) (show List.Nodup (["number", "branch", "place"]:List Str) by decide) rfl (Or.inl rfl)) jr)))) (λ_ _ _ _ _ _=>fG) (λ_ _ _ _ _ _=>(aQ (aa (aL bD (ak (aX bO (az 2) (ak au) (λ_ _=>rfl))) (ak (aQ (aa (aD 0) aA)))) (aa (aD 1) aA)))))
  (aK (DY 2 (Nm rfl rfl B.list rfl B.reversed (aP (az 4) aZ))))))))
  (aK (Cp 1)))))
theorem xR(B:Bt mg)(Fu:Fun K "words_at" "words_at" lR f fd)  :
  dm P w K mg base (CX1 P w) 1 f fd ["move"] (spF ⟨K,mg⟩ jF):=
 cB Fu zY λcdv A outer s H E hr=>by
 have hu:=hr.units;unfold nR nW;exact (aK (cL (cQ gM rfl B.tuple km (aP (ak (n6 (jR (aJ lR) ["word", "branch"] [] 2 [] rfl ⟨rfl,by decide +kernel,by decide +kernel,by decide +kernel,by decide +kernel⟩ .nil (rO (zf (aX bO (az 0) (ak au) (λ_ _=>rfl)))) (λ_ _ _ _ _ _=>(lQ rfl (bK (bj (i:=0) (show List.Nodup (["word", "branch"]:List Str) by decide) rfl (Or.inl rfl)) (bK (bj (i:=1) (show List.Nodup (["word", "branch"]:List Str) by decide) rfl (Or.inl rfl)) jr)))) (λ_ _ _ _ _ _=>fG) (λ_ _ _ _ _ _=>(aD 0))))) aZ))))
theorem oX(B:Bt mg)(Fu:Fun K "records_behind" "records_behind" iB f fd)  :
  dm P w K mg base (CX1 P w) 1 f fd ["place", "records", "number"] (spF ⟨K,mg⟩ cH):=
 cB Fu kJ λcdv A outer s H E hr=>by
 have hu:=hr.units;unfold dY dR;exact (aF (gA (cP (ud hu) (ak (aX bO (az 0) (ak au) (λ_ _=>rfl))) (ak cT) (bN _))
  (aK (cL (aD 1)))
  cN)
  (aF (cG (i:=3) kJ.nd rfl (Or.inl rfl) (aQ (aa (aX bO (az 0) (ak au) (λ_ _=>rfl)) (aa (aX bO (ak (aX bO (ak (aX bO (az 0) (ak au) (λ_ _=>rfl))) (az 2) (λ_ _=>rfl))) (ak au) (λ_ _=>rfl)) aA))))
  (aF (gA (cP (gF hu) (ak (aX bO (az 0) (ak au) (λ_ _=>rfl))) (ak au) (bN _))
  (aK (cL (aQ (aa (aL bD (ak (aX bO (az 1) (ak au) (λ_ _=>rfl))) (ak (aQ (aa (aD 3) aA)))) (aa (aX bO (az 1) (ak au) (λ_ _=>rfl)) aA)))))
  cN)
  (aK (cL (aQ (aa (aX bO (az 1) (ak au) (λ_ _=>rfl)) (aa (aL bD (ak (aX bO (az 1) (ak au) (λ_ _=>rfl))) (ak (aQ (aa (aD 3) aA)))) aA))))))))
theorem lF(B:Bt mg)(Fu:Fun K "places_with_records" "places_with_records" eY f fd)(Gbranches_of:FF P w K mg base 1 "branches_of" ["game"] dF)(Gplaces_of:FF P w K mg base 2 "places_of" ["game"] fO)(Grecords_behind:FF P w K mg base 1 "records_behind" ["place", "records", "number"] cH):
  dm P w K mg base (CX1 P w) 3 f fd ["game"] (spF ⟨K,mg⟩ cF):=
 cB Fu bI λcdv A outer s H E hr=>by
 have hu:=hr.units;unfold ik cW;exact (aF (mJ (i:=1) bI.nd rfl (Or.inl rfl) (Jw hr (aQ aA) (aQ (aa (aQ aA) (aa (aQ aA) aA)))))
  (aF (mJ (i:=2) bI.nd rfl (Or.inl rfl) (pR aA))
  (aF (nZ (k:=1000) PassesOwn.leaving rfl (Be (cO Gplaces_of hr bf (aa (aD 0) aA))) (lQ rfl (bK (bj (i:=3) bI.nd rfl (Or.inl rfl)) (bK (bj (i:=4) bI.nd rfl (Or.inl rfl)) jr)))
  (aF (pN 2 (aQ (aa (aD 3) (aa (aD 4) (aa (Bw hr (az 1) (az 3) (λ_ _=>rfl)) aA)))))
  (aK (nZ (k:=1000) PassesOwn.leaving rfl (kh rfl B.range (aP (ak (cV dI rfl B.len jm (aP (ak (cO Gbranches_of hr bf (aa (aD 4) aA))) aZ))) aZ)) (bj (i:=5) bI.nd rfl (Or.inl rfl))
  (aK (Lz 1 hr (cO Grecords_behind hr bf (aa (aD 4) (aa (Bw hr (az 1) (az 3) (λ_ _=>rfl)) (aa (aD 5) aA)))) (aL bD (az 3) (ak (aQ (aa (aD 5) aA))))))))))
  (aK (Cp 2)))))
theorem FZ(B:Bt mg)(Fu:Fun K "row_at" "row_at" ue f fd)(Gwords_at:FF P w K mg base 1 "words_at" ["move"] jF):
  dm P w K mg base (CX1 P w) 2 f fd ["move", "records"] (spF ⟨K,mg⟩ kI):=
 cB Fu GX λcdv A outer s H E hr=>by
 have hu:=hr.units;unfold oN pC;exact (aK (cL (aQ (aa (aX bO (az 0) (ak au) (λ_ _=>rfl)) (aa (aX bO (az 0) (ak au) (λ_ _=>rfl)) (aa (cO Gwords_at hr bf (aa (aD 0) aA)) (aa (aX bO (az 1) (ak (aL oZ (ak (aX bO (az 0) (ak au) (λ_ _=>rfl))) (ak au))) (λ_ _=>rfl)) aA)))))))
theorem yr(B:Bt mg)(Fu:Fun K "table_of" "table_of" nU f fd)(Gplaces_with_records:FF P w K mg base 3 "places_with_records" ["game"] cF)(Grow_at:FF P w K mg base 2 "row_at" ["move", "records"] kI):
  dm P w K mg base (CX1 P w) 4 f fd ["game"] (spF ⟨K,mg⟩ lG):=
 cB Fu jE λcdv A outer s H E hr=>by
 have hu:=hr.units;unfold uq lN;exact (aF (mJ (i:=1) jE.nd rfl (Or.inl rfl) Dt)
  (aF (nZ (k:=1000) PassesOwn.leaving rfl (Be (cO Gplaces_with_records hr bf (aa (aD 0) aA))) (lQ rfl (bK (bj (i:=2) jE.nd rfl (Or.inl rfl)) (bK (bj (i:=3) jE.nd rfl (Or.inl rfl)) (bK (bj (i:=4) jE.nd rfl (Or.inl rfl)) jr))))
  (aK (gA (cP (gF hu) (ak (aX bO (az 3) (ak au) (λ_ _=>rfl))) (ak cT) (bN _))
  (aK (Rn 1 hr (aQ (aa (aX bO (az 3) (ak au) (λ_ _=>rfl)) (aa (aX bO (az 3) (ak au) (λ_ _=>rfl)) aA))) (cO Grow_at hr bf (aa (aD 3) (aa (aD 4) aA))) ⟨rfl,rfl,rfl,rfl⟩))
  cN)))
  (aK (qW (HQ rfl rfl B.list (az 1))))))
theorem zx(B:Bt mg)(Fu:Fun K "rows_of" "rows_of" mW f fd)(Gtable_of:FF P w K mg base 4 "table_of" ["game"] lG):
  dm P w K mg base (CX1 P w) 5 f fd ["game", "side"] (spF ⟨K,mg⟩ lu):=
 cB Fu El λcdv A outer s H E hr=>by
 have hu:=hr.units;unfold pU ql;exact (aK (qW (jR (aJ mW) ["row", "side"] ["side"] 1 [1] rfl ⟨rfl,by decide +kernel,by decide +kernel,by decide +kernel,by decide +kernel⟩ (.cons rfl .nil) (kj (ak (cO Gtable_of hr bf (aa (aD 0) aA)))) (λ_ _ _ _ _ _=>(bj (i:=0) (show List.Nodup (["row", "side"]:List Str) by decide) rfl (Or.inl rfl))) (λ_ _ _ _ _ _=>(GJ (cP (gF hu) (ak (aX bO (az 0) (ak au) (λ_ _=>rfl))) (az 1) (bN _)))) (λ_ _ _ _ _ _=>(aD 0)))))
theorem rR(B:Bt mg)(Fu:Fun K "count_words" "count_words" iJ f fd)  :
  dm P w K mg base (CX1 P w) 1 f fd ["rows"] (spF ⟨K,mg⟩ gw):=
 cB Fu uF λcdv A outer s H E hr=>by
 have hu:=hr.units;unfold j6 jW;exact (aK (cL (cV (Dw rfl) rfl B.sum QC (aP (ak (n6 (jR (aJ iJ) ["row"] [] 1 [] rfl ⟨rfl,by decide +kernel,by decide +kernel,by decide +kernel,by decide +kernel⟩ .nil (kj (az 0)) (λ_ _ _ _ _ _=>(bj (i:=0) (show List.Nodup (["row"]:List Str) by decide) rfl (Or.inl rfl))) (λ_ _ _ _ _ _=>fG) (λ_ _ _ _ _ _=>(cV dI rfl B.len jm (aP (ak (aX bO (az 0) (ak au) (λ_ _=>rfl))) aZ)))))) aZ))))
theorem lD(B:Bt mg)(Cn:CnT K mg)(Ex:ExT K mg)(Xc:XcT K mg)(Fu:Fun K "refuse_great_places" "refuse_great_places" cX f fd)(Gplaces_of:FF P w K mg base 2 "places_of" ["game"] fO):
  dm P w K mg base (CX1 P w) 3 f fd ["game"] (spF ⟨K,mg⟩ cC):=
 cB Fu ir λcdv A outer s H E hr=>by
 have hu:=hr.units;unfold eZ fj;exact (aF (cG (i:=1) ir.nd rfl (Or.inl rfl) (cO Gplaces_of hr bf (aa (aD 0) aA)))
  (aF (gA (cP j9 (ak (cV dI rfl B.len jm (aP (az 1) aZ))) (ak (sG Cn rfl)) (bN _))
  (aK (m7 Ex.TooGreat rfl hr.hd (BP cT) (λ_ _ _ _ _ _ _ _ I mk q=>o9 I mk q)))
  cN)
  (aK (gA (wz (cV (DK rfl) rfl B.any Qc (aP (ak (n6 (jR (aJ cX) ["way", "place"] [] 2 [] rfl ⟨rfl,by decide +kernel,by decide +kernel,by decide +kernel,by decide +kernel⟩ .nil (kj (az 1)) (λ_ _ _ _ _ _=>(lQ rfl (bK (bj (i:=0) (show List.Nodup (["way", "place"]:List Str) by decide) rfl (Or.inl rfl)) (bK (bj (i:=1) (show List.Nodup (["way", "place"]:List Str) by decide) rfl (Or.inl rfl)) jr)))) (λ_ _ _ _ _ _=>fG) (λ_ _ _ _ _ _=>(pL j9 (ak (cV dI rfl B.len jm (aP (az 0) aZ))) (ak (qp Cn rfl)) (bN _)))))) aZ)))
  (aK (m7 Ex.TooGreat rfl hr.hd (BP cT) (λ_ _ _ _ _ _ _ _ I mk q=>o9 I mk q)))
  cN))))
theorem lZ(B:Bt mg)(Cn:CnT K mg)(Ex:ExT K mg)(Xc:XcT K mg)(Fu:Fun K "refuse_great_table" "refuse_great_table" fY f fd)(Grows_of:FF P w K mg base 5 "rows_of" ["game", "side"] lu)(Gcount_words:FF P w K mg base 1 "count_words" ["rows"] gw):
  dm P w K mg base (CX1 P w) 6 f fd ["game"] (spF ⟨K,mg⟩ bG):=
 cB Fu fH λcdv A outer s H E hr=>by
 have hu:=hr.units;unfold dC dq;exact (aK (nZ (k:=1000) PassesOwn.leaving rfl (zf (aQ (aa au (aa au aA)))) (bj (i:=1) fH.nd rfl (Or.inl rfl))
  (aF (cG (i:=2) fH.nd rfl (Or.inl rfl) (cO Grows_of hr bf (aa (aD 0) (aa (aD 1) aA))))
  (aF (gA (cP j9 (ak (cV dI rfl B.len jm (aP (az 2) aZ))) (ak (uP Cn rfl)) (bN _))
  (aK (m7 Ex.TooGreat rfl hr.hd (BP cT) (λ_ _ _ _ _ _ _ _ I mk q=>o9 I mk q)))
  cN)
  (aK (gA (cP j9 (ak (cO Gcount_words hr bf (aa (aD 2) aA))) (ak (oF Cn rfl)) (bN _))
  (aK (m7 Ex.TooGreat rfl hr.hd (BP cT) (λ_ _ _ _ _ _ _ _ I mk q=>o9 I mk q)))
  cN))))))
theorem lW(B:Bt mg)(Fu:Fun K "refuse_great_shape" "refuse_great_shape" fJ f fd)(Grefuse_great_places:FF P w K mg base 3 "refuse_great_places" ["game"] cC)(Grefuse_great_table:FF P w K mg base 6 "refuse_great_table" ["game"] bG):
  dm P w K mg base (CX1 P w) 7 f fd ["game"] (spF ⟨K,mg⟩ bF):=
 cB Fu my λcdv A outer s H E hr=>by
 have hu:=hr.units;unfold cZ du;exact (aF (xm (cO Grefuse_great_places hr bf (aa (aD 0) aA)))
  (aK (xm (cO Grefuse_great_table hr bf (aa (aD 0) aA)))))
theorem zN(B:Bt mg)(Fu:Fun K "learned" "learned" pY f fd)  :
  dm P w K mg base (CX1 P w) 1 f fd ["place", "side", "name", "number"] (spF ⟨K,mg⟩ dJ):=
 cB Fu Gf λcdv A outer s H E hr=>by
 have hu:=hr.units;unfold jx jy;exact (aF (gA (cP (gF hu) (ak (aX bO (az 0) (ak au) (λ_ _=>rfl))) (ak cT) (bN _))
  (aK (cL (Ir (cP (gF hu) (ak (aX bO (az 0) (ak au) (λ_ _=>rfl))) (az 2) (bN _)) (aQ (aa (aD 3) aA)) (aQ aA))))
  cN)
  (aK (cL (Ir (cP (gF hu) (ak (aX bO (az 0) (ak au) (λ_ _=>rfl))) (az 1) (bN _)) (aQ (aa (aQ (aa (aX bO (az 0) (ak au) (λ_ _=>rfl)) (aa (aX bO (ak (aX bO (ak (aX bO (az 0) (ak au) (λ_ _=>rfl))) (az 3) (λ_ _=>rfl))) (ak au) (λ_ _=>rfl)) aA))) aA)) (aQ aA)))))
theorem wL(B:Bt mg)(Fu:Fun K "sharpened" "sharpened" mq f fd)(Gwith_ways:FF P w K mg base 1 "with_ways" ["game", "ways"] cz)(Glearned:FF P w K mg base 1 "learned" ["place", "side", "name", "number"] dJ)(n:Nat)(Gsharpened:N6 P w K mg base (1+n) "sharpened" ["place", "side", "name", "known", "fresh"] 4 (bR n)):
  dm P w K mg base (CX1 P w) (1+n+1) f fd ["place", "side", "name", "known", "fresh"] (yq ⟨K,mg⟩ 4 (bR (n+1))):=
 Ga 4 Fu d9 (by decide) λcdv A outer s H E hr=>by
 have hu:=hr.units;unfold bT;exact (aF (gA (cP (gF hu) (ak (aX bO (az 0) (ak au) (λ_ _=>rfl))) (ak cT) (bN _))
  (aK (cL (aD 0)))
  cN)
  (aF (cG (i:=5) d9.nd rfl (Or.inl rfl) (aD 0))
  (aF (gA (SX (RN (cP (gF hu) (ak (aX bO (az 0) (ak au) (λ_ _=>rfl))) (ak cT) (bN _)) (MP (cP (gF hu) (ak (aX bO (az 0) (ak au) (λ_ _=>rfl))) (az 1) (bN _)))))
  (aF (Dg (i:=6) d9.nd rfl (Or.inl rfl) (QX 4 hr (aQ (aa (aX bO (az 0) (ak au) (λ_ _=>rfl)) (aa (aD 3) aA))) (aL bD (ak cT) (ak (cQ Dv rfl B.str Qg (aP (ak (aL bD (ak (cV zH rfl B.len jm (aP (az 4) aZ))) (ak au))) aZ)))) ⟨rfl,rfl,rfl,rfl⟩))
  (aK (cG (i:=5) d9.nd rfl (Or.inl rfl) (aQ (aa cT (aa (aD 1) (aa (aD 6) (aa (aX bO (az 0) (ak au) (λ_ _=>rfl)) aA))))))))
  cN)
  (aF (mJ (i:=7) d9.nd rfl (Or.inl rfl) (pR aA))
  (aF (nZ (k:=1000) PassesOwn.leaving rfl (HW rfl B.enumerate (aa (aX bO (az 0) (ak (Jt wN (ak au))) (λ_ _=>rfl)) aA)) (lQ rfl (bK (bj (i:=8) d9.nd rfl (Or.inl rfl)) (bK (bj (i:=9) d9.nd rfl (Or.inl rfl)) jr)))
  (aF (cG (i:=10) d9.nd rfl (Or.inl rfl) (aL bD (az 3) (ak (cO Glearned hr bf (aa (aD 0) (aa (aD 1) (aa (aD 2) (aa (aD 8) aA)))) (hk:=by omega)))))
  (aK (z9 7 (QQ (yD (TF (aX bO (az 9) (ak au) (λ_ _=>rfl))) (yD (Hv 4 Gsharpened hr bf (iZ (aX bO (az 9) (ak au) (λ_ _=>rfl)) (iZ (aD 1) (iZ (aD 2) (iZ (aD 10) (yO (i:=4) aA))))) (hk:=by omega)) Lb)))))))
  (aK (cL (cO Gwith_ways hr bf (aa (aD 5) (aa (aD 7) aA)) (hk:=by omega)))))))))
theorem Gb(B:Bt mg)(Fu:Fun K "keener" "keener" oR f fd)(Grefuse_great_shape:FF P w K mg base 7 "refuse_great_shape" ["game"] bF)(Gsharpened:N6 P w K mg base 9 "sharpened" ["place", "side", "name", "known", "fresh"] 4 (bR 8)):
  dm P w K mg base (CX1 P w) 10 f fd ["game", "side", "name"] (spF ⟨K,mg⟩ bH):=
 cB Fu tR λcdv A outer s H E hr=>by
 have hu:=hr.units;unfold yH kO;exact (aF (mJ (i:=3) tR.nd rfl (Or.inl rfl) Dt)
  (aF (Dg (i:=4) tR.nd rfl (Or.inl rfl) (Hv 3 Gsharpened hr bf (iZ (aD 0) (iZ (aD 1) (iZ (aD 2) (iZ (aQ aA) (yO (i:=3) aA)))))))
  (aF (xm (cO Grefuse_great_shape hr bf (aa (aD 4) aA)))
  (M8 3 (aK (cL (aQ (aa (aD 4) (aa (n6 (Dz (yR rfl) rfl B.dict Ln (aP (ak (n6 (jR (aJ oR) ["key", "new"] [] 2 [] rfl ⟨rfl,by decide +kernel,by decide +kernel,by decide +kernel,by decide +kernel⟩ .nil (rO (Im (aD 3))) (λ_ _ _ _ _ _=>(lQ rfl (bK (bj (i:=0) (show List.Nodup (["key", "new"]:List Str) by decide) rfl (Or.inl rfl)) (bK (bj (i:=1) (show List.Nodup (["key", "new"]:List Str) by decide) rfl (Or.inl rfl)) jr)))) (λ_ _ _ _ _ _=>fG) (λ_ _ _ _ _ _=>(aQ (aa (aD 1) (aa (aX bO (az 0) (ak au) (λ_ _=>rfl)) aA))))))) aZ))) aA)))))))))
theorem Mf(B:Bt mg)(Fu:Fun K "gain" "gain" zr f fd)(Gminus:FF P w K mg base 1 "minus" ["first", "second"] Ce)(Gbalance:FF P w K mg base 1 "balance" ["game"] vz)(Gkeener:FF P w K mg base 10 "keener" ["game", "side", "name"] bH):
  dm P w K mg base (CX1 P w) 11 f fd ["game", "side", "name"] (spF ⟨K,mg⟩ gn):=
 cB Fu zR λcdv A outer s H E hr=>by
 have hu:=hr.units;unfold zE zj;exact (aF (cG (i:=3) zR.nd rfl (Or.inl rfl) (aX bO (ak (cO Gbalance hr bf (aa (aX bO (ak (cO Gkeener hr bf (aa (aD 0) (aa (aD 1) (aa (aD 2) aA))))) (ak au) (λ_ _=>rfl)) aA))) (ak au) (λ_ _=>rfl)))
  (aF (cG (i:=4) zR.nd rfl (Or.inl rfl) (aX bO (ak (cO Gbalance hr bf (aa (aD 0) aA))) (ak au) (λ_ _=>rfl)))
  (aK (cL (Ir (cP (gF hu) (az 1) (ak au) (bN _)) (cO Gminus hr bf (aa (aD 3) (aa (aD 4) aA))) (cO Gminus hr bf (aa (aD 4) (aa (aD 3) aA))))))))
theorem qT(B:Bt mg)(Fu:Fun K "_law_cell_at" "_law_cell_at" jD f fd)  :
  dm P w K mg base (CX1 P w) 1 f fd ["_law_script", "_law_k"] (spF ⟨K,mg⟩ cu):=
 cB Fu rP λcdv A outer s H E hr=>by
 have hu:=hr.units;unfold gY gP;exact (aF (gA (cP (PB hu) (az 1) (ak (cV dI rfl B.len jm (aP (az 0) aZ))) (bN _))
  (aK (cL (aX bO (az 0) (az 1) (λ_ _=>rfl))))
  cN)
  (aK (cL au)))
theorem vW(B:Bt mg)(Fu:Fun K "_law_name" "_law_name" mQ f fd)  :
  dm P w K mg base (CX1 P w) 1 f fd ["_law_number", "_law_k"] (spF ⟨K,mg⟩ gJ):=
 cB Fu fQ λcdv A outer s H E hr=>by
 have hu:=hr.units;unfold qO jL;exact (aF (cG (i:=2) fQ.nd rfl (Or.inl rfl) cT)
  (aF (cG (i:=3) fQ.nd rfl (Or.inl rfl) (aL bD (ak au) (ak (aL fD (az 0) (ak au)))))
  (aF (cG (i:=4) fQ.nd rfl (Or.inl rfl) (aL fD (ak (aL jO (az 0) (ak au))) (az 3)))
  (aF (cG (i:=5) fQ.nd rfl (Or.inl rfl) cT)
  (aF (nZ (k:=1000) PassesOwn.leaving rfl (kh rfl B.range (aP (az 3) aZ)) (bj (i:=6) fQ.nd rfl (Or.inl rfl))
  (aK (cG (i:=5) fQ.nd rfl (Or.inl rfl) (aL bD (az 5) (ak (aX bO (az 2) (ak (aL fD (ak (aL bD (ak (aL bD (ak (aL jO (az 0) (ak (aL bD (ak (aL jP (az 6) (az 6))) (ak au))))) (az 6))) (ak (aL jP (ak (aL bD (ak au) (az 1))) (ak (cQ jw rfl B.int pO (aP (ak (pL (gF hu) (az 6) (az 4) (bN _))) aZ))))))) (ak au))) (λ_ _=>rfl)))))))
  (aK (cL (aD 5))))))))
theorem qP {a_keener a_gain:Addr}{P:Program}{w:World}{K:W.Frag}{mg:Zs}{base:Heap}{f:Addr}{fd:FuncData}(B:Bt mg)(Xc:XcT K mg)(Hkeener:mg "keener" = some (.ref a_keener))(Hgain:mg "gain" = some (.ref a_gain))(Fu:Fun K "_law_refused" "_law_refused" jz f fd)(Gkeener:FF P w K mg base 10 "keener" ["game", "side", "name"] bH)(Ggain:FF P w K mg base 11 "gain" ["game", "side", "name"] gn):
  dm P w K mg base (CX1 P w) 12 f fd ["_law_asked", "_law_game_here", "_law_side", "_law_name_here"] (spF ⟨K,mg⟩ (cJ a_keener a_gain)):=
 cB Fu gV λcdv A outer s H E hr=>by
 have hu:=hr.units;unfold gR g8;exact (aF (cG (i:=4) gV.nd rfl (Or.inl rfl) QS)
  (aF (My (i:=5) (bY) rfl rfl (IK (i:=0) Hkeener Hgain Gkeener Ggain hr rfl (Or.inl rfl) (aa (aD 1) (aa (aD 2) (aa (aD 3) aA)))) gV.nd rfl rfl rfl Xc.c_DuelError (λea=>
  (aK (cG (i:=4) gV.nd rfl (Or.inl rfl) (aD 5)))))
  (aF (gA (wz (Kr (az 4) rfl B.isinstance jX (gB Xc.i_Forgets (gB Xc.i_NoName (gB Xc.i_NoNumber (gB Xc.i_NoPlace (gB Xc.i_NoPlan (gB Xc.i_NoRow (gB Xc.i_NoShares (gB Xc.i_NoText (gB Xc.i_NoWord (gB Xc.i_Unlike Lk))))))))))))
  (aK (cL vh))
  cN)
  (aK (cL (RC (Qh (az 4) rfl B.isinstance jX rfl Xc.i_TooGreat) (G6 (Lj (az 4) rfl B.isinstance jX rfl Xc.i_ValueError uL))))))))
theorem uI(B:Bt mg)(Fu:Fun K "_law_inner" "_law_inner" gQ f fd)  :
  dm P w K mg base (CX1 P w) 1 f fd ["_law_side", "_law_names", "_law_words", "_law_cell"] (spF ⟨K,mg⟩ gf):=
 cB Fu lO λcdv A outer s H E hr=>by
 have hu:=hr.units;unfold lJ lB;exact (aF (cG (i:=4) lO.nd rfl (Or.inl rfl) (aQ (aa cT (aa (aD 0) (aa (aX bO (az 1) (ak au) (λ_ _=>rfl)) (aa (cQ gM rfl B.tuple km (aP (ak (n6 (jR (aJ gQ) ["_law_word", "_law_cell"] ["_law_cell"] 1 [3] rfl ⟨rfl,by decide +kernel,by decide +kernel,by decide +kernel,by decide +kernel⟩ (.cons rfl .nil) (kj (ak (o7 (az 2) rA (qZ (ak au))))) (λ_ _ _ _ _ _=>(bj (i:=0) (show List.Nodup (["_law_word", "_law_cell"]:List Str) by decide) rfl (Or.inl rfl))) (λ_ _ _ _ _ _=>fG) (λ_ _ _ _ _ _=>(aQ (aa (aD 0) (aa (aQ (aa cT (aa (aQ (aa (aL fD (az 1) (ak au)) (aa au aA))) aA))) aA))))))) aZ)) aA))))))
  (aF (cG (i:=5) lO.nd rfl (Or.inl rfl) (aQ (aa cT (aa (aD 0) (aa (aX bO (az 1) (ak au) (λ_ _=>rfl)) (aa (cQ gM rfl B.tuple km (aP (ak (n6 (jR (aJ gQ) ["_law_word", "_law_cell"] ["_law_cell"] 1 [3] rfl ⟨rfl,by decide +kernel,by decide +kernel,by decide +kernel,by decide +kernel⟩ (.cons rfl .nil) (kj (ak (o7 (az 2) rA (qZ (ak au))))) (λ_ _ _ _ _ _=>(bj (i:=0) (show List.Nodup (["_law_word", "_law_cell"]:List Str) by decide) rfl (Or.inl rfl))) (λ_ _ _ _ _ _=>fG) (λ_ _ _ _ _ _=>(aQ (aa (aD 0) (aa (aQ (aa cT (aa (aQ (aa (aL oZ (ak au) (ak (aL fD (az 1) (ak au)))) (aa au aA))) aA))) aA))))))) aZ)) aA))))))
  (aK (cL (aQ (aa cT (aa (aX bO (az 1) (ak au) (λ_ _=>rfl)) (aa (aQ (aa (aQ (aa (aQ (aa au (aa au aA))) (aa (aD 4) aA))) (aa (aQ (aa (aQ (aa au (aa au aA))) (aa (aD 5) aA))) aA))) aA))))))))
theorem xg(B:Bt mg)(Fu:Fun K "_law_game" "_law_game" iV f fd)(G_law_name:FF P w K mg base 1 "_law_name" ["_law_number", "_law_k"] gJ)(G_law_inner:FF P w K mg base 1 "_law_inner" ["_law_side", "_law_names", "_law_words", "_law_cell"] gf):
  dm P w K mg base (CX1 P w) 2 f fd ["_law_cell", "_law_side", "_law_names"] (spF ⟨K,mg⟩ fU):=
 cB Fu cM λcdv A outer s H E hr=>by
 have hu:=hr.units;unfold qJ gH;exact (aF (cG (i:=3) cM.nd rfl (Or.inl rfl) (aL bD (ak au) (ak (aL fD (ak (aL jO (az 0) (ak au))) (ak au)))))
  (aF (nO (i:=4) (aJ iV) ["_law_k", "_law_cell"] ["_law_cell"] 1 [0] cM.nd rfl (Or.inl rfl) rfl ⟨rfl,by decide +kernel,by decide +kernel,by decide +kernel,by decide +kernel⟩ (.cons rfl .nil) (rO (kh rfl B.range (aP (ak (cV (Fp rfl) rfl B.max O5 (aP (ak au) (aP (az 3) aZ)))) aZ))) (λ_ _ _ _ _ _=>(bj (i:=0) (show List.Nodup (["_law_k", "_law_cell"]:List Str) by decide) rfl (Or.inl rfl))) (λ_ _ _ _ _ _=>fG) (λ_ _ _ _ _ _=>(cO G_law_name hr HX (aa (aD 1) (aa (aD 0) aA)))))
  (aF (cG (i:=5) cM.nd rfl (Or.inl rfl) (pL (gF hu) (ak (aL fD (ak (aL jO (az 0) (ak au))) (ak au))) (ak au) (bN _)))
  (aF (cG (i:=6) cM.nd rfl (Or.inl rfl) (aL bD (ak au) (ak (aL fD (az 0) (ak au)))))
  (aF (yJ PassesOwn.leaving (cP j9 (ak (aL bD (ak au) (ak (aL jP (az 6) (ak (aL bD (ak (aL bD (ak au) (az 3))) (ak (aL jP (ak au) (ak (cQ jw rfl B.int pO (aP (az 5) aZ))))))))))) (ak au) (bN _))
  (aK (cG (i:=6) cM.nd rfl (Or.inl rfl) (aL oZ (az 6) (ak au)))))
  (aF (mJ (i:=7) cM.nd rfl (Or.inl rfl) (pR aA))
  (aF (nZ (k:=1000) PassesOwn.leaving rfl (kh rfl B.range (aP (az 6) aZ)) (bj (i:=8) cM.nd rfl (Or.inr rfl))
  (aF (Ae (i:=9) (aJ iV) ["_law_word", "_law_k", "_law_cell"] ["_law_k", "_law_cell"] 1 [8,0] cM.nd rfl (Or.inl rfl) rfl ⟨rfl,by decide +kernel,by decide +kernel,by decide +kernel,by decide +kernel⟩ (.cons rfl (.cons rfl .nil)) (kj (ak (o7 (az 4) rA (qZ (az 3))))) (λ_ _ _ _ _ _=>(bj (i:=0) (show List.Nodup (["_law_word", "_law_k", "_law_cell"]:List Str) by decide) rfl (Or.inl rfl))) (λ_ _ _ _ _ _=>fG) (λ_ _ _ _ _ _=>(aQ (aa (aD 0) (aa (aQ (aa cT (aa (aQ (aa (aL bD (ak (aL fD (ak (aL jO (az 2) (ak au))) (ak au))) (az 1)) (aa au aA))) aA))) aA)))))
  (aF (gA (wz (aD 5))
  (aK (Jz 9 (aQ (aa (aX bO (az 4) (ak au) (λ_ _=>rfl)) (aa (cO G_law_inner hr bf (aa (aD 1) (aa (aD 2) (aa (aD 4) (aa (aL bD (ak (aL jO (az 0) (ak au))) (az 8)) aA))))) aA))) au))
  cN)
  (aK (pN 7 (aQ (aa (aQ (aa au (aa (aD 6) aA))) (aa (aQ (aa cT (aa (aD 1) (aa (aX bO (az 2) (ak au) (λ_ _=>rfl)) (aa (cQ gM rfl B.tuple km (aP (az 9) aZ)) aA))))) aA))))))))
  (aF (cG (i:=10) cM.nd rfl (Or.inl rfl) (aQ (aa cT (aa (aX bO (az 2) (ak au) (λ_ _=>rfl)) (aa (cQ gM rfl B.tuple km (aP (az 7) aZ)) aA)))))
  (aF (gA (cP (gF hu) (ak (aL fD (ak (aL jO (az 0) (ak au))) (ak au))) (ak au) (bN _))
  (aK (cG (i:=10) cM.nd rfl (Or.inl rfl) (aQ (aa cT (aa (aL oZ (ak au) (az 1)) (aa (aX bO (az 2) (ak au) (λ_ _=>rfl)) (aa (aQ (aa (aQ (aa (aX bO (az 4) (ak au) (λ_ _=>rfl)) (aa (aD 10) aA))) aA)) aA)))))))
  cN)
  (aK (cL (aQ (aa (aD 10) (aa (aD 6) (aa (aD 3) (aa (aD 5) aA))))))))))))))))
theorem QZ {a_keener a_gain:Addr}{P:Program}{w:World}{K:W.Frag}{mg:Zs}{base:Heap}{f:Addr}{fd:FuncData}(B:Bt mg)(Hkeener:mg "keener" = some (.ref a_keener))(Hgain:mg "gain" = some (.ref a_gain))(Fu:Fun K "law" "law" tL f fd)(Gkeener:FF P w K mg base 10 "keener" ["game", "side", "name"] bH)(G_law_cell_at:FF P w K mg base 1 "_law_cell_at" ["_law_script", "_law_k"] cu)(G_law_name:FF P w K mg base 1 "_law_name" ["_law_number", "_law_k"] gJ)(G_law_refused:FF P w K mg base 12 "_law_refused" ["_law_asked", "_law_game_here", "_law_side", "_law_name_here"] (cJ a_keener a_gain))(G_law_game:FF P w K mg base 2 "_law_game" ["_law_cell", "_law_side", "_law_names"] fU):
  dm P w K mg base (CX1 P w) 13 f fd ["_law_script"] (spF ⟨K,mg⟩ (GD a_keener a_gain)):=
 cB Fu nu λcdv A outer s H E hr=>by
 have hu:=hr.units;unfold Oe ur;exact (aF (cG (i:=1) nu.nd rfl (Or.inl rfl) (aL fD (ak (cO G_law_cell_at hr bf (aa (aD 0) (aa au aA)))) (ak (aL bD (ak (aL Dl (ak au) (ak au))) (ak au)))))
  (aF (cG (i:=2) nu.nd rfl (Or.inl rfl) (aL bD (ak au) (ak (aL fD (ak (cO G_law_cell_at hr bf (aa (aD 0) (aa au aA)))) (ak au)))))
  (aF (nO (i:=3) (aJ tL) ["_law_k", "_law_script"] ["_law_script"] 1 [0] nu.nd rfl (Or.inl rfl) rfl ⟨rfl,by decide +kernel,by decide +kernel,by decide +kernel,by decide +kernel⟩ (.cons rfl .nil) (rO (kh rfl B.range (aP (ak au) aZ))) (λ_ _ _ _ _ _=>(bj (i:=0) (show List.Nodup (["_law_k", "_law_script"]:List Str) by decide) rfl (Or.inl rfl))) (λ_ _ _ _ _ _=>fG) (λ_ _ _ _ _ _=>(cO G_law_name hr HX (aa (aL fD (ak (cO G_law_cell_at hr HX (aa (aD 1) (aa au aA)))) (ak (aL bD (ak (aL Dl (ak au) (ak au))) (ak au)))) (aa (aD 0) aA)))))
  (aF (Rp (k:=1000) (cO G_law_game hr bf (aa (aD 1) (aa (aD 2) (aa (aD 3) aA)))) (lQ rfl (bK (bj (i:=4) nu.nd rfl (Or.inl rfl)) (bK (bj (i:=5) nu.nd rfl (Or.inl rfl)) (bK (bj (i:=6) nu.nd rfl (Or.inl rfl)) (bK (bj (i:=7) nu.nd rfl (Or.inl rfl)) jr))))))
  (aF (cG (i:=8) nu.nd rfl (Or.inl rfl) (aL jP (az 5) (ak (aL bD (ak au) (ak (cQ jw rfl B.int pO (aP (az 7) aZ)))))))
  (aF (cG (i:=9) nu.nd rfl (Or.inl rfl) (aL jP (az 5) (ak (aL bD (az 6) (ak (aL jP (ak au) (ak (cQ jw rfl B.int pO (aP (az 7) aZ)))))))))
  (aF (gA (cP (ud hu) (ak (cO G_law_refused hr bf (aa (BL rfl Hkeener) (aa (aD 4) (aa (aD 2) (aa (aX bO (az 3) (ak au) (λ_ _=>rfl)) aA)))))) (ak (SJ (pL j9 (az 8) (ak au) (bN _)) (G6 (pL j9 (az 9) (ak au) (bN _))))) (bN _))
  (aK (cL vh))
  cN)
  (aF (gA (SX (Tc (cP j9 (az 8) (ak au) (bN _)) (RM (cP j9 (az 9) (ak au) (bN _)))))
  (aK (gA (QB (wz (cO G_law_refused hr bf (aa (BL rfl Hgain) (aa (aD 4) (aa (aD 2) (aa (aX bO (az 3) (ak au) (λ_ _=>rfl)) aA)))))))
  (aK (cL vh))
  cN))
  (aK (gA (cP (ud hu) (ak (cV dI rfl B.len jm (aP (ak (aX bO (ak (cO Gkeener hr bf (aa (aD 4) (aa (aD 2) (aa (aX bO (az 3) (ak au) (λ_ _=>rfl)) aA))))) (ak au) (λ_ _=>rfl))) aZ))) (az 8) (bN _))
  (aK (cL vh))
  cN)))
  (aF (gA (cP (ud hu) (ak (cV dI rfl B.len jm (aP (ak (aX bO (ak (cO Gkeener hr bf (aa (aD 4) (aa (aD 2) (aa (aX bO (az 3) (ak au) (λ_ _=>rfl)) aA))))) (ak au) (λ_ _=>rfl))) aZ))) (ak (aL bD (ak au) (ak (cQ jw rfl B.int pO (aP (az 7) aZ))))) (bN _))
  (aK (cL vh))
  cN)
  (aF (gA (cP (ud hu) (ak (cV dI rfl B.len jm (aP (ak (aX bO (ak (cO Gkeener hr bf (aa (aD 4) (aa (aD 2) (aa (aX bO (az 3) (ak au) (λ_ _=>rfl)) aA))))) (ak au) (λ_ _=>rfl))) aZ))) (ak (aL bD (ak au) (ak (aL jP (ak au) (ak (cQ jw rfl B.int pO (aP (az 7) aZ))))))) (bN _))
  (aK (cL vh))
  cN)
  (aK (cL (pL (gF hu) (ak (cV dI rfl B.len jm (aP (ak (aX bO (ak (cO Gkeener hr bf (aa (aD 4) (aa (aL oZ (ak au) (az 2)) (aa (aX bO (az 3) (ak au) (λ_ _=>rfl)) aA))))) (ak au) (λ_ _=>rfl))) aZ))) (ak (aL fD (ak (aL jO (az 1) (ak au))) (ak au))) (bN _))))))))))))))
end K56
namespace F
open PySem L2 Hd
section
variable {A:Type}{p:List A->Prop}
theorem xb1 (h:∀a,p [a])(us:List A)(e:us.length=1):p us:=by
 cases us with
 |nil=>cases e
 |cons a t=>cases t with
  |nil=>exact h a
  |cons _ _=>cases e
theorem xb0 (h:∀a t,t.length=n->p (a::t))(us:List A)(e:us.length=n+1):p us:=by
 cases us with
 |nil=>cases e
 |cons a t=>exact h a t (Nat.succ.inj e)
theorem xb2 (h:∀a b,p [a,b]):∀us:List A,us.length=2->p us:=xb0 λa=>xb1 (p:=λt=>p (a::t)) (h a)
theorem xb3 (h:∀a b c,p [a,b,c]):∀us:List A,us.length=3->p us:=xb0 λa=>xb2 (p:=λt=>p (a::t)) (h a)
theorem xb4 (h:∀a b c d,p [a,b,c,d]):∀us:List A,us.length=4->p us:=xb0 λa=>xb3 (p:=λt=>p (a::t)) (h a)
theorem xb5 (h:∀a b c d f,p [a,b,c,d,f]):∀us:List A,us.length=5->p us:=xb0 λa=>xb4 (p:=λt=>p (a::t)) (h a)
end
structure QD (K:W.Frag)(x:Str)(st:Stmt):Prop where
 ex:∃f fd,Fun K x x st f fd/\W.nsIn K mainGlobals x=some (some (.ref f))
section
variable {P:Program}{w:World}{K:W.Frag}{mg:Zs}{base h:Heap}{x q c:Str}{st:Stmt}{ps:List Str}{C f:Addr}{oc:Value}{od an:Option Addr}{osl:Array (Option Value)}{kV doc pm cdv ct:Value}{k:Nat}{sp:Sp}
theorem qd (a:W.nsIn K mainGlobals x=some (some (.ref f)))(l:K.lookup f=some ⟨oc,od,.func (W.fnOf x x (lM st) (iD st) (aJ st) .none kV doc pm an cdv ct),osl⟩)(c:W.codeIn K cdv x=true)(k:W.keepIn K (.ref f)=true):QD K x st:=⟨f,_,O9 l c k,a⟩
theorem QD.df (Q:QD K x st)(X:K.In h)(G:h.Ns mainGlobals mg)(hb:∀(kV doc pm:Value) (an:Option Addr) (cdv ct:Value) (us:List Value),us.length=ps.length->bindArgs (W.fnOf x x (lM st) (iD st) (aJ st) .none kV doc pm an cdv ct) ⟨us,[]⟩=pure (ps.zip us)):Df K mg x st ps:=by
 obtain ⟨f,fd,F,a⟩:=Q.ex;exact ⟨f,fd,F,F.binds hb,W.mg_of X G a⟩
end
end F
namespace K56
open PySem L2 Hd F Pk
theorem all_mk {l:W.OpenLaw}{w:World}{K:W.Frag}{h:Heap}{mg:Zs}{fa:Addr}(X:K.In h)(G:h.Ns mainGlobals mg)(hfa:mg "law" = some (.ref fa))
  (q0:QD K "minus" Ms)
  (q1:QD K "branches_of" iU)
  (q2:QD K "with_ways" mD)
  (q3:QD K "places_of" jN)
  (q4:QD K "words_at" lR)
  (q5:QD K "records_behind" iB)
  (q6:QD K "places_with_records" eY)
  (q7:QD K "row_at" ue)
  (q8:QD K "table_of" nU)
  (q9:QD K "rows_of" mW)
  (q10:QD K "count_words" iJ)
  (q11:QD K "refuse_great_places" cX)
  (q12:QD K "refuse_great_table" fY)
  (q13:QD K "refuse_great_shape" fJ)
  (q14:QD K "balance" Em)
  (q15:QD K "learned" pY)
  (q16:QD K "sharpened" mq)
  (q17:QD K "keener" oR)
  (q18:QD K "gain" zr)
  (q19:QD K "_law_cell_at" jD)
  (q20:QD K "_law_name" mQ)
  (q21:QD K "_law_refused" jz)
  (q22:QD K "_law_inner" gQ)
  (q23:QD K "_law_game" iV)
  (q24:QD K "law" tL)
  {CDuelError:Addr} (nDuelError:W.nsIn K mainGlobals "DuelError" = some (some (.ref CDuelError)))
  {CForgets:Addr} (nForgets:W.nsIn K mainGlobals "Forgets" = some (some (.ref CForgets)))
  {CNoName:Addr} (nNoName:W.nsIn K mainGlobals "NoName" = some (some (.ref CNoName)))
  {CNoNumber:Addr} (nNoNumber:W.nsIn K mainGlobals "NoNumber" = some (some (.ref CNoNumber)))
  {CNoPlace:Addr} (nNoPlace:W.nsIn K mainGlobals "NoPlace" = some (some (.ref CNoPlace)))
  {CNoPlan:Addr} (nNoPlan:W.nsIn K mainGlobals "NoPlan" = some (some (.ref CNoPlan)))
  {CNoRow:Addr} (nNoRow:W.nsIn K mainGlobals "NoRow" = some (some (.ref CNoRow)))
  {CNoShares:Addr} (nNoShares:W.nsIn K mainGlobals "NoShares" = some (some (.ref CNoShares)))
  {CNoText:Addr} (nNoText:W.nsIn K mainGlobals "NoText" = some (some (.ref CNoText)))
  {CNoWord:Addr} (nNoWord:W.nsIn K mainGlobals "NoWord" = some (some (.ref CNoWord)))
  {CTooGreat:Addr} (nTooGreat:W.nsIn K mainGlobals "TooGreat" = some (some (.ref CTooGreat)))
  {CUnlike:Addr} (nUnlike:W.nsIn K mainGlobals "Unlike" = some (some (.ref CUnlike)))
  (zValueError:W.nsIn K mainGlobals "ValueError" = some none)
  (zabs:W.nsIn K mainGlobals "abs" = some none)
  (zall:W.nsIn K mainGlobals "all" = some none)
  (zany:W.nsIn K mainGlobals "any" = some none)
  (zbool:W.nsIn K mainGlobals "bool" = some none)
  (zdict:W.nsIn K mainGlobals "dict" = some none)
  (zenumerate:W.nsIn K mainGlobals "enumerate" = some none)
  (zint:W.nsIn K mainGlobals "int" = some none)
  (zisinstance:W.nsIn K mainGlobals "isinstance" = some none)
  (zlen:W.nsIn K mainGlobals "len" = some none)
  (zlist:W.nsIn K mainGlobals "list" = some none)
  (zmax:W.nsIn K mainGlobals "max" = some none)
  (zrange:W.nsIn K mainGlobals "range" = some none)
  (zreversed:W.nsIn K mainGlobals "reversed" = some none)
  (zsorted:W.nsIn K mainGlobals "sorted" = some none)
  (zstr:W.nsIn K mainGlobals "str" = some none)
  (zsum:W.nsIn K mainGlobals "sum" = some none)
  (ztuple:W.nsIn K mainGlobals "tuple" = some none)
  (zzip:W.nsIn K mainGlobals "zip" = some none)
  {CNOUGHT:Addr} (nNOUGHT:W.nsIn K mainGlobals "NOUGHT" = some (some (.ref CNOUGHT)))
  {odNOUGHT:Option Addr} {nnNOUGHT:Nat} {slNOUGHT:Array (Option Value)} {tNOUGHT0 tNOUGHT1:Tok} (vNOUGHT:K.lookup CNOUGHT=some ⟨.type "tuple",odNOUGHT,.seq #[.int 0 tNOUGHT0,.int 1 tNOUGHT1] nnNOUGHT,slNOUGHT⟩)
  {CONE:Addr} (nONE:W.nsIn K mainGlobals "ONE" = some (some (.ref CONE)))
  {odONE:Option Addr} {nnONE:Nat} {slONE:Array (Option Value)} {tONE0 tONE1:Tok} (vONE:K.lookup CONE=some ⟨.type "tuple",odONE,.seq #[.int 1 tONE0,.int 1 tONE1] nnONE,slONE⟩)
  {tMOST_PLACES:Tok} (nMOST_PLACES:W.nsIn K mainGlobals "MOST_PLACES" = some (some (.int 64 tMOST_PLACES)))
  {tMOST_BRANCHES:Tok} (nMOST_BRANCHES:W.nsIn K mainGlobals "MOST_BRANCHES" = some (some (.int 12 tMOST_BRANCHES)))
  {tMOST_NAMES:Tok} (nMOST_NAMES:W.nsIn K mainGlobals "MOST_NAMES" = some (some (.int 8 tMOST_NAMES)))
  {tMOST_WORDS_SEEN:Tok} (nMOST_WORDS_SEEN:W.nsIn K mainGlobals "MOST_WORDS_SEEN" = some (some (.int 24 tMOST_WORDS_SEEN)))
  {tMOST_ROWS:Tok} (nMOST_ROWS:W.nsIn K mainGlobals "MOST_ROWS" = some (some (.int 8 tMOST_ROWS)))
  {tMOST_WISHED:Tok} (nMOST_WISHED:W.nsIn K mainGlobals "MOST_WISHED" = some (some (.int 8 tMOST_WISHED)))
  {tMOST_OF_BOTH:Tok} (nMOST_OF_BOTH:W.nsIn K mainGlobals "MOST_OF_BOTH" = some (some (.int 7 tMOST_OF_BOTH)))
  (eTooGreat:W.excIn K CTooGreat [.type "ValueError",.type "Exception",.type "BaseException",.type "object"] "ValueError.__new__" = true)
  (xTooGreat0:W.findIn K (.ref CTooGreat) "__getattribute__" = some (some (.builtin "BaseException.__getattribute__")))
  (xTooGreat1:W.findIn K (.ref CTooGreat) "__getattr__" = some none)
  (xTooGreat2:W.findIn K (.ref CTooGreat) "__class__" = some (some (.builtin "object.__class__")))
  (xTooGreat3:W.subIn K (.ref CTooGreat) (.type "BaseException")=some true)
  (xTooGreat4:W.subIn K (.ref CTooGreat) (.type "object")=some true)
  (xTooGreat5:W.hasDictIn K CTooGreat=true)
  (uDuelErrorTooGreat:W.exmOne K (.ref CTooGreat) (.ref CDuelError)=some true)
  (wForgetsTooGreat:W.kitOne K (.ref CTooGreat) (.ref CForgets)=some false)
  (vForgets:W.kitOne K (.type "NoneType") (.ref CForgets)=some false)
  (wNoNameTooGreat:W.kitOne K (.ref CTooGreat) (.ref CNoName)=some false)
  (vNoName:W.kitOne K (.type "NoneType") (.ref CNoName)=some false)
  (wNoNumberTooGreat:W.kitOne K (.ref CTooGreat) (.ref CNoNumber)=some false)
  (vNoNumber:W.kitOne K (.type "NoneType") (.ref CNoNumber)=some false)
  (wNoPlaceTooGreat:W.kitOne K (.ref CTooGreat) (.ref CNoPlace)=some false)
  (vNoPlace:W.kitOne K (.type "NoneType") (.ref CNoPlace)=some false)
  (wNoPlanTooGreat:W.kitOne K (.ref CTooGreat) (.ref CNoPlan)=some false)
  (vNoPlan:W.kitOne K (.type "NoneType") (.ref CNoPlan)=some false)
  (wNoRowTooGreat:W.kitOne K (.ref CTooGreat) (.ref CNoRow)=some false)
  (vNoRow:W.kitOne K (.type "NoneType") (.ref CNoRow)=some false)
  (wNoSharesTooGreat:W.kitOne K (.ref CTooGreat) (.ref CNoShares)=some false)
  (vNoShares:W.kitOne K (.type "NoneType") (.ref CNoShares)=some false)
  (wNoTextTooGreat:W.kitOne K (.ref CTooGreat) (.ref CNoText)=some false)
  (vNoText:W.kitOne K (.type "NoneType") (.ref CNoText)=some false)
  (wNoWordTooGreat:W.kitOne K (.ref CTooGreat) (.ref CNoWord)=some false)
  (vNoWord:W.kitOne K (.type "NoneType") (.ref CNoWord)=some false)
  (wTooGreatTooGreat:W.kitOne K (.ref CTooGreat) (.ref CTooGreat)=some true)
  (vTooGreat:W.kitOne K (.type "NoneType") (.ref CTooGreat)=some false)
  (wUnlikeTooGreat:W.kitOne K (.ref CTooGreat) (.ref CUnlike)=some false)
  (vUnlike:W.kitOne K (.type "NoneType") (.ref CUnlike)=some false)
  (wValueErrorTooGreat:W.kitOne K (.ref CTooGreat) (.type "ValueError")=some true)
  : ∃fd:FuncData,(∀(s:Shared) (v:Value),BindsTo s fd ⟨[v],[]⟩ [("_law_script",v)])/\∀base:Heap,K.In base->base.Ns mainGlobals mg->dm l.prog w K mg base (CX1 l.prog w) 13 fa fd ["_law_script"] (Am K):=by
 obtain ⟨f,fd,F0,a⟩:=q24.ex;have e:=hfa.symm.trans (W.mg_of X G a);cases e;have D0:=q0.df (ps:=["first", "second"]) X G (λ_ _ _ _ _ _=>xb2 λ_ _=>rfl);have D1:=q1.df (ps:=["game"]) X G (λ_ _ _ _ _ _=>xb1 λ_=>rfl);have D2:=q2.df (ps:=["game", "ways"]) X G (λ_ _ _ _ _ _=>xb2 λ_ _=>rfl);have D3:=q3.df (ps:=["game"]) X G (λ_ _ _ _ _ _=>xb1 λ_=>rfl);have D4:=q4.df (ps:=["move"]) X G (λ_ _ _ _ _ _=>xb1 λ_=>rfl);have D5:=q5.df (ps:=["place", "records", "number"]) X G (λ_ _ _ _ _ _=>xb3 λ_ _ _=>rfl);have D6:=q6.df (ps:=["game"]) X G (λ_ _ _ _ _ _=>xb1 λ_=>rfl);have D7:=q7.df (ps:=["move", "records"]) X G (λ_ _ _ _ _ _=>xb2 λ_ _=>rfl);have D8:=q8.df (ps:=["game"]) X G (λ_ _ _ _ _ _=>xb1 λ_=>rfl);have D9:=q9.df (ps:=["game", "side"]) X G (λ_ _ _ _ _ _=>xb2 λ_ _=>rfl);have D10:=q10.df (ps:=["rows"]) X G (λ_ _ _ _ _ _=>xb1 λ_=>rfl);have D11:=q11.df (ps:=["game"]) X G (λ_ _ _ _ _ _=>xb1 λ_=>rfl);have D12:=q12.df (ps:=["game"]) X G (λ_ _ _ _ _ _=>xb1 λ_=>rfl);have D13:=q13.df (ps:=["game"]) X G (λ_ _ _ _ _ _=>xb1 λ_=>rfl);have D14:=q14.df (ps:=["game"]) X G (λ_ _ _ _ _ _=>xb1 λ_=>rfl);have D15:=q15.df (ps:=["place", "side", "name", "number"]) X G (λ_ _ _ _ _ _=>xb4 λ_ _ _ _=>rfl);have D16:=q16.df (ps:=["place", "side", "name", "known", "fresh"]) X G (λ_ _ _ _ _ _=>xb5 λ_ _ _ _ _=>rfl);have D17:=q17.df (ps:=["game", "side", "name"]) X G (λ_ _ _ _ _ _=>xb3 λ_ _ _=>rfl);have D18:=q18.df (ps:=["game", "side", "name"]) X G (λ_ _ _ _ _ _=>xb3 λ_ _ _=>rfl);have D19:=q19.df (ps:=["_law_script", "_law_k"]) X G (λ_ _ _ _ _ _=>xb2 λ_ _=>rfl);have D20:=q20.df (ps:=["_law_number", "_law_k"]) X G (λ_ _ _ _ _ _=>xb2 λ_ _=>rfl);have D21:=q21.df (ps:=["_law_asked", "_law_game_here", "_law_side", "_law_name_here"]) X G (λ_ _ _ _ _ _=>xb4 λ_ _ _ _=>rfl);have D22:=q22.df (ps:=["_law_side", "_law_names", "_law_words", "_law_cell"]) X G (λ_ _ _ _ _ _=>xb4 λ_ _ _ _=>rfl);have D23:=q23.df (ps:=["_law_cell", "_law_side", "_law_names"]) X G (λ_ _ _ _ _ _=>xb3 λ_ _ _=>rfl);have B:Bt mg:=⟨W.mg_none_of X G zValueError,W.mg_none_of X G zabs,W.mg_none_of X G zall,W.mg_none_of X G zany,W.mg_none_of X G zbool,W.mg_none_of X G zdict,W.mg_none_of X G zenumerate,W.mg_none_of X G zint,W.mg_none_of X G zisinstance,W.mg_none_of X G zlen,W.mg_none_of X G zlist,W.mg_none_of X G zmax,W.mg_none_of X G zrange,W.mg_none_of X G zreversed,W.mg_none_of X G zsorted,W.mg_none_of X G zstr,W.mg_none_of X G zsum,W.mg_none_of X G ztuple,W.mg_none_of X G zzip⟩;have Cn:CnT K mg:=⟨⟨.ref CNOUGHT,_,W.mg_of X G nNOUGHT,rfl,λ_ _=>.tup (xs:=[.int 0,.int 1]) (.inr ⟨_,_,_,vNOUGHT,rfl,rfl,(show 2<=sizeLine by decide),(.cons ⟨tNOUGHT0,rfl⟩ (.cons ⟨tNOUGHT1,rfl⟩ .nil))⟩) (.cons (.int 0) (.cons (.int 1) .nil))⟩,⟨.ref CONE,_,W.mg_of X G nONE,rfl,λ_ _=>.tup (xs:=[.int 1,.int 1]) (.inr ⟨_,_,_,vONE,rfl,rfl,(show 2<=sizeLine by decide),(.cons ⟨tONE0,rfl⟩ (.cons ⟨tONE1,rfl⟩ .nil))⟩) (.cons (.int 1) (.cons (.int 1) .nil))⟩,⟨.int 64,_,W.mg_of X G nMOST_PLACES,⟨tMOST_PLACES,rfl⟩,λ_ _=>.int 64⟩,⟨.int 12,_,W.mg_of X G nMOST_BRANCHES,⟨tMOST_BRANCHES,rfl⟩,λ_ _=>.int 12⟩,⟨.int 8,_,W.mg_of X G nMOST_NAMES,⟨tMOST_NAMES,rfl⟩,λ_ _=>.int 8⟩,⟨.int 24,_,W.mg_of X G nMOST_WORDS_SEEN,⟨tMOST_WORDS_SEEN,rfl⟩,λ_ _=>.int 24⟩,⟨.int 8,_,W.mg_of X G nMOST_ROWS,⟨tMOST_ROWS,rfl⟩,λ_ _=>.int 8⟩,⟨.int 8,_,W.mg_of X G nMOST_WISHED,⟨tMOST_WISHED,rfl⟩,λ_ _=>.int 8⟩,⟨.int 7,_,W.mg_of X G nMOST_OF_BOTH,⟨tMOST_OF_BOTH,rfl⟩,λ_ _=>.int 7⟩⟩;have Ex:ExT K mg:=⟨⟨CTooGreat,W.mg_of X G nTooGreat,eTooGreat⟩⟩;have yTooGreat:(W.clsIn K CTooGreat).isSome=true:=by
  obtain ⟨cd,hc,_⟩:=W.any_some xTooGreat5;rw [hc];rfl
 have ZTooGreat:XC K CTooGreat:=⟨xTooGreat0,xTooGreat1,xTooGreat2,xTooGreat3,xTooGreat4,yTooGreat⟩;have MTooGreat:∀{D:Addr},mg "TooGreat" = some (.ref D)->D=CTooGreat:=λh=>by rw [W.mg_of X G nTooGreat] at h;cases h;rfl
 have sDuelError:∀c D,bY c=true->mg c=some (.ref D)->W.exmOne K (.ref D) (.ref CDuelError)=some true:=by
  intro c D hs hm;simp only [bY,Bool.or_eq_true,beq_iff_eq] at hs;subst hs;rw [MTooGreat hm];exact uDuelErrorTooGreat
 have iForgets:∀c D b,d8 c=some b->mg c=some (.ref D)->XC K D/\W.kitOne K (.ref D) (.ref CForgets)=some b:=by
  intro c D b hs hm;simp only [d8] at hs;by_cases qTooGreat:c = "TooGreat"
  ·rw [if_pos qTooGreat] at hs;cases hs;subst qTooGreat;rw [MTooGreat hm];exact ⟨ZTooGreat,wForgetsTooGreat⟩
  rw [if_neg qTooGreat] at hs;cases hs
 have iNoName:∀c D b,fK c=some b->mg c=some (.ref D)->XC K D/\W.kitOne K (.ref D) (.ref CNoName)=some b:=by
  intro c D b hs hm;simp only [fK] at hs;by_cases qTooGreat:c = "TooGreat"
  ·rw [if_pos qTooGreat] at hs;cases hs;subst qTooGreat;rw [MTooGreat hm];exact ⟨ZTooGreat,wNoNameTooGreat⟩
  rw [if_neg qTooGreat] at hs;cases hs
 have iNoNumber:∀c D b,c7 c=some b->mg c=some (.ref D)->XC K D/\W.kitOne K (.ref D) (.ref CNoNumber)=some b:=by
  intro c D b hs hm;simp only [c7] at hs;by_cases qTooGreat:c = "TooGreat"
  ·rw [if_pos qTooGreat] at hs;cases hs;subst qTooGreat;rw [MTooGreat hm];exact ⟨ZTooGreat,wNoNumberTooGreat⟩
  rw [if_neg qTooGreat] at hs;cases hs
 have iNoPlace:∀c D b,d7 c=some b->mg c=some (.ref D)->XC K D/\W.kitOne K (.ref D) (.ref CNoPlace)=some b:=by
  intro c D b hs hm;simp only [d7] at hs;by_cases qTooGreat:c = "TooGreat"
  ·rw [if_pos qTooGreat] at hs;cases hs;subst qTooGreat;rw [MTooGreat hm];exact ⟨ZTooGreat,wNoPlaceTooGreat⟩
  rw [if_neg qTooGreat] at hs;cases hs
 have iNoPlan:∀c D b,fV c=some b->mg c=some (.ref D)->XC K D/\W.kitOne K (.ref D) (.ref CNoPlan)=some b:=by
  intro c D b hs hm;simp only [fV] at hs;by_cases qTooGreat:c = "TooGreat"
  ·rw [if_pos qTooGreat] at hs;cases hs;subst qTooGreat;rw [MTooGreat hm];exact ⟨ZTooGreat,wNoPlanTooGreat⟩
  rw [if_neg qTooGreat] at hs;cases hs
 have iNoRow:∀c D b,gO c=some b->mg c=some (.ref D)->XC K D/\W.kitOne K (.ref D) (.ref CNoRow)=some b:=by
  intro c D b hs hm;simp only [gO] at hs;by_cases qTooGreat:c = "TooGreat"
  ·rw [if_pos qTooGreat] at hs;cases hs;subst qTooGreat;rw [MTooGreat hm];exact ⟨ZTooGreat,wNoRowTooGreat⟩
  rw [if_neg qTooGreat] at hs;cases hs
 have iNoShares:∀c D b,dh c=some b->mg c=some (.ref D)->XC K D/\W.kitOne K (.ref D) (.ref CNoShares)=some b:=by
  intro c D b hs hm;simp only [dh] at hs;by_cases qTooGreat:c = "TooGreat"
  ·rw [if_pos qTooGreat] at hs;cases hs;subst qTooGreat;rw [MTooGreat hm];exact ⟨ZTooGreat,wNoSharesTooGreat⟩
  rw [if_neg qTooGreat] at hs;cases hs
 have iNoText:∀c D b,fW c=some b->mg c=some (.ref D)->XC K D/\W.kitOne K (.ref D) (.ref CNoText)=some b:=by
  intro c D b hs hm;simp only [fW] at hs;by_cases qTooGreat:c = "TooGreat"
  ·rw [if_pos qTooGreat] at hs;cases hs;subst qTooGreat;rw [MTooGreat hm];exact ⟨ZTooGreat,wNoTextTooGreat⟩
  rw [if_neg qTooGreat] at hs;cases hs
 have iNoWord:∀c D b,fL c=some b->mg c=some (.ref D)->XC K D/\W.kitOne K (.ref D) (.ref CNoWord)=some b:=by
  intro c D b hs hm;simp only [fL] at hs;by_cases qTooGreat:c = "TooGreat"
  ·rw [if_pos qTooGreat] at hs;cases hs;subst qTooGreat;rw [MTooGreat hm];exact ⟨ZTooGreat,wNoWordTooGreat⟩
  rw [if_neg qTooGreat] at hs;cases hs
 have iTooGreat:∀c D b,fZ c=some b->mg c=some (.ref D)->XC K D/\W.kitOne K (.ref D) (.ref CTooGreat)=some b:=by
  intro c D b hs hm;simp only [fZ] at hs;by_cases qTooGreat:c = "TooGreat"
  ·rw [if_pos qTooGreat] at hs;cases hs;subst qTooGreat;rw [MTooGreat hm];exact ⟨ZTooGreat,wTooGreatTooGreat⟩
  rw [if_neg qTooGreat] at hs;cases hs
 have iUnlike:∀c D b,fP c=some b->mg c=some (.ref D)->XC K D/\W.kitOne K (.ref D) (.ref CUnlike)=some b:=by
  intro c D b hs hm;simp only [fP] at hs;by_cases qTooGreat:c = "TooGreat"
  ·rw [if_pos qTooGreat] at hs;cases hs;subst qTooGreat;rw [MTooGreat hm];exact ⟨ZTooGreat,wUnlikeTooGreat⟩
  rw [if_neg qTooGreat] at hs;cases hs
 have iValueError:∀c D b,dW c=some b->mg c=some (.ref D)->XC K D/\W.kitOne K (.ref D) (.type "ValueError")=some b:=by
  intro c D b hs hm;simp only [dW] at hs;by_cases qTooGreat:c = "TooGreat"
  ·rw [if_pos qTooGreat] at hs;cases hs;subst qTooGreat;rw [MTooGreat hm];exact ⟨ZTooGreat,wValueErrorTooGreat⟩
  rw [if_neg qTooGreat] at hs;cases hs
 have Xc:XcT K mg:=⟨⟨CDuelError,W.mg_of X G nDuelError,sDuelError⟩,⟨CForgets,W.mg_of X G nForgets,iForgets,vForgets⟩,⟨CNoName,W.mg_of X G nNoName,iNoName,vNoName⟩,⟨CNoNumber,W.mg_of X G nNoNumber,iNoNumber,vNoNumber⟩,⟨CNoPlace,W.mg_of X G nNoPlace,iNoPlace,vNoPlace⟩,⟨CNoPlan,W.mg_of X G nNoPlan,iNoPlan,vNoPlan⟩,⟨CNoRow,W.mg_of X G nNoRow,iNoRow,vNoRow⟩,⟨CNoShares,W.mg_of X G nNoShares,iNoShares,vNoShares⟩,⟨CNoText,W.mg_of X G nNoText,iNoText,vNoText⟩,⟨CNoWord,W.mg_of X G nNoWord,iNoWord,vNoWord⟩,⟨CTooGreat,W.mg_of X G nTooGreat,iTooGreat,vTooGreat⟩,⟨CUnlike,W.mg_of X G nUnlike,iUnlike,vUnlike⟩,⟨W.mg_none_of X G zValueError,iValueError⟩⟩;obtain ⟨oc,od,kV,doc,pm,an,cdv,ct,osl,rfl,lk,hcd⟩:=F0.ex;refine ⟨W.fnOf "law" "law" (lM tL) (iD tL) (aJ tL) .none kV doc pm an cdv ct,λs v=>.of_eq rfl,λbase kb nb=>?_⟩;obtain ⟨a_gain,fd_gain,Ugain,n_gain⟩:=q18.ex;have Hgain:=W.mg_of X G n_gain;obtain ⟨a_keener,fd_keener,Ukeener,n_keener⟩:=q17.ex;have Hkeener:=W.mg_of X G n_keener;have Gminus:=D0.fn (P:=l.prog) (w:=w) (base:=base) λf fd F=>Og (k:=1);have Gbranches_of:=D1.fn (P:=l.prog) (w:=w) (base:=base) λf fd F=>sX B F;have Gwith_ways:=D2.fn (P:=l.prog) (w:=w) (base:=base) λf fd F=>w5 B F;have Gplaces_of:=D3.fn (P:=l.prog) (w:=w) (base:=base) λf fd F=>wZ B F Gbranches_of;have Gwords_at:=D4.fn (P:=l.prog) (w:=w) (base:=base) λf fd F=>xR B F;have Grecords_behind:=D5.fn (P:=l.prog) (w:=w) (base:=base) λf fd F=>oX B F;have Gplaces_with_records:=D6.fn (P:=l.prog) (w:=w) (base:=base) λf fd F=>lF B F Gbranches_of Gplaces_of Grecords_behind;have Grow_at:=D7.fn (P:=l.prog) (w:=w) (base:=base) λf fd F=>FZ B F Gwords_at;have Gtable_of:=D8.fn (P:=l.prog) (w:=w) (base:=base) λf fd F=>yr B F Gplaces_with_records Grow_at;have Grows_of:=D9.fn (P:=l.prog) (w:=w) (base:=base) λf fd F=>zx B F Gtable_of;have Gcount_words:=D10.fn (P:=l.prog) (w:=w) (base:=base) λf fd F=>rR B F;have Grefuse_great_places:=D11.fn (P:=l.prog) (w:=w) (base:=base) λf fd F=>lD B Cn Ex Xc F Gplaces_of;have Grefuse_great_table:=D12.fn (P:=l.prog) (w:=w) (base:=base) λf fd F=>lZ B Cn Ex Xc F Grows_of Gcount_words;have Grefuse_great_shape:=D13.fn (P:=l.prog) (w:=w) (base:=base) λf fd F=>lW B F Grefuse_great_places Grefuse_great_table;have Gbalance:=D14.fn (P:=l.prog) (w:=w) (base:=base) λf fd F=>Og (k:=1);have Glearned:=D15.fn (P:=l.prog) (w:=w) (base:=base) λf fd F=>zN B F;have Gsharpened:∀n:Nat,N6 l.prog w K mg base (1+n) "sharpened" ["place", "side", "name", "known", "fresh"] 4 (bR n):=by
  intro n;induction n with
  |zero=>exact D16.fn λf fd F=>Pg
  |succ n ih=>exact D16.fn λf fd F=>wL B F Gwith_ways Glearned n ih
 have Gkeener:=D17.fn (P:=l.prog) (w:=w) (base:=base) λf fd F=>Gb B F Grefuse_great_shape (Gsharpened 8);have Ggain:=D18.fn (P:=l.prog) (w:=w) (base:=base) λf fd F=>Mf B F Gminus Gbalance Gkeener;have G_law_cell_at:=D19.fn (P:=l.prog) (w:=w) (base:=base) λf fd F=>qT B F;have G_law_name:=D20.fn (P:=l.prog) (w:=w) (base:=base) λf fd F=>vW B F;have G_law_refused:=D21.fn (P:=l.prog) (w:=w) (base:=base) λf fd F=>qP B Xc Hkeener Hgain F Gkeener Ggain;have G_law_inner:=D22.fn (P:=l.prog) (w:=w) (base:=base) λf fd F=>uI B F;have G_law_game:=D23.fn (P:=l.prog) (w:=w) (base:=base) λf fd F=>xg B F G_law_name G_law_inner;exact K8 (Hc (Hd.PL Ukeener Ugain (by decide))) (QZ B Hkeener Hgain F0 Gkeener G_law_cell_at G_law_name G_law_refused G_law_game)
theorem walk {l:W.OpenLaw}{q:Program}{loose:List Str}{XP:(Zs)->Heap->Prop}{YP:World->Heap->Prop}{d:DefRec}{K:Params->W.Frag}(hn:l.most=some 63)(hdf:d.params.defaults=[])
  (hY:∀(w:World) (h:Heap),YP w h->(K w.params).In h)
  (F:∀(w:World) (mg:Zs) (fa:Addr) (h:Heap),(K w.params).In h->h.Ns mainGlobals mg->mg d.name=some (.ref fa)->
   ∃fd:FuncData,(∀(s:Shared) (u:Value),BindsTo s fd ⟨[u],[]⟩ [("_law_script",u)])/\∀base:Heap,(K w.params).In base->base.Ns mainGlobals mg->dm l.prog w (K w.params) mg base (CX1 l.prog w) 13 fa fd ["_law_script"] (Am (K w.params))):
  W.WalkO q loose XP YP l.row.toRowW d [] (λf vs=>PySem.call f vs):=
 L2.Nt (n:=63) (k:=13) (x:="_law_script") (CX:=λw=>CX1 l.prog w) (sp:=λw=>Am (K w.params)) hn (by decide) hdf ⟨rfl,by decide,by decide,rfl⟩ hY F (λ_ _ a ns hl _ hS=>⟨a,ns,rfl,hS,hl,λ_=>rfl⟩) λ_ _ _ _ _ ⟨_,_,_,_,_,_,z⟩=>z.elim
end K56
namespace PySem.W.Fast
theorem tw15005178657951775601:True:=⟨⟩
theorem tw12863379842412829964:True:=⟨⟩
theorem tw7767021900441175856:True:=⟨⟩
theorem tw14445446657051416537:True:=⟨⟩
theorem tw6714101162203854039:True:=⟨⟩
theorem tw1644021755366993376:True:=⟨⟩
theorem tw13303979194187170033:True:=⟨⟩
theorem tw15186079685303232065:True:=⟨⟩
theorem tw8631559004871572482:True:=⟨⟩
theorem tw7544586667833116219:True:=⟨⟩
theorem tw4480390763378880005:True:=⟨⟩
theorem tw1620577463297768511:True:=⟨⟩
theorem tw7764832369110181421:True:=⟨⟩
theorem tw7057699383422450696:True:=⟨⟩
theorem tw15223068260950723902:True:=⟨⟩
theorem tw7456013092657332034:True:=⟨⟩
theorem tw13143554557619004709:True:=⟨⟩
theorem tw18255112452763235903:True:=⟨⟩
theorem tw7801774504254870676:True:=⟨⟩
theorem tw14677755656120360434:True:=⟨⟩
theorem tw805902886995505600:True:=⟨⟩
theorem tw2953532830636596241:True:=⟨⟩
theorem tw5234769019991059994:True:=⟨⟩
theorem tw255587122400357802:True:=⟨⟩
theorem tw3145360707009502369:True:=⟨⟩
theorem tw2176246814699093757:True:=⟨⟩
theorem tw5558875621214202231:True:=⟨⟩
theorem tw18098911688878814049:True:=⟨⟩
theorem tw6552246851321766043:True:=⟨⟩
theorem tw17270068450498417532:True:=⟨⟩
theorem tw8337514329363505296:True:=⟨⟩
theorem tw7705053234820127395:True:=⟨⟩
theorem tw318733904304928512:True:=⟨⟩
theorem tw8889885458942374160:True:=⟨⟩
theorem tw5185537201852623891:True:=⟨⟩
theorem tw17641743092717741962:True:=⟨⟩
theorem tw16309937587375907989:True:=⟨⟩
theorem tw8044083013327020108:True:=⟨⟩
theorem tw16723805824900233389:True:=⟨⟩
theorem tw2368700094122255137:True:=⟨⟩
theorem tw12004371383634198558:True:=⟨⟩
theorem tw165180409440888914:True:=⟨⟩
theorem tw2825548863854622456:True:=⟨⟩
theorem tw12744912403362834342:True:=⟨⟩
theorem tw16143884094500601342:True:=⟨⟩
theorem tw12845894768605022768:True:=⟨⟩
theorem tw16439275536876959776:True:=⟨⟩
theorem tw5426277448638050549:True:=⟨⟩
theorem tw15361408953176718663:True:=⟨⟩
theorem tw12253717674724302696:True:=⟨⟩
theorem tw14302028666693854625:True:=⟨⟩
theorem tw4430417569316206683:True:=⟨⟩
theorem tw11912634276294251391:True:=⟨⟩
theorem tw13549789458334651789:True:=⟨⟩
theorem tw12564238314751306731:True:=⟨⟩
theorem tw4288245252807077886:True:=⟨⟩
theorem tw13101005126511320848:True:=⟨⟩
theorem tw7765260807220721882:True:=⟨⟩
theorem tw11313630235579549391:True:=⟨⟩
theorem tw195451078956363970:True:=⟨⟩
theorem tw2966772560810677595:True:=⟨⟩
theorem tw9543507233448969229:True:=⟨⟩
theorem tw7002626327898515570:True:=⟨⟩
theorem tw6301546822413976376:True:=⟨⟩
theorem tw503911390597673988:True:=⟨⟩
theorem tw8571460643754488289:True:=⟨⟩
theorem tw8491047885884879273:True:=⟨⟩
theorem tw11934231020015323861:True:=⟨⟩
theorem tw2087015613467477579:True:=⟨⟩
theorem tw17041338973021459793:True:=⟨⟩
theorem tw17953135650240535107:True:=⟨⟩
theorem tw11115792654986194465:True:=⟨⟩
theorem tw15266867793085385353:True:=⟨⟩
theorem tw15155708871470293278:True:=⟨⟩
theorem tw11848500432713979312:True:=⟨⟩
theorem tw18342747853049284803:True:=⟨⟩
theorem tw5869296904927997890:True:=⟨⟩
theorem tw13469836562708784819:True:=⟨⟩
theorem tw5351707589246375946:True:=⟨⟩
theorem tw4289893588810259884:True:=⟨⟩
theorem tw4578373346200971559:True:=⟨⟩
theorem tw2596358497828232138:True:=⟨⟩
theorem tw11376210073339170524:True:=⟨⟩
theorem tw12936364101175693175:True:=⟨⟩
theorem tw6534728463400608674:True:=⟨⟩
theorem tw4781496402820790120:True:=⟨⟩
theorem tw2107983100083029064:True:=⟨⟩
theorem tw515622247406847373:True:=⟨⟩
theorem tw9132492416045805245:True:=⟨⟩
theorem tw8336094674214869710:True:=⟨⟩
theorem tw3253701786152203318:True:=⟨⟩
theorem tw12408999798343040870:True:=⟨⟩
theorem tw7182827043473517730:True:=⟨⟩
theorem tw3901665219150350672:True:=⟨⟩
theorem tw11948410976067990724:True:=⟨⟩
theorem tw653666596819559884:True:=⟨⟩
theorem tw12171913712147019952:True:=⟨⟩
theorem tw10738566706179163839:True:=⟨⟩
theorem tw1350694428216796014:True:=⟨⟩
theorem tw14424356115721053737:True:=⟨⟩
theorem tw12272481085184503091:True:=⟨⟩
theorem tw3032313522426238015:True:=⟨⟩
theorem tw11993546976499756848:True:=⟨⟩
theorem tw16834409342444594948:True:=⟨⟩
theorem tw7679804544771072920:True:=⟨⟩
theorem tw16724223674745739293:True:=⟨⟩
theorem tw9622427652551855477:True:=⟨⟩
theorem tw17230567406753542574:True:=⟨⟩
theorem tw5698192870492278631:True:=⟨⟩
theorem tw10833247823687714904:True:=⟨⟩
theorem tw11298105773736885467:True:=⟨⟩
theorem tw4881230566117053500:True:=⟨⟩
theorem tw7270436138089803602:True:=⟨⟩
theorem tw17681390641276750962:True:=⟨⟩
theorem tw16634902684725565315:True:=⟨⟩
theorem tw6622029538396822152:True:=⟨⟩
theorem tw3154647606089739942:True:=⟨⟩
theorem tw4351575673292010129:True:=⟨⟩
theorem tw1663532427817349043:True:=⟨⟩
theorem tw18317738995597651533:True:=⟨⟩
theorem tw11440062428134200085:True:=⟨⟩
theorem tw826155513750454508:True:=⟨⟩
theorem tw16904667410463945210:True:=⟨⟩
theorem tw4212246961940333290:True:=⟨⟩
theorem tw6356869605553549829:True:=⟨⟩
theorem tw654242413493627902:True:=⟨⟩
theorem tw2810655788920076176:True:=⟨⟩
theorem tw12942976445551375608:True:=⟨⟩
theorem tw14922010239251248102:True:=⟨⟩
theorem tw15109510384423377685:True:=⟨⟩
theorem tw8504804020374998706:True:=⟨⟩
theorem tw7973603559394057793:True:=⟨⟩
theorem tw2749300957081672356:True:=⟨⟩
theorem tw4706168650963660491:True:=⟨⟩
theorem tw13345307710371574159:True:=⟨⟩
theorem tw11462891916879450844:True:=⟨⟩
theorem tw570249223017045409:True:=⟨⟩
theorem tw13609625017074591851:True:=⟨⟩
theorem tw16377410498001283164:True:=⟨⟩
theorem tw15544922776343200401:True:=⟨⟩
theorem tw2715287356881785528:True:=⟨⟩
theorem tw11172540990880516549:True:=⟨⟩
theorem tw13826956578012453352:True:=⟨⟩
theorem tw12473771363604676811:True:=⟨⟩
theorem tw13528421868766956579:True:=⟨⟩
theorem tw13147281223059072817:True:=⟨⟩
theorem tw14705264868330745457:True:=⟨⟩
theorem tw6789739639225474550:True:=⟨⟩
theorem tw6315873861725311101:True:=⟨⟩
theorem tw8344241858524685863:True:=⟨⟩
theorem tw325677414114098922:True:=⟨⟩
theorem tw5468322220527636897:True:=⟨⟩
theorem tw16000668016891478954:True:=⟨⟩
theorem tw5505515233973503861:True:=⟨⟩
theorem tw15578173727696863448:True:=⟨⟩
theorem tw15777041306238158158:True:=⟨⟩
theorem tw11577050382277027369:True:=⟨⟩
theorem tw2932786538061026650:True:=⟨⟩
theorem tw2019515519284721165:True:=⟨⟩
theorem tw10304217732206512745:True:=⟨⟩
theorem tw10418179294501832907:True:=⟨⟩
theorem tw13164085345469816305:True:=⟨⟩
theorem tw15223502849818030971:True:=⟨⟩
theorem tw1945469947869823791:True:=⟨⟩
theorem tw12377077178240822480:True:=⟨⟩
theorem tw7392791563870337256:True:=⟨⟩
theorem tw11606068110910048998:True:=⟨⟩
theorem tw14522311242541413991:True:=⟨⟩
theorem tw8024467488107690648:True:=⟨⟩
theorem tw3835752672865704344:True:=⟨⟩
theorem tw11734209093785322265:True:=⟨⟩
theorem tw4508660687635360124:True:=⟨⟩
theorem tw9119288142662562180:True:=⟨⟩
theorem tw263876861469180039:True:=⟨⟩
theorem tw13100371086062155129:True:=⟨⟩
theorem tw914453770874000897:True:=⟨⟩
theorem tw7564746122811369674:True:=⟨⟩
theorem tw9945980781324358066:True:=⟨⟩
theorem tw3131813795304530977:True:=⟨⟩
theorem tw7569857949812382025:True:=⟨⟩
theorem tw14874886407726720577:True:=⟨⟩
theorem tw708045584576584385:True:=⟨⟩
theorem tw14003932849065290976:True:=⟨⟩
theorem tw2397978183384619862:True:=⟨⟩
theorem tw6095533081431847518:True:=⟨⟩
theorem tw16394307650664655996:True:=⟨⟩
theorem tw11265786232906367010:True:=⟨⟩
theorem tw11239879356755547528:True:=⟨⟩
theorem tw7491912208322798155:True:=⟨⟩
theorem tw2057029933310201244:True:=⟨⟩
theorem tw14113850413715932046:True:=⟨⟩
theorem tw13793865535602592198:True:=⟨⟩
theorem tw16802008001023854497:True:=⟨⟩
theorem tw10859302990647005567:True:=⟨⟩
theorem tw11249487760360126764:True:=⟨⟩
theorem tw18147303532785175987:True:=⟨⟩
theorem tw6331559224842997179:True:=⟨⟩
theorem tw17988643542604494425:True:=⟨⟩
theorem tw15703921658484056930:True:=⟨⟩
theorem tw5043572473189709840:True:=⟨⟩
theorem tw3164666886457143494:True:=⟨⟩
theorem tw17573226408108037749:True:=⟨⟩
theorem tw12332450630850216719:True:=⟨⟩
theorem tw11878716083208415851:True:=⟨⟩
theorem tw14976402047637555936:True:=⟨⟩
theorem tw306447734985171233:True:=⟨⟩
theorem tw13343452260449476177:True:=⟨⟩
theorem tw1923964122634591490:True:=⟨⟩
theorem tw11070436839623785307:True:=⟨⟩
theorem tw12708528669721481876:True:=⟨⟩
theorem tw10763615426420729922:True:=⟨⟩
theorem tw1096587929597355903:True:=⟨⟩
theorem tw13931015914057199582:True:=⟨⟩
theorem tw7589737100801601329:True:=⟨⟩
theorem tw17506403923893314583:True:=⟨⟩
theorem tw4219492171965810324:True:=⟨⟩
theorem tw12724505776582504705:True:=⟨⟩
theorem tw4736068898802417121:True:=⟨⟩
theorem tw12909554470855682905:True:=⟨⟩
theorem tw9126578865331042418:True:=⟨⟩
theorem tw8000428919314265368:True:=⟨⟩
theorem tw6775022279269427182:True:=⟨⟩
theorem tw3318529833158245636:True:=⟨⟩
theorem tw2847139014185280696:True:=⟨⟩
theorem tw18127566822595373744:True:=⟨⟩
theorem tw15744551786450313192:True:=⟨⟩
theorem tw15429223752432417554:True:=⟨⟩
theorem tw1246790294693103705:True:=⟨⟩
theorem tw13192166158514828344:True:=⟨⟩
theorem tw11002561440911947366:True:=⟨⟩
theorem tw12951202859001045570:True:=⟨⟩
theorem tw12943489835373972218:True:=⟨⟩
theorem tw8767021009784320060:True:=⟨⟩
theorem tw8466408297625671729:True:=⟨⟩
theorem tw7348316014180281576:True:=⟨⟩
theorem tw6227862153876718833:True:=⟨⟩
theorem tw613032227896793085:True:=⟨⟩
theorem tw2206487843268027201:True:=⟨⟩
theorem tw15638793425058774096:True:=⟨⟩
theorem tw14332038166210239825:True:=⟨⟩
theorem tw13873792802302406947:True:=⟨⟩
theorem tw9789507713676433008:True:=⟨⟩
theorem tw16990863703696578116:True:=⟨⟩
theorem tw16024330821287956279:True:=⟨⟩
theorem tw17122755051701990286:True:=⟨⟩
theorem tw102536647142153734:True:=⟨⟩
theorem tw4511160982337376077:True:=⟨⟩
theorem tw11919928837685622121:True:=⟨⟩
theorem tw10291301998284326302:True:=⟨⟩
theorem tw10047319997956937617:True:=⟨⟩
theorem tw8781055131979358542:True:=⟨⟩
theorem tw5951561299588495247:True:=⟨⟩
theorem tw14596143139711769280:True:=⟨⟩
theorem tw10987126600307748306:True:=⟨⟩
theorem tw9304671420072166303:True:=⟨⟩
theorem tw8554999139830213822:True:=⟨⟩
theorem tw8411716247427551268:True:=⟨⟩
theorem tw7742691412252996760:True:=⟨⟩
theorem tw5137842086160459361:True:=⟨⟩
theorem tw329128362545366586:True:=⟨⟩
theorem tw12076183007497688589:True:=⟨⟩
theorem tw12399083309216263415:True:=⟨⟩
theorem tw13228810335593573629:True:=⟨⟩
theorem tw1303389461150311780:True:=⟨⟩
theorem tw6979135721590155277:True:=⟨⟩
theorem tw2939810295192882234:True:=⟨⟩
theorem tw18385231699965485847:True:=⟨⟩
theorem tw18048012608403755961:True:=⟨⟩
theorem tw16992809089024820239:True:=⟨⟩
theorem tw16775458000731080357:True:=⟨⟩
theorem tw8231317056065915087:True:=⟨⟩
theorem tw2414444153097644574:True:=⟨⟩
theorem tw18285943872964284422:True:=⟨⟩
theorem tw16988236883632540143:True:=⟨⟩
theorem tw10522047940690885002:True:=⟨⟩
theorem tw10710545901554530956:True:=⟨⟩
theorem tw11209714739408025002:True:=⟨⟩
theorem tw14358275747139287273:True:=⟨⟩
theorem tw13411395830199726227:True:=⟨⟩
theorem tw9896408097187742672:True:=⟨⟩
theorem tw4685144096618856248:True:=⟨⟩
theorem tw2208892939964501727:True:=⟨⟩
theorem tw4859912643827302356:True:=⟨⟩
theorem tw15181287807416623091:True:=⟨⟩
theorem tw11903046328373837932:True:=⟨⟩
theorem tw10502616339706267521:True:=⟨⟩
theorem tw153787759972128372:True:=⟨⟩
theorem tw15279047603708555945:True:=⟨⟩
theorem tw14439574985824283962:True:=⟨⟩
theorem tw7163027299358121750:True:=⟨⟩
theorem tw6607884912711546259:True:=⟨⟩
theorem tw6123486547291005656:True:=⟨⟩
theorem tw4430329773086562460:True:=⟨⟩
theorem tw4375154361241944683:True:=⟨⟩
theorem tw2031945366851385430:True:=⟨⟩
theorem tw17596184604305999623:True:=⟨⟩
theorem tw17166659042360078400:True:=⟨⟩
theorem tw17121317156857570259:True:=⟨⟩
theorem tw16511482506094880614:True:=⟨⟩
theorem tw14643109669397229178:True:=⟨⟩
end PySem.W.Fast
open PySem PySem.W PyProof.Rows
set_option maxRecDepth 100000 in
set_option maxHeartbeats 0 in
theorem PySem.Challenge.cw_hushduel_k56_too_much_seen_holds : PySem.Challenge.rw_hushduel_k56_too_much_seen.Holds := by
 w_on;o_law;k_head;(case hw=>w_witness2)
 k_fill
 refine K56.walk (l:=PySem.Challenge.rw_hushduel_k56_too_much_seen) rfl rfl (λw h Y=>PySem.W.km_in_of Y) ?F
 case F=>
  intro w mg fa h KX G hmg;refine' K56.all_mk KX G hmg ?_ ?_ ?_ ?_ ?_ ?_ ?_ ?_ ?_ ?_ ?_ ?_ ?_ ?_ ?_ ?_ ?_ ?_ ?_ ?_ ?_ ?_ ?_ ?_ ?_ ?_ ?_ ?_ ?_ ?_ ?_ ?_ ?_ ?_ ?_ ?_ ?_ ?_ ?_ ?_ ?_ ?_ ?_ ?_ ?_ ?_ ?_ ?_ ?_ ?_ ?_ ?_ ?_ ?_ ?_ ?_ ?_ ?_ ?_ ?_ ?_ ?_ ?_ ?_ ?_ ?_ ?_ ?eTooGreat ?_ ?_ ?_ ?_ ?_ ?_ ?uDuelErrorTooGreat ?wForgetsTooGreat ?vForgets ?wNoNameTooGreat ?vNoName ?wNoNumberTooGreat ?vNoNumber ?wNoPlaceTooGreat ?vNoPlace ?wNoPlanTooGreat ?vNoPlan ?wNoRowTooGreat ?vNoRow ?wNoSharesTooGreat ?vNoShares ?wNoTextTooGreat ?vNoText ?wNoWordTooGreat ?vNoWord ?wTooGreatTooGreat ?vTooGreat ?wUnlikeTooGreat ?vUnlike ?wValueErrorTooGreat
  all_goals try first | (refine' F.qd ?a ?l ?c ?k;(case a=>k_is);(case l=>k_is);(case c=>k_is);(case k=>k_is)) | (refine' F.qm ?a ?i ?l ?c ?k;(case a=>k_is);(case i=>k_is);(case l=>k_is);(case c=>k_is);(case k=>k_is)) | k_is
  (case eTooGreat=>k_exc)
  (case uDuelErrorTooGreat=>kts_exm)
  (case wForgetsTooGreat=>(first | kit_is | (unfold PySem.W.kitOne;rw [if_pos (by simp)])))
  (case vForgets=>(first | kit_is | (unfold PySem.W.kitOne;rw [if_neg (by simp)];k_is) | k_is))
  (case wNoNameTooGreat=>(first | kit_is | (unfold PySem.W.kitOne;rw [if_pos (by simp)])))
  (case vNoName=>(first | kit_is | (unfold PySem.W.kitOne;rw [if_neg (by simp)];k_is) | k_is))
  (case wNoNumberTooGreat=>(first | kit_is | (unfold PySem.W.kitOne;rw [if_pos (by simp)])))
  (case vNoNumber=>(first | kit_is | (unfold PySem.W.kitOne;rw [if_neg (by simp)];k_is) | k_is))
  (case wNoPlaceTooGreat=>(first | kit_is | (unfold PySem.W.kitOne;rw [if_pos (by simp)])))
  (case vNoPlace=>(first | kit_is | (unfold PySem.W.kitOne;rw [if_neg (by simp)];k_is) | k_is))
  (case wNoPlanTooGreat=>(first | kit_is | (unfold PySem.W.kitOne;rw [if_pos (by simp)])))
  (case vNoPlan=>(first | kit_is | (unfold PySem.W.kitOne;rw [if_neg (by simp)];k_is) | k_is))
  (case wNoRowTooGreat=>(first | kit_is | (unfold PySem.W.kitOne;rw [if_pos (by simp)])))
  (case vNoRow=>(first | kit_is | (unfold PySem.W.kitOne;rw [if_neg (by simp)];k_is) | k_is))
  (case wNoSharesTooGreat=>(first | kit_is | (unfold PySem.W.kitOne;rw [if_pos (by simp)])))
  (case vNoShares=>(first | kit_is | (unfold PySem.W.kitOne;rw [if_neg (by simp)];k_is) | k_is))
  (case wNoTextTooGreat=>(first | kit_is | (unfold PySem.W.kitOne;rw [if_pos (by simp)])))
  (case vNoText=>(first | kit_is | (unfold PySem.W.kitOne;rw [if_neg (by simp)];k_is) | k_is))
  (case wNoWordTooGreat=>(first | kit_is | (unfold PySem.W.kitOne;rw [if_pos (by simp)])))
  (case vNoWord=>(first | kit_is | (unfold PySem.W.kitOne;rw [if_neg (by simp)];k_is) | k_is))
  (case wTooGreatTooGreat=>(first | kit_is | (unfold PySem.W.kitOne;rw [if_pos (by simp)])))
  (case vTooGreat=>(first | kit_is | (unfold PySem.W.kitOne;rw [if_neg (by simp)];k_is) | k_is))
  (case wUnlikeTooGreat=>(first | kit_is | (unfold PySem.W.kitOne;rw [if_pos (by simp)])))
  (case vUnlike=>(first | kit_is | (unfold PySem.W.kitOne;rw [if_neg (by simp)];k_is) | k_is))
  (case wValueErrorTooGreat=>(first | kit_is | (unfold PySem.W.kitOne;rw [if_pos (by simp)])))
